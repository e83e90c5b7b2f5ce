import PyProof.Rows.All
import Wide.All
import OpenK.AllK
import Wide.FinOn
import PyProof.EqAt
import PyProof.EqKinds
import PyProof.TupleCall
import PyProof.ZipIter
import PyProof.EnumMake
import PyProof.Draws
import PyProof.LayNew
import PyProof.Rows.SortShell
import PyProof.IsRules
import PyProof.ListIndex
import PyProof.Cells
import PyProof.CompUse
import PyProof.DictItems
import PyProof.DictItemsLoops
import PyProof.Rows.MinMaxN
import PyProof.Rows.Range3
import KE.KRevIter
import PyProof.DictWalks
import PyProof.NeKinds
import PyProof.DictList
import PyProof.DictUpdate
import PyProof.Rows.Tup
import PyProof.FactsAll.tuple_2
import PyProof.Rows.CallKwBuiltin
import KE.KDictSum
import Lean
import PySem.Challenge.RW_plusless_k19_the_nearest_worths
set_option Elab.async false
set_option linter.all false
set_option maxRecDepth 100000
noncomputable section
namespace Lw
open PySem
def top (i:Nat):Stmt:=PySem.Challenge.pw_plusless_k19_the_nearest_worths.main.body.getD i (.Pass ⟨0,0,0,0⟩)
def hdI (s:Stmt) (j:Nat):Stmt:=match s with
  | .ClassDef _ _ _ body _ _ _ _ _ _ _ => body.getD j (.Pass ⟨0, 0, 0, 0⟩)
  | _ => .Pass ⟨0, 0, 0, 0⟩
def hdA (s:Stmt):Arguments:=match s with
  | .FunctionDef _ a _ _ _ _ _ _ _ _ => a
  | _ => {posonlyargs:=[],args:=[],vararg:=none,kwonlyargs:=[],kw_defaults:=[],kwarg:=none,defaults:=[]}
def hdB (s:Stmt):List Stmt:=match s with
  | .FunctionDef _ _ b _ _ _ _ _ _ _ => b
  | _ => []
def hdS (s:Stmt):Scope:=match s with
  | .FunctionDef _ _ _ _ _ _ sc _ _ _ => sc
  | _ => {kind:=.function,names:=[],isGenerator:=false,isCoroutine:=false}
def hEQ (P:Params) (n:Str) (t:Tok) (v:Value):DictEntry:={hash:=PyData.keyHash P n,key:=.str n t,val:=v}
def hFQ (n:Str) (i:Nat) (m:Str) (t:Tok) (c:Addr):Obj:={cls:=.type "function",data:=.func {name:=n,qualname:=n,params:=hdA (top i),body:=.stmts (hdB (top i)),scope:=hdS (top i),globals:=3,closure:=[],defaults:=.none,kwdefaults:=.none,pyModule:=.str m t,code:=.ref c}}
def hCQ (n:Str) (t0 t1 t2:Tok) (a b c d e:Int) (r0:Value) (f:Int) (r1 r2 r3 r4 r5:Value) (g h:Int) (t3:Tok):Obj:={cls:=.type "code",data:=.fields #[.str n t0,.str n t1,.str "/claim/cut.py" t2,.int a 0,.int b 0,.int c 0,.int d 0,.int e 0,r0,.bool true,.int f 0,r1,r2,r3,r4,r5,.int g 0,.int h 0,.str "/claim/cut.py" t3]}
def hMQ (n q:Str) (i j:Nat) (m:Str) (t:Tok) (c:Addr):Obj:={cls:=.type "function",data:=.func {name:=n,qualname:=q,params:=hdA (hdI (top i) j),body:=.stmts (hdB (hdI (top i) j)),scope:=hdS (hdI (top i) j),globals:=3,closure:=[],defaults:=.none,kwdefaults:=.none,pyModule:=.str m t,code:=.ref c}}
def hC2 (q n:Str) (t0 t1 t2:Tok) (a b c d e:Int) (r0:Value) (f:Int) (r1 r2 r3 r4 r5:Value) (g h:Int) (t3:Tok):Obj:={cls:=.type "code",data:=.fields #[.str n t0,.str q t1,.str "/claim/cut.py" t2,.int a 0,.int b 0,.int c 0,.int d 0,.int e 0,r0,.bool true,.int f 0,r1,r2,r3,r4,r5,.int g 0,.int h 0,.str "/claim/cut.py" t3]}
def hGQ (n:Str) (i:Nat):Obj:={cls:=.none,data:=.func {name:=n,qualname:=n,params:=hdA (top i),body:=.stmts (hdB (top i)),scope:=hdS (top i),globals:=0,closure:=[],defaults:=.none,kwdefaults:=.none}}
def hG2 (n q:Str) (i j:Nat):Obj:={cls:=.none,data:=.func {name:=n,qualname:=q,params:=hdA (hdI (top i) j),body:=.stmts (hdB (hdI (top i) j)),scope:=hdS (hdI (top i) j),globals:=0,closure:=[],defaults:=.none,kwdefaults:=.none}}
def hq0:Obj:={cls:=.type "tuple",data:=.seq #[]}
def hq1:Obj:={cls:=.none,data:=.fields #[]}
def hq2 (x1 x2 x3:Nat) (y0:Str):Obj:={cls:=.type "code",data:=.fields #[.str y0 x1,.str y0 (x1+1),.str "/claim/cut.py" (x1+2),.int (.ofNat x2) 0,.int 0 0,.int 0 0,.int 0 0,.int 0 0,.ref x3,.bool false,.int 181 0,.ref (x3+1),.none,.none,.none,.none,.int (.ofNat (x1+3)) 0,.int (.ofNat x2) 0,.str "/claim/cut.py" (x1+4)]}
def hq3Q (x0 x1 x3:Nat) (y2:Str):Obj:={cls:=.type "frame",slots:=#[some (.ref x0),some (.ref 3),some (.ref x1),none,some (.str y2 x3),none,some (.ref 0)]}
def hq4:Obj:={cls:=.type "builtin_function_or_method",data:=.fields #[.builtin "type.__prepare__",.type "type"]}
def hq5 (P:Params) (x0 x2 x3:Nat) (y1:Str):Obj:={cls:=.type "dict",data:=.dict #[hEQ P "__module__" x0 (.str "plusless.errors" 187),hEQ P "__qualname__" (x0+2) (.str y1 (x0+1)),hEQ P "__firstlineno__" (x0+4) (.int (.ofNat x2) (x0+3)),hEQ P "__static_attributes__" (x0+5) (.ref x3)] 4}
def hq6Q (P:Params):Obj:={cls:=.type "dict",data:=.dict #[hEQ P "__module__" 196 (.str "plusless.errors" 187),hEQ P "__firstlineno__" 200 (.int 2 199),hEQ P "__static_attributes__" 201 (.ref 22),hEQ P "__weakref__" 203 (.ref 25),hEQ P "__doc__" 204 .none] 3}
def hq7 (x0:Nat):Obj:={cls:=.type "super",data:=.fields #[.ref x0,.ref x0,.ref x0]}
def hq8 (x0:Nat):Obj:={cls:=.type "builtin_function_or_method",data:=.fields #[.builtin "object.__init_subclass__",.ref x0]}
def hq9:Obj:={cls:=.type "tuple",data:=.seq #[.ref 24]}
def hq10 (P:Params) (x0 x1 x2:Nat):Obj:={cls:=.type "dict",data:=.dict #[hEQ P "__module__" x0 (.str "plusless.errors" 187),hEQ P "__firstlineno__" (x0+4) (.int (.ofNat x1) (x0+3)),hEQ P "__static_attributes__" (x0+5) (.ref x2),hEQ P "__doc__" (x0+6) .none] 2}
def hq11 (x1 x2 x3:Nat) (y0:Str):Obj:={cls:=.type "type",data:=.cls {name:=y0,bases:=[.ref 24],mro:=[.ref (x1+1),.ref 24,.type "ValueError",.type "Exception",.type "BaseException",.type "object"],ns:=x1,qualname:=y0},slots:=#[some (.ref x2),none,some (.str y0 x3),some (.str y0 (x3+8)),some (.builtin "ValueError.__new__"),some (.bool true)]}
def hq12 (x1 x2 x3 x4 x5:Nat) (y0:Str):Obj:=hCQ y0 x1 (x1+1) (x1+2) (.ofNat x2) (.ofNat x3) 0 0 3 (.ref x4) 181 (.ref (x4+1)) .none (.ref (x4+2)) (.ref (x4+3)) (.ref (x4+4)) (.ofNat x5) (.ofNat x2) (x5+1)
def hq13 (x1 x2 x3 x4:Nat) (y0:Str):Obj:=hCQ y0 x1 (x1+1) (x1+2) (.ofNat x2) (.ofNat x3) 0 0 3 (.ref x4) 181 (.ref (x4+1)) .none .none .none (.ref (x4+2)) (.ofNat (x1+3)) (.ofNat x2) (x1+4)
def hK:Params→PySem.W.Frag:=fun P=>(nat_lit 2,{cls:=.none,data:=.dict #[]})::
 (nat_lit 3,{cls:=.type "dict",data:=.dict #[hEQ P "__name__" 165 (.str "law_plusless_k19_the_nearest_worths" 422),hEQ P "__doc__" 166 .none,hEQ P "__package__" 167 .none,hEQ P "__loader__" 168 (.builtin "__main__.__loader__#opaque"),hEQ P "__spec__" 169 .none,hEQ P "__annotations__" 170 (.ref 6),hEQ P "__builtins__" 171 (.ref 4),hEQ P "__file__" 173 (.str "/claim/cut.py" 172),hEQ P "__cached__" 174 .none,hEQ P "PlusError" 206 (.ref 24),hEQ P "NoRow" 222 (.ref 37),hEQ P "NoNumber" 238 (.ref 49),hEQ P "NoSigns" 254 (.ref 61),hEQ P "TooMany" 270 (.ref 73),hEQ P "Lacking" 286 (.ref 85),hEQ P "NoText" 311 (.ref 104),hEQ P "LONGEST_ROW" 315 (.int 16 314),hEQ P "is_whole" 322 (.ref 113),hEQ P "is_row" 328 (.ref 118),hEQ P "need_row" 335 (.ref 125),hEQ P "need_number" 342 (.ref 132),hEQ P "need_row_and_number" 350 (.ref 139),hEQ P "SIGNS" 356 (.ref 140),hEQ P "stepped" 370 (.ref 147),hEQ P "table_of" 380 (.ref 154),hEQ P "halves_of" 390 (.ref 161),hEQ P "half_worths" 396 (.ref 166),hEQ P "walk" 409 (.ref 173),hEQ P "below" 415 (.ref 178),hEQ P "above" 421 (.ref 183),hEQ P "_law_cell" 431 (.ref 190),hEQ P "_law_mix" 441 (.ref 197),hEQ P "_law_box" 452 (.ref 204),hEQ P "_law_take" 462 (.ref 211),hEQ P "_law_row" 477 (.ref 218),hEQ P "_law_all" 483 (.ref 223),hEQ P "_law_worth" 493 (.ref 230),hEQ P "_law_table" 504 (.ref 237),hEQ P "_law_number" 515 (.ref 244),hEQ P "_law_halves" 523 (.ref 251),hEQ P "_law_counts" 537 (.ref 258),hEQ P "_law_marks" 545 (.ref 265),hEQ P "_law_said" 555 (.ref 272),hEQ P "law" 561 (.ref 277)] 44})::
 (nat_lit 23,hq6Q P)::
 (nat_lit 24,{cls:=.type "type",data:=.cls {name:="PlusError",bases:=[.type "ValueError"],mro:=[.ref 24,.type "ValueError",.type "Exception",.type "BaseException",.type "object"],ns:=23,qualname:="PlusError",subclasses:=[.ref 37,.ref 49,.ref 61,.ref 73,.ref 85,.ref 104]},slots:=#[some (.ref 15),none,some (.str "PlusError" 189),some (.str "PlusError" 197),some (.builtin "ValueError.__new__"),some (.bool true)]})::
 (nat_lit 36,hq10 P 214 4 35)::
 (nat_lit 37,hq11 36 28 207 "NoRow")::
 (nat_lit 48,hq10 P 230 6 47)::
 (nat_lit 49,hq11 48 40 223 "NoNumber")::
 (nat_lit 60,hq10 P 246 8 59)::
 (nat_lit 61,hq11 60 52 239 "NoSigns")::
 (nat_lit 72,hq10 P 262 10 71)::
 (nat_lit 73,hq11 72 64 255 "TooMany")::
 (nat_lit 84,hq10 P 278 12 83)::
 (nat_lit 85,hq11 84 76 271 "Lacking")::
 (nat_lit 103,{cls:=.type "dict",data:=.dict #[hEQ P "__module__" 294 (.str "plusless.errors" 187),hEQ P "__firstlineno__" 298 (.int 14 297),hEQ P "__init__" 306 (.ref 101),hEQ P "__static_attributes__" 308 (.ref 102),hEQ P "__doc__" 309 .none] 2})::
 (nat_lit 104,hq11 103 88 287 "NoText")::
 (nat_lit 112,hq12 316 20 1 107 320 "is_whole")::
 (nat_lit 113,hFQ "is_whole" 10 "plusless.rows" 312 112)::
 (nat_lit 117,hq13 323 22 1 114 "is_row")::
 (nat_lit 118,hFQ "is_row" 11 "plusless.rows" 312 117)::
 (nat_lit 124,hq12 329 26 1 119 333 "need_row")::
 (nat_lit 125,hFQ "need_row" 12 "plusless.rows" 312 124)::
 (nat_lit 131,hq12 336 29 1 126 340 "need_number")::
 (nat_lit 132,hFQ "need_number" 13 "plusless.rows" 312 131)::
 (nat_lit 138,hq12 343 32 2 133 348 "need_row_and_number")::
 (nat_lit 139,hFQ "need_row_and_number" 14 "plusless.rows" 312 138)::
 (nat_lit 140,{cls:=.type "tuple",data:=.seq #[.int (-1) 354,.int 1 355]})::
 (nat_lit 146,hq12 357 37 3 141 368 "stepped")::
 (nat_lit 147,hFQ "stepped" 17 "plusless.tables" 351 146)::
 (nat_lit 153,hq12 371 44 2 148 378 "table_of")::
 (nat_lit 154,hFQ "table_of" 18 "plusless.tables" 351 153)::
 (nat_lit 160,hq12 383 50 1 155 388 "halves_of")::
 (nat_lit 161,hFQ "halves_of" 20 "plusless.halves" 381 160)::
 (nat_lit 165,hq13 391 53 1 162 "half_worths")::
 (nat_lit 166,hFQ "half_worths" 21 "plusless.halves" 381 165)::
 (nat_lit 172,hq12 397 56 2 167 407 "walk")::
 (nat_lit 173,hFQ "walk" 22 "plusless.halves" 381 172)::
 (nat_lit 177,hq13 410 69 2 174 "below")::
 (nat_lit 178,hFQ "below" 23 "plusless.halves" 381 177)::
 (nat_lit 182,hq13 416 72 2 179 "above")::
 (nat_lit 183,hFQ "above" 24 "plusless.halves" 381 182)::
 (nat_lit 189,hq12 424 76 2 184 429 "_law_cell")::
 (nat_lit 190,hFQ "_law_cell" 26 "law_plusless_k19_the_nearest_worths" 422 189)::
 (nat_lit 196,hq12 432 80 2 191 439 "_law_mix")::
 (nat_lit 197,hFQ "_law_mix" 27 "law_plusless_k19_the_nearest_worths" 422 196)::
 (nat_lit 203,hq12 442 85 2 198 450 "_law_box")::
 (nat_lit 204,hFQ "_law_box" 28 "law_plusless_k19_the_nearest_worths" 422 203)::
 (nat_lit 210,hq12 453 93 2 205 460 "_law_take")::
 (nat_lit 211,hFQ "_law_take" 29 "law_plusless_k19_the_nearest_worths" 422 210)::
 (nat_lit 217,hq12 463 97 2 212 475 "_law_row")::
 (nat_lit 218,hFQ "_law_row" 30 "law_plusless_k19_the_nearest_worths" 422 217)::
 (nat_lit 222,hq13 478 107 2 219 "_law_all")::
 (nat_lit 223,hFQ "_law_all" 31 "law_plusless_k19_the_nearest_worths" 422 222)::
 (nat_lit 229,hq12 484 115 2 224 491 "_law_worth")::
 (nat_lit 230,hFQ "_law_worth" 32 "law_plusless_k19_the_nearest_worths" 422 229)::
 (nat_lit 236,hq12 494 120 2 231 502 "_law_table")::
 (nat_lit 237,hFQ "_law_table" 33 "law_plusless_k19_the_nearest_worths" 422 236)::
 (nat_lit 243,hq12 505 126 2 238 513 "_law_number")::
 (nat_lit 244,hFQ "_law_number" 34 "law_plusless_k19_the_nearest_worths" 422 243)::
 (nat_lit 250,hq12 516 131 1 245 521 "_law_halves")::
 (nat_lit 251,hFQ "_law_halves" 35 "law_plusless_k19_the_nearest_worths" 422 250)::
 (nat_lit 257,hq12 524 134 1 252 535 "_law_counts")::
 (nat_lit 258,hFQ "_law_counts" 36 "law_plusless_k19_the_nearest_worths" 422 257)::
 (nat_lit 264,hq12 538 142 1 259 543 "_law_marks")::
 (nat_lit 265,hFQ "_law_marks" 37 "law_plusless_k19_the_nearest_worths" 422 264)::
 (nat_lit 271,hq12 546 150 3 266 553 "_law_said")::
 (nat_lit 272,hFQ "_law_said" 38 "law_plusless_k19_the_nearest_worths" 422 271)::
 (nat_lit 276,hq13 556 157 1 273 "law")::
 (nat_lit 277,hFQ "law" 39 "law_plusless_k19_the_nearest_worths" 422 276)::[]
def hA:List Addr:=[2,3,23,24,36,37,48,49,60,61,72,73,84,85,103,104,112,113,117,118,124,125,131,132,138,139,140,146,147,153,154,160,161,165,166,172,173,177,178,182,183,189,190,196,197,203,204,210,211,217,218,222,223,229,230,236,237,243,244,250,251,257,258,264,265,271,272,276,277]
def hV:Program:={PySem.Challenge.pw_plusless_k19_the_nearest_worths with main:={PySem.Challenge.pw_plusless_k19_the_nearest_worths.main with body:=[top 1,top 2,top 3,top 4,top 5,top 6,top 7,top 9,top 10,top 11,top 12,top 13,top 14,top 16,top 17,top 18,top 20,top 21,top 22,top 23,top 24,top 26,top 27,top 28,top 29,top 30,top 31,top 32,top 33,top 34,top 35,top 36,top 37,top 38,top 39]}}
theorem hKA (P:Params):hA=(hK P).map (·.1):=by kernel_rfl
abbrev hX (s:Shared):Bool:=PySem.W.xlAt hV [] s && PySem.W.recOk (PySem.W.RowW.records PySem.Challenge.rw_plusless_k19_the_nearest_worths.row.toRowW) s
def hNQ:=@PySem.W.BT.node
def hzQ:=PySem.W.BT.nil
def hLQ (o:Obj):=PySem.W.BT.node o .nil .nil
def q2Q (P:Params):Obj:=hq2 182 1 11 "<module>"
def q3Q (P:Params):Obj:=hq3Q 13 3 164 "__main__"
def t0T (P:Params):PySem.W.BT:=(hNQ (PySem.W.boot_o_0 P) (hNQ (PySem.W.boot_o_1 P) (hNQ (PySem.W.boot_o_3 P) (hLQ (PySem.W.boot_o_7 P)) (hLQ hq0)) (hNQ (PySem.W.boot_o_5 P) (hLQ (PySem.W.boot_o_9 P)) (hLQ (q2Q P)))) (hNQ (PySem.W.boot_o_2 P) (hNQ (PySem.W.boot_o_4 P) (hLQ (PySem.W.boot_o_8 P)) (hLQ hq1)) (hNQ (PySem.W.boot_o_6 P) (hLQ (PySem.W.boot_o_10 P)) (hLQ (q3Q P)))))
def t1T (P:Params):PySem.W.BT:=(hNQ (PySem.W.boot_o_0 P) (hNQ (PySem.W.boot_o_1 P) (hNQ {cls:=.type "dict",data:=.dict #[hEQ P "__name__" 165 (.str "plusless.errors" 187),hEQ P "__doc__" 166 .none,hEQ P "__package__" 167 .none,hEQ P "__loader__" 168 (.builtin "__main__.__loader__#opaque"),hEQ P "__spec__" 169 .none,hEQ P "__annotations__" 170 (.ref 6),hEQ P "__builtins__" 171 (.ref 4),hEQ P "__file__" 173 (.str "/claim/cut.py" 172),hEQ P "__cached__" 174 .none,hEQ P "PlusError" 206 (.ref 24),hEQ P "NoRow" 222 (.ref 37),hEQ P "NoNumber" 238 (.ref 49),hEQ P "NoSigns" 254 (.ref 61),hEQ P "TooMany" 270 (.ref 73)] 14} (hNQ (PySem.W.boot_o_7 P) (hNQ {cls:=.type "tuple",data:=.seq #[.type "ValueError"]} (hNQ hq0 (hLQ (hq8 61)) hzQ) (hLQ hq0)) (hNQ (hq6Q P) (hNQ (hq8 37) (hLQ hq0) hzQ) (hLQ hq0))) (hNQ hq0 (hNQ hq1 (hNQ hq0 (hLQ hq0) hzQ) (hLQ (hq8 49))) (hNQ (hq8 24) (hNQ hq0 (hLQ (hq8 73)) hzQ) (hLQ hq0)))) (hNQ (PySem.W.boot_o_5 P) (hNQ (PySem.W.boot_o_9 P) (hNQ (hq5 P 196 2 22 "PlusError") (hNQ (hq2 209 4 31 "NoRow") (hLQ hq4) hzQ) (hLQ (hq11 48 40 223 "NoNumber"))) (hNQ {cls:=.type "getset_descriptor",data:=.fields #[.str "__weakref__" 202,.ref 24,.builtin "ExceptionGroup.__weakref__",.none]} (hNQ hq4 (hLQ (hq11 72 64 255 "TooMany")) hzQ) (hLQ (hq2 241 8 55 "NoSigns")))) (hNQ (q2Q P) (hNQ (hq3Q 20 17 187 "plusless.errors") (hNQ (hq11 36 28 207 "NoRow") (hLQ (hq2 257 10 67 "TooMany")) hzQ) (hLQ hq4)) (hNQ hq4 (hLQ (hq2 225 6 43 "NoNumber")) (hLQ (hq11 60 52 239 "NoSigns")))))) (hNQ (PySem.W.boot_o_2 P) (hNQ (PySem.W.boot_o_4 P) (hNQ (PySem.W.boot_o_8 P) (hNQ hq4 (hNQ hq1 (hLQ hq9) hzQ) (hLQ (hq10 P 230 6 47))) (hNQ {cls:=.type "type",data:=.cls {name:="PlusError",bases:=[.type "ValueError"],mro:=[.ref 24,.type "ValueError",.type "Exception",.type "BaseException",.type "object"],ns:=23,qualname:="PlusError",subclasses:=[.ref 37,.ref 49,.ref 61,.ref 73]},slots:=#[some (.ref 15),none,some (.str "PlusError" 189),some (.str "PlusError" 197),some (.builtin "ValueError.__new__"),some (.bool true)]} (hNQ hq9 (hLQ (hq10 P 262 10 71)) hzQ) (hLQ hq1))) (hNQ {cls:=.none,data:=.fields #[.int 2 0,.int 0 0,.ref 20,.int 4 0,.int 0 0,.ref 33,.int 6 0,.int 0 0,.ref 45,.int 8 0,.int 0 0,.ref 57,.int 10 0,.int 0 0,.ref 69]} (hNQ (hq2 191 2 18 "PlusError") (hNQ (hq10 P 214 4 35) (hLQ hq1) hzQ) (hLQ hq9)) (hNQ hq9 (hLQ hq1) (hLQ (hq10 P 246 8 59))))) (hNQ (PySem.W.boot_o_6 P) (hNQ (PySem.W.boot_o_10 P) (hNQ hq0 (hNQ (hq3Q 33 30 187 "plusless.errors") (hLQ (hq5 P 262 10 71 "TooMany")) hzQ) (hLQ (hq7 49))) (hNQ (hq7 24) (hNQ (hq5 P 230 6 47 "NoNumber") (hLQ (hq7 73)) hzQ) (hLQ (hq3Q 57 54 187 "plusless.errors")))) (hNQ (q3Q P) (hNQ hq0 (hNQ (hq7 37) (hLQ (hq3Q 69 66 187 "plusless.errors")) hzQ) (hLQ (hq5 P 246 8 59 "NoSigns"))) (hNQ (hq5 P 214 4 35 "NoRow") (hLQ (hq3Q 45 42 187 "plusless.errors")) (hLQ (hq7 61)))))))
abbrev hpQ:Program:=PySem.Challenge.rw_plusless_k19_the_nearest_worths.row.prog
def hEnv:Env:={scope:=hpQ.main.scope,locals:=mainNs,globals:=mainNs,cells:=[],code:=.ref 13,frame:=some 14}
def hBQ:List Stmt:=PySem.W.behindTheImports hpQ
def hCd:Code:=Code.body hBQ hEnv
def hp0Q:Pos:=⟨0,0,0,0⟩
def hsT (t:PySem.W.BT) (n k:Nat) (os:OsState):PySem.W.SharedT:={tree:=t,n:=n,life:={},gens:=#[],drawn:={},toks:=k,os:=os}
set_option maxHeartbeats 0 in
theorem htg (w:World) (os:OsState):PySem.W.topGo treeTable hpQ w 11 (some (.ref 6)) 12 {heap:=PySem.W.boot_heap w.params,gens:=#[],drawn:=PySem.W.boot_drawn,toks:=PySem.W.boot_toks,os:=os} (PySem.W.topStub hpQ)=some ((hsT (t0T w.params) 15 187 os).abs,{cur:=denote treeTable (Code.body hBQ hEnv),code:=hCd,pos:=hp0Q,stack:=[PySem.W.topFrame hp0Q]}):=by kernel_rfl
set_option maxHeartbeats 0 in
theorem htb (w:World) (os:OsState):PySem.W.segRun treeTable hpQ w 11 (some (.ref 6)) 1 1 (hsT (t0T w.params) 15 187 os).abs (PySem.W.blockOf hBQ hEnv hCd hp0Q [PySem.W.topFrame hp0Q])=some (Flow.next,(hsT (t0T w.params) 15 187 os).abs,hCd,hp0Q):=by kernel_rfl
abbrev hsQ (s:Shared):=PySem.W.openSeen hV [] (importedModules hpQ.main.body) hX true s
abbrev hgQ:=PySem.W.openGood hV []
def hlaQ (w:World) (s:Shared):=(PySem.W.staticsOk (importedModules hpQ.main.body) (PySem.W.boot_heap w.params) s.heap && PySem.W.namesBound hpQ s.heap && PySem.W.gensDone s && PySem.W.laidKept (PySem.W.boot_heap w.params) s.heap,PySem.W.Hook.obs (PySem.W.kHook hK hA hKA) s,(hsQ s).1)
def hlb (w:World) (s:Shared):=((hsQ s).2.1,(hsQ s).2.2.1)
def hlc (w:World) (s:Shared):=(hsQ s).2.2.2
set_option maxHeartbeats 0 in
theorem pc0 (w:World) (os:OsState):PySem.W.segRunT treeTable hpQ w 11 (some (.ref 6)) 1 3100 (hsT (t0T w.params) 15 187 os) (PySem.W.piecesOf ((hBQ.drop 0).take 6) hEnv hCd hp0Q [PySem.W.topFrame hp0Q])=some (Flow.next,hsT (t1T w.params) 76 271 os,hCd,⟨10,0,11,8⟩):=by kernel_rfl
def hrQ (w:World) (os:OsState):=PySem.W.segRunT treeTable hpQ w 11 (some (.ref 6)) 1 2500 (hsT (t1T w.params) 76 271 os) (PySem.W.piecesOf ((hBQ.drop 6).take 34) hEnv hCd ⟨10,0,11,8⟩ [PySem.W.topFrame hp0Q])
def hSa (w:World):Prop:=∀ os,Option.map (fun x=>(x.1,x.2.2.1,x.2.2.2,hlaQ w x.2.1.abs)) (hrQ w os)=some (Flow.next,hCd,⟨157,0,173,15⟩,(true,PySem.W.Hook.val (PySem.W.kHook hK hA hKA) w,hgQ.1))
set_option maxHeartbeats 0 in
theorem pc1a (w:World):hSa w:=fun os=>by kernel_rfl
def hSb (w:World):Prop:=∀ os,Option.map (fun x=>(x.1,x.2.2.1,x.2.2.2,hlb w x.2.1.abs)) (hrQ w os)=some (Flow.next,hCd,⟨157,0,173,15⟩,(hgQ.2.1,hgQ.2.2.1))
set_option maxHeartbeats 0 in
theorem pc1b (w:World):hSb w:=fun os=>by kernel_rfl
def hSc (w:World):Prop:=∀ os,Option.map (fun x=>(x.1,x.2.2.1,x.2.2.2,hlc w x.2.1.abs)) (hrQ w os)=some (Flow.next,hCd,⟨157,0,173,15⟩,hgQ.2.2.2)
set_option maxHeartbeats 0 in
theorem pc1c (w:World):hSc w:=fun os=>by kernel_rfl
theorem htz (w:World) (s:Shared):PySem.W.topRun treeTable hpQ w 11 (some (.ref 6)) 2 s (PySem.W.restOf [] hEnv hCd ⟨157,0,173,15⟩ [PySem.W.topFrame hp0Q])=some s:=by kernel_rfl
set_option maxHeartbeats 0 in
theorem hspQ:hBQ=((hBQ.drop 0).take 6++((hBQ.drop 6).take 34++[])):=by kernel_rfl
theorem left:PySem.W.LeftO hpQ hV [] hX (PySem.W.Hook.obs (PySem.W.kHook hK hA hKA)) (PySem.W.Hook.val (PySem.W.kHook hK hA hKA)) 7600:=fun w=>by
  have o:=PySem.W.boot_open (p:=hpQ) (N:=7600) (by kernel_rfl) (by decide) (fun s=>by kernel_rfl) w
  rcases fo:PySem.W.fencedOpening treeTable hpQ w 7600 with _|⟨b0,b1,b2,b3,os⟩ <;> rw [fo] at o
  · cases o
  obtain ⟨o1,o⟩:=Prod.mk.inj (Option.some.inj o)
  obtain ⟨o2,o⟩:=Prod.mk.inj o
  obtain ⟨o3,o4⟩:=Prod.mk.inj o
  subst o1 o2 o3 o4
  rcases ru:hrQ w os with _|⟨fl,s,cd,po⟩
  · have u:=pc1a w os
    rw [ru] at u
    cases u
  have u:=pc1a w os
  rw [ru] at u
  obtain ⟨g1,u⟩:=Prod.mk.inj (Option.some.inj u)
  obtain ⟨g2,u⟩:=Prod.mk.inj u
  obtain ⟨g3,u⟩:=Prod.mk.inj u
  obtain ⟨l1,u⟩:=Prod.mk.inj u
  obtain ⟨l3,j1⟩:=Prod.mk.inj u
  have u:=pc1b w os
  rw [ru] at u
  obtain ⟨g1,u⟩:=Prod.mk.inj (Option.some.inj u)
  obtain ⟨g2,u⟩:=Prod.mk.inj u
  obtain ⟨g3,u⟩:=Prod.mk.inj u
  obtain ⟨j2,j3⟩:=Prod.mk.inj u
  have j4:=pc1c w os
  rw [ru] at j4
  obtain ⟨g1,j4⟩:=Prod.mk.inj (Option.some.inj j4)
  obtain ⟨g2,j4⟩:=Prod.mk.inj j4
  obtain ⟨g3,j4⟩:=Prod.mk.inj j4
  have l2:hsQ s.abs=hgQ:=Prod.ext j1 (Prod.ext j2 (Prod.ext j3 j4))
  subst g1 g2 g3
  have go:∀ b,b=((hBQ.drop 0).take 6++((hBQ.drop 6).take 34++[])) → PySem.W.topRun treeTable hpQ w 11 (some (.ref 6)) (3100+(2500+2)) (hsT (t0T w.params) 15 187 os).abs (PySem.W.restOf b hEnv hCd hp0Q [PySem.W.topFrame hp0Q])=some s.abs:=fun b z=>by
    subst z
    exact (PySem.W.piece_app (PySem.W.segRun_of (pc0 w os)) (PySem.W.piece_app (PySem.W.segRun_of ru) (htz w s.abs)))
  have r:PySem.W.topRun treeTable hpQ w 11 (some (.ref 6)) 7600 {heap:=PySem.W.boot_heap w.params,gens:=#[],drawn:=PySem.W.boot_drawn,toks:=PySem.W.boot_toks,os:=os} (PySem.W.topStub hpQ)=some s.abs:=PySem.W.topRun_mono 1985 _ _ _ _ (PySem.W.go_top (n:=12) (N:=1+(3100+(2500+2))) (htg w os) (PySem.W.piece_block (n:=1) (N:=(3100+(2500+2))) (htb w os) (go hBQ hspQ)))
  have z1:((PySem.W.boot_heap w.params).isNs mainGlobals && (#[]:Array GenState).size==0)=true:=by kernel_rfl
  have z2:(PySem.W.boot_heap w.params).objs.size=11:=by kernel_rfl
  have z3:(PySem.W.boot_heap w.params).nsMap mainGlobals "__annotations__"=some (.ref 6):=by kernel_rfl
  have tf:PySem.W.topFrom treeTable hpQ w 7600 {heap:=PySem.W.boot_heap w.params,gens:=#[],drawn:=PySem.W.boot_drawn,toks:=PySem.W.boot_toks,os:=os}=some s.abs:=by simp only [PySem.W.topFrom,z1,z2,z3,r,Option.bind_some,l1]
  unfold PySem.W.openEnds
  rw [fo,Option.bind_some,tf]
  have l4:PySem.W.openSeen hV [] (importedModules hpQ.main.body) hX true s.abs=PySem.W.openGood hV []:=l2
  show some (_,_)=some _
  rw [l4,show PySem.W.Hook.obs (PySem.W.kHook hK hA hKA) s.abs=_ from l3]
end Lw
section
set_option Elab.async false
set_option linter.all false
set_option maxRecDepth 100000
set_option genSizeOf false
theorem Au.h2 (h:True:=by decide):True:=h
theorem Au.h5 (h:True:=by intro _; rfl):True:=h
theorem Au.h1 (h:True:=by rfl):True:=h
theorem Au.h8 (h:True:=by intro _ _ z; cases z):True:=h
theorem Au.h0 (h:True:=by kernel_rfl):True:=h
theorem Au.h3 (h:True:=by decide +kernel):True:=h
theorem Au.h9 (h:True:=by first | exact L2.nomark _ | kernel_rfl):True:=h
theorem Au.h4 (h:True:=by intro _; kernel_rfl):True:=h
theorem Au.h7 (h:True:=by first | left; rfl | right; kernel_rfl):True:=h
theorem ex5 {α β:Type} {a b c:α→β→Prop} {P:Prop} (z:∃ x y,a x y∧b x y∧c x y) (f:∀ x y,a x y→b x y→c x y→P):P:=by
 obtain ⟨x,y,u,v,w⟩:=z
 exact f x y u v w
namespace L2
open PySem PySem.Spec PyProof.Rows
abbrev Key:=Sum Int Str
def keyIs:Key→Value→Bool
 | .inl k,v=>Value.isInt k v
 | .inr x,v=>Value.isStrOf x v
def keyH (w:World):Key→Int
 | .inl k=>hashInt k
 | .inr x=>hashStr w x
theorem keyIs_shape:∀ {k:Key} {v:Value},keyIs k v=true→(∃ i t,k=Sum.inl i∧v=Value.int i t) ∨ (∃ x t,k=Sum.inr x∧v=Value.str x t)
 | .inl i,v,h=>by
  obtain ⟨t,e⟩:=Value.isInt_shape (k:=i) (v:=v) h
  exact .inl ⟨i,t,rfl,e⟩
 | .inr x,v,h=>by
  obtain ⟨t,e⟩:=Value.isStrOf_shape (x:=x) (v:=v) h
  exact .inr ⟨x,t,rfl,e⟩
theorem keyIs_int (i:Int) (t:Tok):keyIs (.inl i) (.int i t)=true:=by simp [keyIs,Value.isInt]
theorem keyIs_str (x:Str) (t:Tok):keyIs (.inr x) (.str x t)=true:=by simp [keyIs,Value.isStrOf]
theorem key_ll (a b:Int):decide ((Sum.inl a:Key)=Sum.inl b)=(a == b):=by
 by_cases e:a=b
 ·subst e; simp
 ·have h:¬ (Sum.inl a:Key)=Sum.inl b:=fun q=>e (Sum.inl.inj q)
  rw [decide_eq_false h]
  exact (beq_eq_false_iff_ne.mpr e).symm
theorem key_rr (a b:Str):decide ((Sum.inr a:Key)=Sum.inr b)=decide (a=b):=by
 by_cases e:a=b
 ·subst e; simp
 ·have h:¬ (Sum.inr a:Key)=Sum.inr b:=fun q=>e (Sum.inr.inj q)
  rw [decide_eq_false h,decide_eq_false e]
theorem key_lr (a:Int) (b:Str):decide ((Sum.inl a:Key)=Sum.inr b)=false:=decide_eq_false (fun q=>nomatch q)
theorem key_rl (a:Str) (b:Int):decide ((Sum.inr a:Key)=Sum.inl b)=false:=decide_eq_false (fun q=>nomatch q)
def mixKind (prog:Program) (w:World):PySem.KeyKind prog w Key where
 is:=keyIs
 hash:=keyH w
 inj:=fun v a b ha hb=>by
  rcases keyIs_shape ha with ⟨i,t,rfl,rfl⟩ | ⟨x,t,rfl,rfl⟩
  ·rcases keyIs_shape hb with ⟨j,u,rfl,e⟩ | ⟨y,u,rfl,e⟩
   ·injection e with e1 _; rw [e1]
   ·exact nomatch e
  ·rcases keyIs_shape hb with ⟨j,u,rfl,e⟩ | ⟨y,u,rfl,e⟩
   ·exact nomatch e
   ·injection e with e1 _; rw [e1]
 byValue:=fun k v h=>by
  rcases keyIs_shape h with ⟨i,t,rfl,rfl⟩ | ⟨x,t,rfl,rfl⟩ <;> rfl
 pyHash:=fun hv h=>by
  rcases keyIs_shape hv with ⟨i,t,rfl,rfl⟩ | ⟨x,t,rfl,rfl⟩
  ·exact wpAny_pyHash_int h
  ·exact wpAny_pyHash_str h
 eqBool:=fun hu hv h=>by
  rcases keyIs_shape hu with ⟨i,t,rfl,rfl⟩ | ⟨x,t,rfl,rfl⟩
  ·rcases keyIs_shape hv with ⟨j,u,rfl,rfl⟩ | ⟨y,u,rfl,rfl⟩
   ·rw [key_ll] at h; exact wpAny_eqBool_int h
   ·rw [key_lr] at h; exact SeqAt.EqAt.int_str i t y u _ _ _ _ h
  ·rcases keyIs_shape hv with ⟨j,u,rfl,rfl⟩ | ⟨y,u,rfl,rfl⟩
   ·rw [key_rl] at h; exact SeqAt.EqAt.str_int x t j u _ _ _ _ h
   ·rw [key_rr] at h; exact wpAny_eqBool_str h
 «strs»:=fun k x t v h=>by
  rcases keyIs_shape h with ⟨i,u,rfl,e⟩ | ⟨y,u,rfl,e⟩
  ·exact nomatch e
  ·injection e with e1 _
   subst e1
   cases v <;> rfl
theorem mixKind_is (prog:Program) (w:World) (k:Key) (v:Value):(mixKind prog w).is k v=keyIs k v:=rfl
theorem mixKind_int (prog:Program) (w:World) (i:Int) (t:Tok):(mixKind prog w).is (.inl i) (.int i t)=true:=keyIs_int i t
theorem mixKind_str (prog:Program) (w:World) (x:Str) (t:Tok):(mixKind prog w).is (.inr x) (.str x t)=true:=keyIs_str x t
end L2
namespace L2
open PySem PySem.Spec PyProof.Rows
inductive V where
 | non | bl (b:Bool) | int (i:Int) | str (x:Str) | byt (b:Array UInt8) | flt (b:UInt64) | ref (a:Addr) | ty (n:String)
 deriving DecidableEq
def RelV:V→Value→Prop
 | .non,u=>u=Value.none
 | .bl b,u=>u=Value.bool b
 | .int i,u=>∃ t,u=Value.int i t
 | .str x,u=>∃ t,u=Value.str x t
 | .byt b,u=>∃ t,u=Value.bytes b t
 | .flt b,u=>∃ t,u=Value.float b t
 | .ref a,u=>u=Value.ref a
 | .ty n,u=>u=Value.type n
abbrev Vals:List V→List Value→Prop:=Paired RelV
theorem Vals.length {xs:List V} {us:List Value} (r:Vals xs us):xs.length=us.length:=Paired.length r
theorem Vals.get:∀ {xs:List V} {us:List Value} {i:Nat} {x:V},Vals xs us→xs[i]?=some x→∃ u,us[i]?=some u∧RelV x u
 | _,_,_,_,.nil,e=>by simp at e
 | _,_,0,_,.cons r _,e=>by simp at e; subst e; exact ⟨_,rfl,r⟩
 | _,_,i + 1,x,.cons _ t,e=>by
  obtain ⟨u,h1,h2⟩:=Vals.get (i:=i) (x:=x) t (by simpa using e)
  exact ⟨u,by simpa using h1,h2⟩
theorem Vals.set {x:V} {u:Value} (r:RelV x u):∀ {xs:List V} {us:List Value} (i:Nat),Vals xs us→Vals (xs.set i x) (us.set i u)
 | _,_,_,.nil=>.nil
 | _,_,0,.cons _ t=>.cons r t
 | _,_,i + 1,.cons q t=>.cons q (Vals.set r i t)
theorem Vals.append:∀ {xs ys:List V} {us ws:List Value},Vals xs us→Vals ys ws→Vals (xs ++ ys) (us ++ ws)
 | _,_,_,_,.nil,s=>s
 | _,_,_,_,.cons r t,s=>.cons r (Vals.append t s)
theorem Vals.take:∀ {xs:List V} {us:List Value} (n:Nat),Vals xs us→Vals (xs.take n) (us.take n)
 | _,_,0,_=>.nil
 | _,_,_ + 1,.nil=>.nil
 | _,_,n + 1,.cons r t=>.cons r (Vals.take n t)
theorem Vals.drop:∀ {xs:List V} {us:List Value} (n:Nat),Vals xs us→Vals (xs.drop n) (us.drop n)
 | _,_,0,r=>r
 | _,_,_ + 1,.nil=>.nil
 | _,_,n + 1,.cons _ t=>Vals.drop n t
def RelO:Option V→Option Value→Prop
 | some v,some u=>RelV v u
 | none,none=>True
 | _,_=>False
def KV {κ:Type}:List (κ × V)→List (κ × Value)→Prop:=Paired fun (p:κ × V) (q:κ × Value)=>p.1=q.1∧RelV p.2 q.2
def kV:Key→V
 | .inl i=>.int i
 | .inr x=>.str x
set_option genInjectivity false in
inductive HO where
 /-- a list -/
 | lst (xs:List V)
 /-- a tuple (never changes) -/
 | tup (xs:List V)
 /-- a dict whose keys are ints and texts; one whose keys are tuples of ints and texts (the empty one is both) -/
 | dK (kvs:List (Key × V)) | dT (kvs:List (List Key × V))
 /-- a set of ints: its members,its size -/
 | set (S:Int→Bool) (n:Nat)
 /-- an instance of the class at C,its dict at dx,its attributes -/
 | ins (C dx:Addr) (fs:List (Str × V))
 /-- the dict of the instance at x -/
 | own (x:Addr)
 /-- the dict of an exception -/
 | xd (fs:List (Str × V))
 /-- a bound method,f of x -/
 | met (f x:Addr)
 /-- a range object lo,lo + 1,.. below hi -/
 | rng (lo hi:Int)
 /-- a thing that is known to the object (the script; a dict while a loop walks it): read,never written while it is so -/
 | frz (o:Obj) (u:HO)
 /-- a code object's table -/
 | tbl (ps:Array Value)
 /-- any other thing,by what is true of its one object (a def of one's own: SetO a S n:=HO.ext fun h=>..) -/
 | ext (φ:Heap→Prop)
abbrev Hp:=Addr→Option HO
def upd (H:Hp) (a:Addr) (o:HO):Hp:=fun b=>if b=a then some o else H b
theorem upd_same {H:Hp} {a:Addr} {o:HO}:upd H a o a=some o:=by unfold upd; rw [if_pos rfl]
theorem upd_ne {H:Hp} {a b:Addr} {o:HO} (h:b ≠ a):upd H a o b=H b:=by unfold upd; rw [if_neg h]
theorem ne_of {H:Hp} {a b:Addr} {o u:HO} (h:H a=some o) (h':H b=some u) (d:o ≠ u):a ≠ b:=by
 intro e; subst e; rw [h] at h'; exact d (Option.some.inj h')
theorem ne_of_none {H:Hp} {a b:Addr} {o:HO} (h:H a=some o) (h':H b=none):a ≠ b:=by
 intro e; subst e; rw [h] at h'; cases h'
section
variable (P:Program) (w:World)
def ObjOk (H:Hp) (h:Heap) (a:Addr):HO→Prop
 | .lst xs=>xs.length≤sizeLine∧∃ (its:List Value) (n:Nat),Vals xs its∧h.get? a=some { cls:=.type "list",data:=.seq its.toArray n }
 | .tup xs=>xs.length≤sizeLine∧∃ its:List Value,Vals xs its∧IsTup h a its.toArray
 | .dK kvs=>kvs.length≤sizeLine∧(a == sysModules)=false∧∃ vs,KV kvs vs∧h.DictOf (mixKind P w) a vs
 | .dT kvs=>kvs.length≤sizeLine∧(a == sysModules)=false∧∃ xs:List (List Key × Addr × Value),
   Paired (fun (p:List Key × V) (q:List Key × Addr × Value)=>p.1=q.1∧H q.2.1=some (.tup (p.1.map kV))∧RelV p.2 q.2.2) kvs xs∧
   ∃ o es ep,h.get? a=some o∧o.ExactDict∧o.data=.dict es ep∧es.toList=xs.map (entryOfKey (tupleKind (mixKind P w)))∧(xs.map (·.1)).Nodup
 | .set S n=>h.SetOf (intKind P w) a S n
 | .ins C dx fs=>H dx=some (.own a)∧fs.length≤1000∧dx ≠ a∧h.get? a=some (PySem.W.instObj C dx)∧
   ∃ mA,h.Ns1 dx mA∧(∀ f,RelO (fs.lookup f) (mA f))∧PySem.Within mA (fs.map (·.1))
 | .own _=>∃ o,h.get? a=some o
 | .xd fs=>∃ mA,h.Ns1 a mA∧∀ f,RelO (fs.lookup f) (mA f)
 | .rng lo hi=>∃ t u v,h.get? a=some { cls:=.type "range",data:=.fields #[.int lo t,.int hi u,.int 1 v] }
 | .frz o u=>h.get? a=some o∧ObjOk H h a u
 | .tbl ps=>h.get? a=some { cls:=.none,data:=.fields ps }
 | .met f x=>h.get? a=some (PySem.W.methodObj (.ref f) (.ref x))
 | .ext φ=>φ h∧(∃ o,h.get? a=some o)∧∀ h1 h2:Heap,φ h1→(∀ o,h1.get? a=some o→h2.get? a=some o)→φ h2
def HOk (H:Hp) (h:Heap):Prop:=∀ a o,H a=some o→ObjOk P w H h a o
end
section
variable {P:Program} {w:World} {H H':Hp} {h h':Heap} {a:Addr} {o:HO}
theorem ObjOk.lt (x:ObjOk P w H h a o):a < h.objs.size:=by
 cases o with
 | lst xs=>obtain ⟨_,_,_,_,e⟩:=x; exact Heap.lt_size e
 | tup xs=>obtain ⟨_,_,_,p⟩:=x; exact p.lt
 | dK kvs=>obtain ⟨_,_,_,_,o,_,_,e,_⟩:=x; exact Heap.lt_size e
 | dT kvs=>obtain ⟨_,_,_,_,o,_,_,e,_⟩:=x; exact Heap.lt_size e
 | set S n=>obtain ⟨o,_,_,_,e,_⟩:=x; exact Heap.lt_size e
 | ins C dx fs=>obtain ⟨_,_,_,e,_⟩:=x; exact Heap.lt_size e
 | own y=>obtain ⟨_,e⟩:=x; exact Heap.lt_size e
 | xd fs=>obtain ⟨_,⟨_,_,_,e,_⟩,_⟩:=x; exact Heap.lt_size e
 | rng lo hi=>obtain ⟨_,_,_,e⟩:=x; exact Heap.lt_size e
 | frz ob u=>obtain ⟨e,_⟩:=x; exact Heap.lt_size e
 | tbl ps=>exact Heap.lt_size (show h.get? a=some _ from x)
 | met f y=>exact Heap.lt_size (show h.get? a=some _ from x)
 | ext φ=>obtain ⟨_,⟨_,e⟩,_⟩:=x; exact Heap.lt_size e
theorem Paired.mapP {α β:Type} {F G:α→β→Prop}:∀ {l₁:List α} {l₂:List β},Paired F l₁ l₂→(∀ a b,F a b→G a b)→Paired G l₁ l₂
 | _,_,.nil,_=>.nil
 | _,_,.cons r t,f=>.cons (f _ _ r) (Paired.mapP t f)
theorem ObjOk.stay (x:ObjOk P w H h a o) (k:∀ b u,(b=a ∨ H b=some (.own a))→h.get? b=some u→h'.get? b=some u)
  (ho:∀ b,H b=some (.own a)→H' b=some (.own a)) (ht:∀ b xs,H b=some (.tup xs)→H' b=some (.tup xs)):ObjOk P w H' h' a o:=by
 induction o with
 | lst xs=>obtain ⟨z,its,n,r,e⟩:=x; exact ⟨z,its,n,r,k _ _ (.inl rfl) e⟩
 | tup xs=>obtain ⟨z,its,r,ob,e,c⟩:=x; exact ⟨z,its,r,ob,k _ _ (.inl rfl) e,c⟩
 | dK kvs=>obtain ⟨z,y,vs,r,ob,es,ep,e,c⟩:=x; exact ⟨z,y,vs,r,ob,es,ep,k _ _ (.inl rfl) e,c⟩
 | dT kvs=>
  obtain ⟨z,y,xs,r,ob,es,ep,e,c⟩:=x
  exact ⟨z,y,xs,Paired.mapP r fun p q z=>⟨z.1,ht _ _ z.2.1,z.2.2⟩,ob,es,ep,k _ _ (.inl rfl) e,c⟩
 | set S n=>obtain ⟨ob,es,ep,t,e,c⟩:=x; exact ⟨ob,es,ep,t,k _ _ (.inl rfl) e,c⟩
 | ins C dx fs=>
  obtain ⟨d,z,ne,e,mA,⟨od,es,ep,e2,c⟩,r⟩:=x
  exact ⟨ho _ d,z,ne,k _ _ (.inl rfl) e,mA,⟨od,es,ep,k _ _ (.inr d) e2,c⟩,r⟩
 | own y=>obtain ⟨ob,e⟩:=x; exact ⟨ob,k _ _ (.inl rfl) e⟩
 | xd fs=>obtain ⟨mA,⟨od,es,ep,e,c⟩,r⟩:=x; exact ⟨mA,⟨od,es,ep,k _ _ (.inl rfl) e,c⟩,r⟩
 | rng lo hi=>obtain ⟨t,u,v,e⟩:=x; exact ⟨t,u,v,k _ _ (.inl rfl) e⟩
 | frz ob u ih=>obtain ⟨e,q⟩:=x; exact ⟨k _ _ (.inl rfl) e,ih q⟩
 | tbl ps=>
  have e:h.get? a=some { cls:=.none,data:=.fields ps }:=x
  show h'.get? a=some { cls:=.none,data:=.fields ps }
  exact k a _ (.inl rfl) e
 | met f y=>
  have e:h.get? a=some (PySem.W.methodObj (.ref f) (.ref y)):=x
  show h'.get? a=some (PySem.W.methodObj (.ref f) (.ref y))
  exact k a _ (.inl rfl) e
 | ext φ=>obtain ⟨p,⟨o,e⟩,st⟩:=x; exact ⟨st _ _ p fun o q=>k _ _ (.inl rfl) q,⟨o,k _ _ (.inl rfl) e⟩,st⟩
theorem HOk.lt (x:HOk P w H h) (e:H a=some o):a < h.objs.size:=(x a o e).lt
theorem HOk.fresh (x:HOk P w H h) (e:h.objs.size≤a):H a=none:=by
 cases q:H a with
 | none=>rfl
 | some u=>exact absurd (Nat.lt_of_lt_of_le (x.lt q) e) (Nat.lt_irrefl _)
theorem HOk.kept (x:HOk P w H h) (k:∀ b u,h.get? b=some u→h'.get? b=some u):HOk P w H h':=fun a o e=>
 (x a o e).stay (fun b u _ q=>k b u q) (fun _ q=>q) fun _ _ q=>q
theorem HOk.laid (x:HOk P w H h) (k:∀ b u,h.get? b=some u→h'.get? b=some u) (hp:h.objs.size≤a) (new:ObjOk P w (upd H a o) h' a o):HOk P w (upd H a o) h':=fun b u e=>by
 have hn:=x.fresh hp
 by_cases hb:b=a
 ·subst hb; rw [upd_same] at e; cases e; exact new
 ·rw [upd_ne hb] at e
  exact (x b u e).stay (fun c v _ q=>k c v q) (fun c q=>by rw [upd_ne (ne_of_none q hn)]; exact q) fun c xs q=>by rw [upd_ne (ne_of_none q hn)]; exact q
end
def Rd (H:Hp) (a:Addr) (u:HO):Prop:=H a=some u ∨ ∃ o,H a=some (.frz o u)
theorem Rd.ok {P:Program} {w:World} {H:Hp} {h:Heap} {a:Addr} {u:HO} (r:Rd H a u) (x:HOk P w H h):ObjOk P w H h a u:=by
 rcases r with r | ⟨o,r⟩
 ·exact x a u r
 ·obtain ⟨_,q⟩:=x a _ r
  exact q
def Mut:Option HO→Prop
 | some (.lst _)=>True
 | some (.dK _)=>True
 | some (.dT _)=>True
 | some (.set _ _)=>True
 | some (.ins _ _ _)=>True
 | some (.ext _)=>True
 | _=>False
section
variable {P:Program} {w:World} {H:Hp} {h h':Heap} {x e:Addr} {o':HO}
theorem HOk.write (ok:HOk P w H h) (mu:Mut (H x)) (he:e=x ∨ H e=some (.own x)) (k:∀ b u,b ≠ e→h.get? b=some u→h'.get? b=some u) (heo:∃ u,h'.get? e=some u)
  (new:ObjOk P w (upd H x o') h' x o'):HOk P w (upd H x o') h':=fun b u q=>by
 have nown:∀ c y,H c=some (.own y)→c ≠ x:=fun c y r z=>by subst z; rw [r] at mu; exact mu
 have ntup:∀ c xs,H c=some (.tup xs)→c ≠ x:=fun c xs r z=>by subst z; rw [r] at mu; exact mu
 by_cases hb:b=x
 ·subst hb; rw [upd_same] at q; cases q; exact new
 ·rw [upd_ne hb] at q
  by_cases hbe:b=e
  ·have q':H b=some (.own x):=by
    rcases he with z | z
    ·exact absurd (hbe.trans z) hb
    ·rw [hbe]; exact z
   rw [q] at q'; cases q'
   obtain ⟨v,hv⟩:=heo
   exact ⟨v,by rw [hbe]; exact hv⟩
  ·refine (ok b u q).stay (fun c v hc r=>k c v ?_ r) (fun c r=>by rw [upd_ne (nown c b r)]; exact r) fun c xs r=>by rw [upd_ne (ntup c xs r)]; exact r
   rcases hc with rfl | hc
   ·exact hbe
   ·rintro rfl
    rcases he with z | z
    ·exact nown c b hc z
    ·rw [hc] at z; cases z; exact hb rfl
end
structure Un (fs ex:List Addr) (H H':Hp) (h h':Heap):Prop where
 keep:∀ b o,h.get? b=some o→H b=none→b ∉ fs→b ∉ ex→h'.get? b=some o
 slot:∀ b o,h.get? b=some o→H b=none→b ∈ fs→b ∉ ex→∃ sl,h'.get? b=some { o with slots:=sl }
 free:∀ b o,h.get? b=some o→H b=none→b ∉ ex→H' b=none
 there:∀ b o,h.get? b=some o→b ∉ ex→∃ o',h'.get? b=some o'
 tups:∀ b xs,H b=some (.tup xs)→H' b=some (.tup xs)
 frzs:∀ b o u,H b=some (.frz o u)→H' b=some (.frz o u)
 tbls:∀ b ps,H b=some (.tbl ps)→∃ more,H' b=some (.tbl (ps ++ more))
section
variable {fs fs' ex ex':List Addr} {H H1 H2:Hp} {h h1 h2 h':Heap} {a x e:Addr} {o:HO}
theorem Un.any (u:Un fs ex H H1 h h1) {b:Addr} {ob:Obj} (q:h.get? b=some ob) (n:H b=none) (hx:b ∉ ex):∃ sl,h1.get? b=some { ob with slots:=sl }:=by
 by_cases hb:b ∈ fs
 ·exact u.slot b ob q n hb hx
 ·exact ⟨ob.slots,u.keep b ob q n hb hx⟩
theorem Un.trans (a:Un fs ex H H1 h h1) (b:Un fs ex H1 H2 h1 h2):Un fs ex H H2 h h2 where
 keep:=fun c ob q n hc hx=>b.keep c ob (a.keep c ob q n hc hx) (a.free c ob q n hx) hc hx
 slot:=fun c ob q n hc hx=>by
  obtain ⟨sl,e1⟩:=a.slot c ob q n hc hx
  obtain ⟨sl',e2⟩:=b.slot c _ e1 (a.free c ob q n hx) hc hx
  exact ⟨sl',e2⟩
 free:=fun c ob q n hx=>by
  obtain ⟨o',e1⟩:=a.there c ob q hx
  exact b.free c o' e1 (a.free c ob q n hx) hx
 there:=fun c ob q hx=>by
  obtain ⟨o',e1⟩:=a.there c ob q hx
  exact b.there c o' e1 hx
 tups:=fun c xs q=>b.tups c xs (a.tups c xs q)
 frzs:=fun c ob xs q=>b.frzs c ob xs (a.frzs c ob xs q)
 tbls:=fun c ps q=>by
  obtain ⟨m1,e1⟩:=a.tbls c ps q
  obtain ⟨m2,e2⟩:=b.tbls c _ e1
  exact ⟨m1 ++ m2,by rw [e2,Array.append_assoc]⟩
theorem Un.kept (k:∀ b u,h.get? b=some u→h'.get? b=some u):Un fs ex H H h h':=
 ⟨fun b ob q _ _ _=>k b ob q,fun b ob q _ _ _=>⟨ob.slots,k b ob q⟩,fun _ _ _ n _=>n,fun b ob q _=>⟨ob,k b ob q⟩,fun _ _ q=>q,fun _ _ _ q=>q,fun _ ps q=>⟨#[],by rw [q]; simp⟩⟩
theorem Un.refl:Un fs ex H H h h:=Un.kept fun _ _ q=>q
theorem Un.laid (k:∀ b u,h.get? b=some u→h'.get? b=some u) (hp:h.objs.size≤a) (hn:H a=none):Un fs ex H (upd H a o) h h' where
 keep:=fun b u q _ _ _=>k b u q
 slot:=fun b u q _ _ _=>⟨u.slots,k b u q⟩
 free:=fun b u q n _=>by rw [upd_ne (Nat.ne_of_lt (Nat.lt_of_lt_of_le (Heap.lt_size q) hp))]; exact n
 there:=fun b u q _=>⟨u,k b u q⟩
 tups:=fun b xs q=>by rw [upd_ne (ne_of_none q hn)]; exact q
 frzs:=fun b u xs q=>by rw [upd_ne (ne_of_none q hn)]; exact q
 tbls:=fun b ps q=>⟨#[],by rw [upd_ne (ne_of_none q hn),q]; simp⟩
theorem Un.write (mu:Mut (H x)) (he:e=x ∨ H e=some (.own x)) (k:∀ b u,b ≠ e→h.get? b=some u→h'.get? b=some u) (heo:∃ u,h'.get? e=some u):Un fs ex H (upd H x o) h h':=by
 have hx:∀ b,H b=none→b ≠ x:=fun b n z=>by subst z; rw [n] at mu; exact mu
 have hb:∀ b,H b=none→b ≠ e:=fun b n z=>by
  subst z
  rcases he with r | r
  ·exact hx b n r
  ·rw [n] at r; cases r
 have hm:∀ b u,H b=some u→¬ Mut (some u)→b ≠ x:=fun b u q nm z=>by subst z; rw [q] at mu; exact nm mu
 refine ⟨fun b u q n _ _=>k b u (hb b n) q,fun b u q n _ _=>⟨u.slots,k b u (hb b n) q⟩,fun b u q n _=>by rw [upd_ne (hx b n)]; exact n,fun b u q _=>?_,
  fun b xs q=>by rw [upd_ne (hm b _ q fun z=>z)]; exact q,fun b u xs q=>by rw [upd_ne (hm b _ q fun z=>z)]; exact q,fun b ps q=>⟨#[],by rw [upd_ne (hm b _ q fun z=>z),q]; simp⟩⟩
 by_cases hbe:b=e
 ·subst hbe; exact heo
 ·exact ⟨u,k b u hbe q⟩
end
def trk (h:Heap) (H:Hp):List Addr:=(List.range h.objs.size).filter fun a=>(H a).isSome
def hidT (h:Heap) (H:Hp):Heap:=PySem.W.hideAll h (trk h H)
theorem hidT_size (h:Heap) (H:Hp):(hidT h H).objs.size=h.objs.size:=PySem.W.hideAll_size _ _
theorem hidT_get {h:Heap} {H:Hp} {b:Addr} {o:Obj} (e:h.get? b=some o) (n:H b=none):(hidT h H).get? b=some o:=
 PySem.W.hideAll_get _ e fun hm=>by
  have q:(H b).isSome=true:=(List.mem_filter.mp hm).2
  rw [n] at q; simp at q
theorem of_hidT {h:Heap} {H:Hp} {b:Addr} {o:Obj} (e:(hidT h H).get? b=some o):h.get? b=some o∧H b=none:=by
 have e':h.get? b=some o:=PySem.W.of_hideAll (trk h H) e
 refine ⟨e',?_⟩
 cases q:H b with
 | none=>rfl
 | some x=>
  have hm:b ∈ trk h H:=List.mem_filter.mpr ⟨List.mem_range.mpr (Heap.lt_size e'),by simp [q]⟩
  have z:(hidT h H).get? b=none:=PySem.W.hideAll_none (trk h H) hm
  rw [z] at e; cases e
end L2
namespace L2
open PySem PySem.Spec PyProof.Rows
structure Mod (K:PySem.W.Frag) (mg:Str→Option Value) (base:Heap):Prop where
 kin:K.In base
 glob:base.Ns mainGlobals mg
 blt:∃ mb,base.Ns builtinsNs mb∧∀ x:Str,x ≠ "__name__"→mb x=bootBuiltins x
 nolimit:base.NoLimit
structure Cx where
 prog:Program
 w:World
 K:PySem.W.Frag
 mg:Str→Option Value
 base:Heap
 A:Around
 N:List Str
 s₀:Shared
 H₀:Hp
 env:Env
 outer:List Env
 stack:List Env
 ex:List Addr
 fn:Str→Bool
 calm:Bool
 pn:List (Addr × Obj)
 xe:Value→Shared→Prop
def frs (l:List Env):List Addr:=l.filterMap (·.frame)
abbrev Cx.fs (X:Cx):List Addr:=frs X.outer
def Vis (sc:Scope) (x:Str):Prop:=sc.names.lookup x=some .local ∨ sc.names.lookup x=some .cell ∨ sc.names.lookup x=some .free
def Loc (sc:Scope) (x:Str):Prop:=sc.names.lookup x=some .local ∨ sc.names.lookup x=some .cell
def Look (env:Env) (h:Heap) (m:Str→Option Value) (x:Str) (u:Value):Prop:=
 (env.kindOf x=some .local∧m x=some u) ∨ ((env.kindOf x=some .cell ∨ env.kindOf x=some .free)∧∃ c,env.cells.lookup x=some c∧h.IsCell c (some u))
structure Cx.Ok (X:Cx):Prop where
 mod:Mod X.K X.mg X.base
 kind:X.env.scope.kind=.function
 glob:X.env.globals=mainGlobals
 blt:X.env.builtins=builtinsNs
 above:X.s₀.heap.objs.size≤X.env.locals
 inj:∀ x y c,X.env.cells.lookup x=some c→X.env.cells.lookup y=some c→x=y
 has:∀ x,(X.env.kindOf x=some .cell ∨ X.env.kindOf x=some .free)→∃ c,X.env.cells.lookup x=some c
 cab:∀ x c,X.fn x=true→X.env.cells.lookup x=some c→X.s₀.heap.objs.size≤c
 hd:X.calm=true→X.A.handled=none
 frames:X.A.frames=some X.stack
 stk:X.stack=X.outer ∨ (X.stack=X.env :: X.outer∧X.env.frame=some X.env.locals)
 exf:∀ b ∈ X.ex,b ≠ X.env.locals∧∀ x c,X.env.cells.lookup x=some c→c ≠ b
 bs:∀ b o,X.base.get? b=some o→X.s₀.heap.get? b=some o∧X.H₀ b=none
 bsz:X.base.objs.size≤X.s₀.heap.objs.size
 noex:∀ b o,X.base.get? b=some o→b ∉ X.ex
 exfs:∀ b ∈ X.ex,b ∉ X.fs
 funs:X.s₀.heap.FunFrames X.base X.outer
 frf:∀ b ∈ X.fs,X.H₀ b=none
structure Inv (X:Cx) (pins:List (Addr × Obj)) (σ:List (Option V)) (H:Hp) (s:Shared):Prop where
 ok:X.Ok
 os:s.os=X.s₀.os
 bare:AllBare s.gens
 base:Un X.fs X.ex X.H₀ H X.s₀.heap s.heap
 loc:∃ m,s.heap.Ns X.env.locals m∧∀ (i:Nat) (x:Str) (v:V),X.N[i]?=some x→σ[i]?=some (some v)→Vis X.env.scope x→∃ u,RelV v u∧Look X.env s.heap m x u
 cell:∀ x c,X.env.cells.lookup x=some c→∃ v,s.heap.IsCell c v
 free:H X.env.locals=none
 freeC:∀ x c,X.env.cells.lookup x=some c→H c=none
 pin:∀ p ∈ X.pn ++ pins,s.heap.get? p.1=some p.2∧H p.1=none∧p.1 ≠ X.env.locals∧p.1 ∉ X.fs∧∀ v,p.2.data ≠ .cell v
 hok:HOk X.prog X.w H s.heap
 len:σ.length=X.N.length
section
variable {X:Cx} {pins:List (Addr × Obj)} {σ:List (Option V)} {H H':Hp} {s:Shared} {h':Heap}
theorem Cx.Ok.nofr (ok:X.Ok) {b:Addr} {o:Obj} (e:X.base.get? b=some o):b ∉ X.fs:=fun hb=>by
 have:=(ok.funs.mem hb).1
 rw [e] at this; cases this
theorem Inv.bs (I:Inv X pins σ H s):∀ b o,X.base.get? b=some o→s.heap.get? b=some o∧H b=none:=fun b o e=>
 ⟨I.base.keep b o (I.ok.bs b o e).1 (I.ok.bs b o e).2 (I.ok.nofr e) (I.ok.noex b o e),I.base.free b o (I.ok.bs b o e).1 (I.ok.bs b o e).2 (I.ok.noex b o e)⟩
theorem Inv.bk (I:Inv X pins σ H s):∀ b o,X.base.get? b=some o→s.heap.get? b=some o:=fun b o e=>(I.bs b o e).1
theorem Inv.mod (I:Inv X pins σ H s):Mod X.K X.mg X.base:=I.ok.mod
theorem Inv.kIn (I:Inv X pins σ H s):X.K.In s.heap:=I.ok.mod.kin.keeps I.bk
theorem Inv.lt (I:Inv X pins σ H s):X.env.locals < s.heap.objs.size:=let ⟨_,hn,_⟩:=I.loc; hn.lt
theorem Inv.sz (I:Inv X pins σ H s):X.s₀.heap.objs.size≤s.heap.objs.size:=Nat.le_trans I.ok.above (Nat.le_of_lt I.lt)
theorem Inv.nofs (I:Inv X pins σ H s) {a:Addr} (h:s.heap.objs.size≤a):a ∉ X.fs:=fun hb=>by
 obtain ⟨_,o,ho,_⟩:=I.ok.funs.mem hb
 exact absurd (Nat.lt_of_lt_of_le (Heap.lt_size ho) (Nat.le_trans I.sz h)) (Nat.lt_irrefl _)
theorem Inv.cne (I:Inv X pins σ H s):∀ x c,X.env.cells.lookup x=some c→c ≠ X.env.locals:=fun x c e z=>by
 obtain ⟨v,o,ho,hd⟩:=I.cell x c e
 obtain ⟨m,⟨o',es,ep,ho',hd',_⟩,_⟩:=I.loc
 rw [z,ho'] at ho; cases ho; rw [hd'] at hd; cases hd
theorem Inv.funs (I:Inv X pins σ H s):s.heap.FunFrames X.base X.outer:=by
 have all:∀ (l:List Env),(∀ b ∈ frs l,b ∈ X.fs)→X.s₀.heap.FunFrames X.base l→s.heap.FunFrames X.base l:=by
  intro l
  induction l with
  | nil=>intro _ _; trivial
  | cons env r ih=>
   intro hs hl
   obtain ⟨hk,⟨L,o,hf,hn,ho,hd⟩,hr⟩:=hl
   have hL:L ∈ X.fs:=hs L (by unfold frs; rw [List.filterMap_cons,hf]; exact List.mem_cons_self)
   obtain ⟨sl,e⟩:=I.base.slot L o ho (I.ok.frf L hL) hL fun z=>I.ok.exfs L z hL
   exact ⟨hk,⟨L,_,hf,hn,e,hd⟩,ih (fun b hb=>hs b (by unfold frs; rw [List.filterMap_cons,hf]; exact List.mem_cons_of_mem _ hb)) hr⟩
 exact all X.outer (fun _ hb=>hb) I.ok.funs
theorem Inv.stack (I:Inv X pins σ H s):s.heap.FunFrames X.base X.stack:=by
 rcases I.ok.stk with e | ⟨e,hf⟩
 ·rw [e]; exact I.funs
 ·rw [e]
  obtain ⟨m,hn,_⟩:=I.loc
  refine .cons (by rw [I.ok.kind]; decide) hf hn ?_ I.funs
  exact Heap.get?_none_of_le (Nat.le_trans I.ok.bsz I.ok.above)
theorem Inv.stkSub (I:Inv X pins σ H s):∀ b ∈ frs X.stack,b ∈ X.env.locals :: X.fs:=fun b hb=>by
 rcases I.ok.stk with e | ⟨e,hf⟩
 ·rw [e] at hb; exact List.mem_cons_of_mem _ hb
 ·rw [e] at hb
  unfold frs at hb
  rw [List.filterMap_cons,hf] at hb
  exact hb
theorem Inv.stkFree (I:Inv X pins σ H s):∀ b ∈ frs X.stack,H b=none:=fun b hb=>by
 rcases List.mem_cons.mp (I.stkSub b hb) with e | hb
 ·rw [e]; exact I.free
 ·obtain ⟨_,o,ho,_⟩:=I.ok.funs.mem hb
  exact I.base.free b o ho (I.ok.frf b hb) fun z=>I.ok.exfs b z hb
theorem Inv.step {g':Array GenState} {t':Nat} {d':Drawn} {ch:List Addr} (I:Inv X pins σ H s)
  (hch:∀ b ∈ ch,(b ∈ X.ex ∨ X.s₀.heap.objs.size≤b)∧b ≠ X.env.locals∧(∀ x c,X.env.cells.lookup x=some c→c ≠ b)∧∀ p ∈ X.pn ++ pins,p.1 ≠ b)
  (keep:∀ b o,b ≠ X.env.locals→b ∉ X.fs→b ∉ ch→s.heap.get? b=some o→H b=none→h'.get? b=some o)
  (slot:∀ b o,b ≠ X.env.locals→b ∈ X.fs→b ∉ ch→s.heap.get? b=some o→H b=none→∃ sl,h'.get? b=some { o with slots:=sl }) (free:∀ b o,b ∉ ch→s.heap.get? b=some o→H b=none→H' b=none)
  (there:∀ b o,b ∉ ch→s.heap.get? b=some o→∃ o',h'.get? b=some o')
  (tups:∀ b xs,H b=some (.tup xs)→H' b=some (.tup xs)) (frzs:∀ b o u,H b=some (.frz o u)→H' b=some (.frz o u)) (tbls:∀ b ps,H b=some (.tbl ps)→∃ more,H' b=some (.tbl (ps ++ more)))
  (ns:∀ m,s.heap.Ns X.env.locals m→h'.Ns X.env.locals m) (hok:HOk X.prog X.w H' h') (hg:AllBare g'):
  Inv X pins σ H' { s with heap:=h',gens:=g',drawn:=d',toks:=t' }:=by
 have neL:∀ b o,X.s₀.heap.get? b=some o→b ≠ X.env.locals:=fun b o e=>Nat.ne_of_lt (Nat.lt_of_lt_of_le (Heap.lt_size e) I.ok.above)
 have neC:∀ b o,X.s₀.heap.get? b=some o→b ∉ X.ex→b ∉ ch:=fun b o e hx hb=>by
  rcases (hch b hb).1 with z | z
  ·exact hx z
  ·exact absurd (Nat.lt_of_lt_of_le (Heap.lt_size e) z) (Nat.lt_irrefl _)
 have cellK:∀ x c,X.env.cells.lookup x=some c→∀ v,s.heap.IsCell c v→h'.IsCell c v:=fun x c e v ⟨o,ho,hd⟩=>by
  have nch:c ∉ ch:=fun z=>(hch c z).2.2.1 x c e rfl
  by_cases hc:c ∈ X.fs
  ·obtain ⟨sl,q⟩:=slot c o (I.cne x c e) hc nch ho (I.freeC x c e)
   exact ⟨_,q,hd⟩
  ·exact ⟨o,keep c o (I.cne x c e) hc nch ho (I.freeC x c e),hd⟩
 refine ⟨I.ok,I.os,hg,⟨fun b o e n hb hx=>?_,fun b o e n hb hx=>?_,fun b o e n hx=>?_,fun b o e hx=>?_,fun b xs e=>tups b xs (I.base.tups b xs e),fun b o xs e=>frzs b o xs (I.base.frzs b o xs e),fun b ps e=>?_⟩,?_,fun x c e=>?_,?_,fun x c e=>?_,fun p hp=>?_,hok,I.len⟩
 ·exact keep b o (neL b o e) hb (neC b o e hx) (I.base.keep b o e n hb hx) (I.base.free b o e n hx)
 ·obtain ⟨sl,e1⟩:=I.base.slot b o e n hb hx
  obtain ⟨sl',e2⟩:=slot b _ (neL b o e) hb (neC b o e hx) e1 (I.base.free b o e n hx)
  exact ⟨sl',e2⟩
 ·obtain ⟨o',e1⟩:=I.base.there b o e hx
  exact free b o' (neC b o e hx) e1 (I.base.free b o e n hx)
 ·obtain ⟨o',e1⟩:=I.base.there b o e hx
  exact there b o' (neC b o e hx) e1
 ·obtain ⟨m1,e1⟩:=I.base.tbls b ps e
  obtain ⟨m2,e2⟩:=tbls b _ e1
  exact ⟨m1 ++ m2,by rw [e2,Array.append_assoc]⟩
 ·obtain ⟨m,hn,hl⟩:=I.loc
  refine ⟨m,ns m hn,fun i x v e1 e2 e3=>?_⟩
  obtain ⟨u,r,l⟩:=hl i x v e1 e2 e3
  refine ⟨u,r,?_⟩
  rcases l with l | ⟨k,c,e,z⟩
  ·exact .inl l
  ·exact .inr ⟨k,c,e,cellK x c e _ z⟩
 ·obtain ⟨v,z⟩:=I.cell x c e
  exact ⟨v,cellK x c e v z⟩
 ·obtain ⟨m,⟨o,_,_,ho,_⟩,_⟩:=I.loc
  exact free _ o (fun z=>(hch _ z).2.1 rfl) ho I.free
 ·obtain ⟨v,o,ho,hd⟩:=I.cell x c e
  exact free c o (fun z=>(hch c z).2.2.1 x c e rfl) ho (I.freeC x c e)
 ·obtain ⟨e,n,ne,nf,d⟩:=I.pin p hp
  have nch:p.1 ∉ ch:=fun z=>(hch p.1 z).2.2.2 p hp rfl
  exact ⟨keep p.1 p.2 ne nf nch e n,free p.1 p.2 nch e n,ne,nf,d⟩
theorem Inv.un {t':Nat} (I:Inv X pins σ H s) (u:Un X.fs [] H H' s.heap h') (hok:HOk X.prog X.w H' h'):Inv X pins σ H' { s with heap:=h',toks:=t' }:=by
 obtain ⟨m,⟨o,es,ep,ho,r⟩,_⟩:=id I.loc
 obtain ⟨sl,hL⟩:=u.any ho I.free (by simp)
 exact I.step (g':=s.gens) (d':=s.drawn) (ch:=[]) (fun _ z=>nomatch z) (fun b o _ hb _ e n=>u.keep b o e n hb (by simp)) (fun b o _ hb _ e n=>u.slot b o e n hb (by simp)) (fun b o _ e n=>u.free b o e n (by simp)) (fun b o _ e=>u.there b o e (by simp)) u.tups u.frzs u.tbls (fun m' hm=>by
  obtain ⟨o',es',ep',ho',r'⟩:=hm
  rw [ho] at ho'; cases ho'
  exact ⟨_,es',ep',hL,r'⟩) hok I.bare
theorem Inv.call {g':Array GenState} {t':Nat} {d':Drawn} {ch:List Addr} (I:Inv X pins σ H s) (u:Un (frs X.stack) ch H H' s.heap h') (hok:HOk X.prog X.w H' h') (hg:AllBare g')
  (hch:∀ b ∈ ch,(b ∈ X.ex ∨ X.s₀.heap.objs.size≤b)∧b ≠ X.env.locals∧(∀ x c,X.env.cells.lookup x=some c→c ≠ b)∧∀ p ∈ X.pn ++ pins,p.1 ≠ b):
  Inv X pins σ H' { s with heap:=h',gens:=g',drawn:=d',toks:=t' }:=by
 obtain ⟨m,⟨o,es,ep,ho,r⟩,_⟩:=id I.loc
 obtain ⟨sl,hL⟩:=u.any ho I.free fun z=>(hch _ z).2.1 rfl
 exact I.step (ch:=ch) hch (fun b o hL hb hc e n=>u.keep b o e n (fun z=>(List.mem_cons.mp (I.stkSub b z)).elim hL hb) hc) (fun b o _ _ hc e n=>u.any e n hc) (fun b o hc e n=>u.free b o e n hc) (fun b o hc e=>u.there b o e hc) u.tups u.frzs u.tbls (fun m' hm=>by
  obtain ⟨o',es',ep',ho',r'⟩:=hm
  rw [ho] at ho'; cases ho'
  exact ⟨_,es',ep',hL,r'⟩) hok hg
theorem Inv.turned {t':Nat} {it:Addr} (I:Inv X pins σ H s) (k:∀ b o,b ≠ it→s.heap.get? b=some o→h'.get? b=some o) (hn:H it=none) (hL:it ≠ X.env.locals)
  (h1:it ∈ X.ex ∨ X.s₀.heap.objs.size≤it) (h2:∀ x c,X.env.cells.lookup x=some c→c ≠ it) (h3:∀ p ∈ X.pn ++ pins,p.1 ≠ it):Inv X pins σ H { s with heap:=h',toks:=t' }:=by
 have nit:∀ b u,H b=some u→b ≠ it:=fun b u e z=>by rw [z,hn] at e; cases e
 refine I.step (g':=s.gens) (d':=s.drawn) (ch:=[it]) (fun b hb=>?_) (fun b o _ _ hc e _=>k b o (fun z=>hc (by simp [z])) e) (fun b o _ _ hc e _=>⟨o.slots,k b o (fun z=>hc (by simp [z])) e⟩) (fun _ _ _ _ n=>n)
  (fun b o hc e=>⟨o,k b o (fun z=>hc (by simp [z])) e⟩) (fun _ _ e=>e) (fun _ _ _ e=>e) (fun b ps e=>⟨#[],by rw [e]; simp⟩) (fun m hm=>?_) (fun b u e=>?_) I.bare
 ·have e:b=it:=by simpa using hb
  subst e
  exact ⟨h1,hL,h2,h3⟩
 ·obtain ⟨o,es,ep,ho,r⟩:=hm
  exact ⟨o,es,ep,k _ o (Ne.symm hL) ho,r⟩
 ·refine (I.hok b u e).stay (fun c v hc q=>k c v ?_ q) (fun _ q=>q) fun _ _ q=>q
  rcases hc with z | z
  ·rw [z]; exact nit b u e
  ·exact nit c _ z
theorem Inv.tok (I:Inv X pins σ H s) (t:Nat):Inv X pins σ H { s with toks:=t }:=I.un (h':=s.heap) (t':=t) Un.refl I.hok
theorem Inv.kept {t':Nat} (I:Inv X pins σ H s) (k:∀ b u,s.heap.get? b=some u→h'.get? b=some u):Inv X pins σ H { s with heap:=h',toks:=t' }:=I.un (Un.kept k) (I.hok.kept k)
theorem Inv.laid {a:Addr} {o:HO} {t':Nat} (I:Inv X pins σ H s) (k:∀ b u,s.heap.get? b=some u→h'.get? b=some u) (hp:s.heap.objs.size≤a) (new:ObjOk X.prog X.w (upd H a o) h' a o):
  Inv X pins σ (upd H a o) { s with heap:=h',toks:=t' }:=I.un (Un.laid k hp (I.hok.fresh hp)) (I.hok.laid k hp new)
theorem Inv.write {x e:Addr} {o:HO} {t':Nat} (I:Inv X pins σ H s) (mu:Mut (H x)) (he:e=x ∨ H e=some (.own x)) (k:∀ b u,b ≠ e→s.heap.get? b=some u→h'.get? b=some u) (heo:∃ u,h'.get? e=some u)
  (new:ObjOk X.prog X.w (upd H x o) h' x o):Inv X pins σ (upd H x o) { s with heap:=h',toks:=t' }:=I.un (Un.write mu he k heo) (I.hok.write mu he k heo new)
theorem Inv.pins_of {pins':List (Addr × Obj)} (I:Inv X pins σ H s) (h:∀ p ∈ pins',s.heap.get? p.1=some p.2∧H p.1=none∧p.1 ≠ X.env.locals∧p.1 ∉ X.fs∧∀ v,p.2.data ≠ .cell v):Inv X pins' σ H s:=
 ⟨I.ok,I.os,I.bare,I.base,I.loc,I.cell,I.free,I.freeC,fun p hp=>(List.mem_append.mp hp).elim (fun z=>I.pin p (List.mem_append_left _ z)) (h p),I.hok,I.len⟩
theorem nodup_ix {N:List Str} (hN:N.Nodup) {i j:Nat} {x:Str} (a:N[i]?=some x) (b:N[j]?=some x):i=j:=by
 obtain ⟨h1,e1⟩:=List.getElem?_eq_some_iff.mp a
 obtain ⟨h2,e2⟩:=List.getElem?_eq_some_iff.mp b
 exact (List.getElem_inj hN).mp (e1.trans e2.symm)
theorem store_ok2 {M:Model} {A:Around} {E:Value→Shared→Prop} {i:Nat} {x:Str} {v:V} {u:Value} {Q:Unit→Shared→Prop} (I:Inv X pins σ H s) (hN:X.N.Nodup) (hi:X.N[i]?=some x) (hx:Loc X.env.scope x) (r:RelV v u)
  (h:∀ s',Inv X pins (σ.set i (some v)) H s'→(∃ a,Heap.SameBut a s.heap s'.heap∧(a=X.env.locals ∨ X.env.cells.lookup x=some a))→Q () s') (hf:X.fn x=true ∨ X.env.scope.names.lookup x=some .local):wpAny M A (storeName X.env x u) Q E s:=by
 obtain ⟨m,hn,hl⟩:=id I.loc
 have hcls:(X.env.scope.kind == .class || (X.env.scope.kind == .module && X.env.locals != X.env.globals))=false:=by rw [I.ok.kind]; rfl
 have hiσ:i < σ.length:=by rw [I.len]; exact (List.getElem?_eq_some_iff.mp hi).1
 have cne:=I.cne
 have tracked:∀ {a:Addr} {h':Heap},(∃ o,s.heap.get? a=some o∧H a=none)→Heap.SameBut a s.heap h'→HOk X.prog X.w H h':=fun {a h'} ha hs b ob e=>by
  obtain ⟨_,_,hfree⟩:=ha
  refine (I.hok b ob e).stay (fun c w' hc q=>(hs.2 c ?_).trans q) (fun _ q=>q) fun _ _ q=>q
  rintro rfl
  rcases hc with rfl | hc
  ·rw [hfree] at e; cases e
  ·rw [hfree] at hc; cases hc
 rcases hx with hk | hk
 ·refine wpAny_storeName_local hk hn (fun h' hn' hs=>?_) hcls
  obtain ⟨oL,_,_,hoL,_⟩:=id hn
  refine h _ ⟨I.ok,I.os,I.bare,⟨fun b o e n hb hx=>?_,fun b o e n hb hx=>?_,I.base.free,fun b o e hx=>?_,I.base.tups,I.base.frzs,I.base.tbls⟩,⟨_,hn',fun j y v' e1 e2 e3=>?_⟩,fun y c e=>?_,I.free,I.freeC,fun p hp=>?_,tracked ⟨oL,hoL,I.free⟩ hs,by simpa using I.len⟩ ⟨_,hs,.inl rfl⟩
  ·exact (hs.2 b (Nat.ne_of_lt (Nat.lt_of_lt_of_le (Heap.lt_size e) I.ok.above))).trans (I.base.keep b o e n hb hx)
  ·obtain ⟨sl,e1⟩:=I.base.slot b o e n hb hx
   exact ⟨sl,(hs.2 b (Nat.ne_of_lt (Nat.lt_of_lt_of_le (Heap.lt_size e) I.ok.above))).trans e1⟩
  ·obtain ⟨o',e1⟩:=I.base.there b o e hx
   exact ⟨o',(hs.2 b (Nat.ne_of_lt (Nat.lt_of_lt_of_le (Heap.lt_size e) I.ok.above))).trans e1⟩
  ·by_cases hj:j=i
   ·subst hj
    rw [hi] at e1; cases e1
    rw [List.getElem?_set_self hiσ] at e2
    cases e2
    exact ⟨u,r,.inl ⟨hk,by simp⟩⟩
   ·rw [List.getElem?_set_ne (Ne.symm hj)] at e2
    obtain ⟨u',r',q⟩:=hl j y v' e1 e2 e3
    refine ⟨u',r',?_⟩
    rcases q with ⟨k,e⟩ | ⟨k,c,e,z⟩
    ·refine .inl ⟨k,?_⟩
     have:y ≠ x:=fun e=>hj (nodup_ix hN e1 (e ▸ hi))
     simp [this,e]
    ·exact .inr ⟨k,c,e,z.sameBut hs (cne y c e)⟩
  ·obtain ⟨w',z⟩:=I.cell y c e
   exact ⟨w',z.sameBut hs (cne y c e)⟩
  ·obtain ⟨e,n,ne,nf,d⟩:=I.pin p hp
   exact ⟨(hs.2 p.1 ne).trans e,n,ne,nf,d⟩
 ·have hfn:X.fn x=true:=by
   rcases hf with z | z
   ·exact z
   ·rw [z] at hk; cases hk
  obtain ⟨c,hc⟩:=I.ok.has x (.inl hk)
  obtain ⟨w',z⟩:=I.cell x c hc
  refine wpAny_storeName_cell I.ok.kind hk hc z (fun h' hc' hs=>?_)
  obtain ⟨oc,hoc,hocd⟩:=id z
  refine h { s with heap:=h' } ⟨I.ok,I.os,I.bare,⟨fun b o e n hb hx=>?_,fun b o e n hb hx=>?_,I.base.free,fun b o e hx=>?_,I.base.tups,I.base.frzs,I.base.tbls⟩,⟨m,hn.sameBut hs (Ne.symm (cne x c hc)),fun j y v' e1 e2 e3=>?_⟩,fun y c' e=>?_,I.free,I.freeC,fun p hp=>?_,tracked ⟨oc,hoc,I.freeC x c hc⟩ hs,by simpa using I.len⟩ ⟨c,hs,.inr hc⟩
  ·exact (hs.2 b (Nat.ne_of_lt (Nat.lt_of_lt_of_le (Heap.lt_size e) (I.ok.cab x c hfn hc)))).trans (I.base.keep b o e n hb hx)
  ·obtain ⟨sl,e1⟩:=I.base.slot b o e n hb hx
   exact ⟨sl,(hs.2 b (Nat.ne_of_lt (Nat.lt_of_lt_of_le (Heap.lt_size e) (I.ok.cab x c hfn hc)))).trans e1⟩
  ·obtain ⟨o',e1⟩:=I.base.there b o e hx
   exact ⟨o',(hs.2 b (Nat.ne_of_lt (Nat.lt_of_lt_of_le (Heap.lt_size e) (I.ok.cab x c hfn hc)))).trans e1⟩
  ·by_cases hj:j=i
   ·subst hj
    rw [hi] at e1; cases e1
    rw [List.getElem?_set_self hiσ] at e2
    cases e2
    exact ⟨u,r,.inr ⟨.inl hk,c,hc,hc'⟩⟩
   ·rw [List.getElem?_set_ne (Ne.symm hj)] at e2
    obtain ⟨u',r',q⟩:=hl j y v' e1 e2 e3
    refine ⟨u',r',?_⟩
    rcases q with q | ⟨k,c',e,z'⟩
    ·exact .inl q
    ·refine .inr ⟨k,c',e,z'.sameBut hs ?_⟩
     rintro rfl
     exact hj (nodup_ix hN e1 (I.ok.inj _ _ _ e hc ▸ hi))
  ·by_cases hcc:c'=c
   ·subst hcc; exact ⟨_,hc'⟩
   ·obtain ⟨w2,z2⟩:=I.cell y c' e
    exact ⟨w2,z2.sameBut hs hcc⟩
  ·obtain ⟨e,n,ne,nf,d⟩:=I.pin p hp
   refine ⟨(hs.2 p.1 ?_).trans e,n,ne,nf,d⟩
   intro q
   rw [q,hoc] at e
   have q':oc=p.2:=Option.some.inj e
   exact d w' (by rw [← q']; exact hocd)
theorem store_ok {M:Model} {A:Around} {E:Value→Shared→Prop} {i:Nat} {x:Str} {v:V} {u:Value} {Q:Unit→Shared→Prop} (I:Inv X pins σ H s) (hN:X.N.Nodup) (hi:X.N[i]?=some x) (hx:Loc X.env.scope x) (r:RelV v u)
  (h:∀ s',Inv X pins (σ.set i (some v)) H s'→Q () s') (hf:X.fn x=true ∨ X.env.scope.names.lookup x=some .local):wpAny M A (storeName X.env x u) Q E s:=
 store_ok2 I hN hi hx r (fun s' I' _=>h s' I') hf
theorem Inv.call' {s':Shared} {ch:List Addr} (I:Inv X pins σ H s) (ho:s'.os=s.os) (u:Un (frs X.stack) ch H H' s.heap s'.heap) (hok:HOk X.prog X.w H' s'.heap) (hg:AllBare s'.gens)
  (hch:∀ b ∈ ch,(b ∈ X.ex ∨ X.s₀.heap.objs.size≤b)∧b ≠ X.env.locals∧(∀ x c,X.env.cells.lookup x=some c→c ≠ b)∧∀ p ∈ X.pn ++ pins,p.1 ≠ b):Inv X pins σ H' s':=by
 obtain ⟨h',g',d',t',o'⟩:=s'
 have e:o'=s.os:=ho
 subst e
 exact I.call (g':=g') (t':=t') (d':=d') u hok hg hch
end
abbrev XK:=Value→Option Addr→Hp→Prop
abbrev St:=List (Option V)
abbrev VK:=V→Hp→Prop
abbrev TE:=St→Hp→VK→Prop
abbrev TT:=St→Hp→(Bool→Hp→Prop)→Prop
abbrev TA:=St→Hp→(List V→Hp→Prop)→Prop
set_option genInjectivity false in
structure Ends where
 nx:St→Hp→Prop
 rt:VK
 bk:St→Hp→Prop:=fun _ _=>False
 ct:St→Hp→Prop:=fun _ _=>False
abbrev TS:=Ends→St→Hp→Prop
def EP (X:Cx) (pins:List (Addr × Obj)) (σ:St) (Q:VK) (u:Value) (s':Shared):Prop:=∃ v H',Inv X pins σ H' s'∧RelV v u∧Q v H'
def TP (X:Cx) (pins:List (Addr × Obj)) (σ:St) (Q:Bool→Hp→Prop) (b:Bool) (s':Shared):Prop:=∃ H',Inv X pins σ H' s'∧Q b H'
def AP (X:Cx) (pins:List (Addr × Obj)) (σ:St) (Q:List V→Hp→Prop) (us:List Value) (s':Shared):Prop:=∃ vs H',Inv X pins σ H' s'∧Vals vs us∧Q vs H'
def SP (X:Cx) (pins:List (Addr × Obj)) (D:Ends) (f:Flow) (s':Shared):Prop:=
 match f with
 | .next=>∃ σ' H',Inv X pins σ' H' s'∧D.nx σ' H'
 | .brk=>∃ σ' H',Inv X pins σ' H' s'∧D.bk σ' H'
 | .cont=>∃ σ' H',Inv X pins σ' H' s'∧D.ct σ' H'
 | .ret u=>∃ v σ' H',Inv X pins σ' H' s'∧RelV v u∧D.rt v H'
def PE (X:Cx) (e:Expr) (t:TE):Prop:=
 ∀ (pins:List (Addr × Obj)) (s:Shared) (σ:St) (H:Hp) (Q:VK),Inv X pins σ H s→t σ H Q→wpAny (model X.prog X.w) X.A (eval e X.env) (EP X pins σ Q) X.xe s
def PT (X:Cx) (e:Expr) (t:TT):Prop:=
 ∀ (pins:List (Addr × Obj)) (s:Shared) (σ:St) (H:Hp) (Q:Bool→Hp→Prop),Inv X pins σ H s→t σ H Q→wpAny (model X.prog X.w) X.A (isTrue e X.env (eval e X.env)) (TP X pins σ Q) X.xe s
def PW (X:Cx) (e:Expr) (t:TT):Prop:=
 ∀ (whole:Sem Value) (pins:List (Addr × Obj)) (s:Shared) (σ:St) (H:Hp) (Q:Bool→Hp→Prop),Inv X pins σ H s→t σ H Q→wpAny (model X.prog X.w) X.A (isTrue e X.env whole) (TP X pins σ Q) X.xe s
theorem PW.pt {X:Cx} {e:Expr} {t:TT} (h:PW X e t):PT X e t:=h _
def PA (X:Cx) (es:List Expr) (t:TA):Prop:=
 ∀ (pos:Pos) (pins:List (Addr × Obj)) (s:Shared) (σ:St) (H:Hp) (Q:List V→Hp→Prop),Inv X pins σ H s→t σ H Q→wpAny (model X.prog X.w) X.A (spliced (backTo pos (starEach es X.env))) (AP X pins σ Q) X.xe s
def PS (X:Cx) (st:Stmt) (t:TS):Prop:=
 ∀ (pins:List (Addr × Obj)) (s:Shared) (σ:St) (H:Hp) (D:Ends),Inv X pins σ H s→t D σ H→wpAny (model X.prog X.w) X.A (exec st X.env) (SP X pins D) X.xe s
def PSs (X:Cx) (st:List Stmt) (t:TS):Prop:=
 ∀ (pins:List (Addr × Obj)) (s:Shared) (σ:St) (H:Hp) (D:Ends),Inv X pins σ H s→t D σ H→wpAny (model X.prog X.w) X.A (execs st X.env) (SP X pins D) X.xe s
theorem thn {α:Type} {t:Sem α} {Q Q':α→Shared→Prop} {M:Model} {A:Around} {E:Value→Shared→Prop} {s:Shared} (h:wpAny M A t Q E s) (hQ:∀ a s,Q a s→Q' a s):wpAny M A t Q' E s:=wpAny_mono h hQ fun _ _ x=>x
end L2
namespace L2
open PySem PySem.Spec PyProof.Rows
section
variable {X:Cx}
def tVar (i:Nat):TE:=fun σ H Q=>∃ v,σ[i]?=some (some v)∧Q v H
def tC (v:V):TE:=fun _ H Q=>Q v H
theorem pe_var {i:Nat} {x:Str} {pos:Pos} (hN:X.N[i]?=some x) (hv:Vis X.env.scope x) (hd:autoParam ((x == ("__debug__":Str))=false) Au.h2._auto_1) (hcd:autoParam ((x == ("__classdict__":Str))=false) Au.h2._auto_1):PE X (.Name x pos) (tVar i):=by
 intro pins s σ H Q I h
 obtain ⟨v,e,h⟩:=h
 obtain ⟨m,hn,hl⟩:=I.loc
 obtain ⟨u,r,l⟩:=hl i x v hN e hv
 have fin:EP X pins σ Q u s:=⟨v,H,I,r,h⟩
 rcases l with ⟨hk,hm⟩ | ⟨hk,c,hc,hcell⟩
 ·exact wpAny_Name (wpAny_loadName_local I.ok.kind hk hn hm fin) hd
 ·rcases hk with hk | hk
  ·exact wpAny_Name (wpAny_loadName_cell I.ok.kind hk hc hcell fin) hd
  ·exact wpAny_Name (wpAny_loadName_free I.ok.kind hk hc hcell fin hcd) hd
theorem pe_int {i j pos}:PE X (.Constant (.int i) j pos) (tC (.int i)):=fun _ _ _ H _ I h=>wpAny_Constant_int ⟨.int i,H,I.tok _,⟨_,rfl⟩,h⟩
theorem pe_bl {b j pos}:PE X (.Constant (.bool b) j pos) (tC (.bl b)):=fun _ _ _ H _ I h=>Constant_bool ⟨.bl b,H,I,rfl,h⟩
theorem pe_non {j pos}:PE X (.Constant .none j pos) (tC .non):=fun _ _ _ H _ I h=>Constant_none ⟨.non,H,I,rfl,h⟩
theorem pe_str {x j pos}:PE X (.Constant (.str x) j pos) (tC (.str x)):=fun _ _ _ H _ I h=>Calls.Constant_str ⟨.str x,H,I.tok _,⟨_,rfl⟩,h⟩
def Gl (X:Cx) (x:Str):Prop:=X.env.kindOf x=some .globalImplicit
theorem ld_glob {E:Value→Shared→Prop} {pins:List (Addr × Obj)} {s:Shared} {σ:St} {H:Hp} {x:Str} {u:Value} {pos:Pos} {Q:Value→Shared→Prop} (I:Inv X pins σ H s) (hg:Gl X x) (hm:X.mg x=some u) (h:Q u s)
  (hd:autoParam ((x == ("__debug__":Str))=false) Au.h2._auto_1):wpAny (model X.prog X.w) X.A (eval (.Name x pos) X.env) Q E s:=
 Calls.Name_function_global I.ok.kind hg (Calls.loadGlobal_global (by rw [I.ok.glob]; exact I.mod.glob.keeps I.bk) hm h) hd
theorem ld_blt {E:Value→Shared→Prop} {pins:List (Addr × Obj)} {s:Shared} {σ:St} {H:Hp} {x:Str} {u:Value} {pos:Pos} {Q:Value→Shared→Prop} (I:Inv X pins σ H s) (hg:Gl X x) (hm:X.mg x=none) (hv:bootBuiltins x=some u) (h:Q u s)
  (hn:autoParam (x ≠ "__name__") Au.h2._auto_1) (hd:autoParam ((x == ("__debug__":Str))=false) Au.h2._auto_1):wpAny (model X.prog X.w) X.A (eval (.Name x pos) X.env) Q E s:=by
 obtain ⟨mb,h1,h2⟩:=I.mod.blt
 exact Calls.Name_function_global I.ok.kind hg (Calls.loadGlobal_builtin (by rw [I.ok.glob]; exact I.mod.glob.keeps I.bk) hm (by rw [I.ok.blt]; exact h1.keeps I.bk) ((h2 x hn).trans hv) h) hd
theorem pe_glob {x:Str} {v:V} {u:Value} {pos:Pos} (hg:Gl X x) (hm:X.mg x=some u) (r:RelV v u) (hd:autoParam ((x == ("__debug__":Str))=false) Au.h2._auto_1):PE X (.Name x pos) (tC v):=
 fun _ _ _ H _ I h=>ld_glob I hg hm ⟨v,H,I,r,h⟩ hd
theorem pe_bltn {x:Str} {v:V} {u:Value} {pos:Pos} (hg:Gl X x) (hm:X.mg x=none) (hv:bootBuiltins x=some u) (r:RelV v u) (hn:autoParam (x ≠ "__name__") Au.h2._auto_1) (hd:autoParam ((x == ("__debug__":Str))=false) Au.h2._auto_1):PE X (.Name x pos) (tC v):=
 fun _ _ _ H _ I h=>ld_blt I hg hm hv ⟨v,H,I,r,h⟩ hn hd
variable {a b:Expr} {ta tb:TE} {pos:Pos}
def tB (t:TE):TT:=fun σ H Q=>t σ H fun x H1=>∃ c,x=.bl c∧Q c H1
theorem pt_val {e:Expr} {t:TE} (h:PE X e t) (he:autoParam (∀ whole,isTrue e X.env whole=(do let v ← whole; standAt e.pos; holding [v] (truthy v))) Au.h5._auto_1):PT X e (tB t):=by
 intro pins s σ H Q I hw
 refine isTrue_plain (thn (h pins s σ H _ I hw) fun v s1 zq=>?_) (he _)
 obtain ⟨x,H1,I1,r1,q1⟩:=zq
 obtain ⟨d,rfl,q⟩:=q1
 cases r1
 exact wpAny_truthy_bool ⟨H1,I1,q⟩
variable {tA tB':TT} {rest:List Expr}
def tAnd (t u:TT):TT:=fun σ H Q=>t σ H fun c H1=>if c=true then u σ H1 Q else Q false H1
def tOr (t u:TT):TT:=fun σ H Q=>t σ H fun c H1=>if c=true then Q true H1 else u σ H1 Q
def tNot (t:TT):TT:=fun σ H Q=>t σ H fun c H1=>Q (!c) H1
theorem pw_and1 (ha:PT X a tA):PW X (.BoolOp .And [a] pos) tA:=by
 intro wh pins s σ H Q I h
 refine isTrue_and (thn (ha pins s σ H Q I h) fun c s1 e=>?_)
 cases c with
 | true=>exact isTrue_and_nil e
 | false=>exact e
theorem pw_or1 (ha:PT X a tA):PW X (.BoolOp .Or [a] pos) tA:=by
 intro wh pins s σ H Q I h
 refine isTrue_or (thn (ha pins s σ H Q I h) fun c s1 e=>?_)
 cases c with
 | false=>exact isTrue_or_nil e
 | true=>exact e
theorem pw_and (ha:PT X a tA) (hb:PW X (.BoolOp .And (b :: rest) pos) tB'):PW X (.BoolOp .And (a :: b :: rest) pos) (tAnd tA tB'):=by
 intro wh pins s σ H Q I h
 refine isTrue_and (thn (ha pins s σ H _ I h) fun c s1 zq=>?_)
 obtain ⟨H1,I1,q1⟩:=zq
 cases c with
 | true=>exact hb wh pins s1 σ H1 Q I1 q1
 | false=>exact ⟨H1,I1,q1⟩
theorem pw_or (ha:PT X a tA) (hb:PW X (.BoolOp .Or (b :: rest) pos) tB'):PW X (.BoolOp .Or (a :: b :: rest) pos) (tOr tA tB'):=by
 intro wh pins s σ H Q I h
 refine isTrue_or (thn (ha pins s σ H _ I h) fun c s1 zq=>?_)
 obtain ⟨H1,I1,q1⟩:=zq
 cases c with
 | true=>exact ⟨H1,I1,q1⟩
 | false=>exact hb wh pins s1 σ H1 Q I1 q1
theorem pt_not (ha:PT X a tA):PT X (.UnaryOp .Not a pos) (tNot tA):=by
 intro pins s σ H Q I h
 exact isTrue_not (ha pins s σ H (fun c H1=>Q (!c) H1) I h)
def tAndV (ta tb:TE):TE:=fun σ H Q=>ta σ H fun x H1=>∃ c,x=.bl c∧if c=true then tb σ H1 Q else Q (.bl false) H1
def tNotV (ta:TE):TE:=fun σ H Q=>ta σ H fun x H1=>∃ c,x=.bl c∧Q (.bl (!c)) H1
theorem pe_one {op} {t:TE} (h:PE X a t):PE X (.BoolOp op [a] pos) t:=fun pins s σ H Q I hw=>BoolOp_one (h pins s σ H Q I hw)
theorem pe_and (ha:PE X a ta) (hb:PE X (.BoolOp .And (b :: rest) pos) tb):PE X (.BoolOp .And (a :: b :: rest) pos) (tAndV ta tb):=by
 intro pins s σ H Q I h
 refine BoolOp_and (thn (ha pins s σ H _ I h) fun v s1 zq=>?_)
 obtain ⟨x,H1,I1,r1,q1⟩:=zq
 obtain ⟨c,rfl,q1⟩:=q1
 cases r1
 refine wpAny_truthy_bool ?_
 cases c with
 | true=>exact hb pins s1 σ H1 Q I1 q1
 | false=>exact ⟨.bl false,H1,I1,rfl,q1⟩
theorem pe_not (ha:PE X a ta):PE X (.UnaryOp .Not a pos) (tNotV ta):=by
 intro pins s σ H Q I h
 refine UnaryOp_ (thn (ha pins s σ H _ I h) fun v s1 zq=>?_)
 obtain ⟨x,H1,I1,r1,q1⟩:=zq
 obtain ⟨c,rfl,q1⟩:=q1
 cases r1
 exact not_of (wpAny_truthy_bool ⟨.bl (!c),H1,I1,rfl,q1⟩)
end
end L2
namespace L2
open PySem PySem.Spec PyProof.Rows
def SqL (K:PySem.W.Frag) (H:Hp) (a:Addr) (xs:List V):Prop:=
 Rd H a (.lst xs) ∨
  ∃ (o:Obj) (its:Array Value) (n:Nat),K.lookup a=some o∧o.cls=.type "list"∧o.dict=none∧o.data=.seq its n∧its.size≤sizeLine∧Vals xs its.toList
def SqT (K:PySem.W.Frag) (H:Hp) (a:Addr) (xs:List V):Prop:=
 Rd H a (.tup xs) ∨
  ∃ (o:Obj) (its:Array Value) (n:Nat),K.lookup a=some o∧o.cls=.type "tuple"∧o.data=.seq its n∧its.size≤sizeLine∧Vals xs its.toList
def absV:Value→Option V
 | .none=>some .non
 | .bool b=>some (.bl b)
 | .int i _=>some (.int i)
 | .str x _=>some (.str x)
 | .bytes b _=>some (.byt b)
 | .float b _=>some (.flt b)
 | .ref a=>some (.ref a)
 | .type n=>some (.ty n)
 | _=>none
theorem RelV.abs {x:V} {u:Value} (r:RelV x u):absV u=some x:=by
 cases x with
 | non=>cases r; rfl
 | bl _=>cases r; rfl
 | int _=>obtain ⟨t,rfl⟩:=r; rfl
 | str _=>obtain ⟨t,rfl⟩:=r; rfl
 | byt _=>obtain ⟨t,rfl⟩:=r; rfl
 | flt _=>obtain ⟨t,rfl⟩:=r; rfl
 | ref _=>cases r; rfl
 | ty _=>cases r; rfl
theorem RelV.inj {x y:V} {u:Value} (r:RelV x u) (q:RelV y u):x=y:=Option.some.inj (r.abs.symm.trans q.abs)
theorem Vals.inj:∀ {xs ys:List V} {us:List Value},Vals xs us→Vals ys us→xs=ys
 | _,_,_,.nil,.nil=>rfl
 | _,_,_,.cons r t,.cons r' t'=>by rw [r.inj r',Vals.inj t t']
section
variable {X:Cx} {pins:List (Addr × Obj)} {σ:St} {H:Hp} {s:Shared} {a:Addr} {xs ys:List V}
theorem SqL.of {K:PySem.W.Frag} (h:H a=some (.lst xs)):SqL K H a xs:=.inl (.inl h)
theorem SqT.of {K:PySem.W.Frag} (h:H a=some (.tup xs)):SqT K H a xs:=.inl (.inl h)
theorem Inv.list (I:Inv X pins σ H s) (h:SqL X.K H a xs):∃ its:List Value,Vals xs its∧PlainL s.heap a its.toArray∧xs.length≤sizeLine:=by
 rcases h with h | ⟨o,its,n,hk,hc,hd,hs,hz,r⟩
 ·obtain ⟨z,its,n,r,e⟩:=h.ok I.hok
  exact ⟨its,r,⟨_,n,e,rfl,rfl,rfl⟩,z⟩
 ·refine ⟨its.toList,r,⟨o,n,I.kIn a o hk,hc,hd,by simpa using hs⟩,?_⟩
  have e:=r.length
  simp only [Array.length_toList] at e
  omega
theorem Inv.tuple (I:Inv X pins σ H s) (h:SqT X.K H a xs):∃ its:List Value,Vals xs its∧IsTup s.heap a its.toArray∧xs.length≤sizeLine:=by
 rcases h with h | ⟨o,its,n,hk,hc,hs,hz,r⟩
 ·obtain ⟨z,its,r,p⟩:=h.ok I.hok
  exact ⟨its,r,p,z⟩
 ·refine ⟨its.toList,r,⟨o,I.kIn a o hk,hc,n,by simpa using hs⟩,?_⟩
  have e:=r.length
  simp only [Array.length_toList] at e
  omega
theorem Inv.list_inj (I:Inv X pins σ H s) (h:SqL X.K H a xs) (h':SqL X.K H a ys):xs=ys:=by
 obtain ⟨its,r,⟨o,n,e,_,_,d⟩,_⟩:=I.list h
 obtain ⟨its',r',⟨o',n',e',_,_,d'⟩,_⟩:=I.list h'
 rw [e] at e'; cases e'
 rw [d] at d'
 injection d' with d1 _
 have:its=its':=by simpa using congrArg Array.toList d1
 subst this
 exact r.inj r'
theorem Inv.tuple_inj (I:Inv X pins σ H s) (h:SqT X.K H a xs) (h':SqT X.K H a ys):xs=ys:=by
 obtain ⟨its,r,⟨o,e,_,n,d⟩,_⟩:=I.tuple h
 obtain ⟨its',r',⟨o',e',_,n',d'⟩,_⟩:=I.tuple h'
 rw [e] at e'; cases e'
 rw [d] at d'
 injection d' with d1 _
 have:its=its':=by simpa using congrArg Array.toList d1
 subst this
 exact r.inj r'
end
abbrev Cx.wish (X:Cx) (E:Value→Shared→Prop):Cx:={ X with xe:=E }
abbrev Cx.nox (X:Cx):Cx:=X.wish fun _ _=>False
theorem Cx.Ok.wish {X:Cx} (ok:X.Ok) (E:Value→Shared→Prop):(X.wish E).Ok:=
 ⟨ok.mod,ok.kind,ok.glob,ok.blt,ok.above,ok.inj,ok.has,ok.cab,ok.hd,ok.frames,ok.stk,ok.exf,ok.bs,ok.bsz,ok.noex,ok.exfs,ok.funs,ok.frf⟩
theorem Cx.Ok.unwish {X:Cx} {E:Value→Shared→Prop} (ok:(X.wish E).Ok):X.Ok:=
 ⟨ok.mod,ok.kind,ok.glob,ok.blt,ok.above,ok.inj,ok.has,ok.cab,ok.hd,ok.frames,ok.stk,ok.exf,ok.bs,ok.bsz,ok.noex,ok.exfs,ok.funs,ok.frf⟩
section
variable {X:Cx} {pins:List (Addr × Obj)} {σ:St} {H:Hp} {s:Shared} {E:Value→Shared→Prop}
theorem Inv.wish (I:Inv X pins σ H s) (E:Value→Shared→Prop):Inv (X.wish E) pins σ H s:=⟨I.ok.wish E,I.os,I.bare,I.base,I.loc,I.cell,I.free,I.freeC,I.pin,I.hok,I.len⟩
theorem Inv.unwish (I:Inv (X.wish E) pins σ H s):Inv X pins σ H s:=⟨I.ok.unwish,I.os,I.bare,I.base,I.loc,I.cell,I.free,I.freeC,I.pin,I.hok,I.len⟩
theorem SP.unwish {D:Ends} {f:Flow} {s':Shared} (h:SP (X.wish E) pins D f s'):SP X pins D f s':=by
 cases f with
 | next=>obtain ⟨σ',H',I,q⟩:=h; exact ⟨σ',H',I.unwish,q⟩
 | brk=>obtain ⟨σ',H',I,q⟩:=h; exact ⟨σ',H',I.unwish,q⟩
 | cont=>obtain ⟨σ',H',I,q⟩:=h; exact ⟨σ',H',I.unwish,q⟩
 | ret u=>obtain ⟨v,σ',H',I,r,q⟩:=h; exact ⟨v,σ',H',I.unwish,r,q⟩
theorem PT.nox {e:Expr} {t:TT} (h:PT X.nox e t):PT X e t:=fun pins s σ H Q I hw=>
 wpAny_mono (h pins s σ H Q (I.wish _) hw) (fun _ _ ⟨H',I',q⟩=>⟨H',I'.unwish,q⟩) fun _ _ z=>False.elim z
theorem PSs.nox {st:List Stmt} {t:TS} (h:PSs X.nox st t):PSs X st t:=fun pins s σ H D I hw=>
 wpAny_mono (h pins s σ H D (I.wish _) hw) (fun _ _ q=>q.unwish) fun _ _ z=>False.elim z
end
section
variable {X:Cx} {st:Stmt} {rest:List Stmt} {t u:TS} {e:Expr} {te:TE} {pos:Pos}
def tNext:TS:=fun D σ H=>D.nx σ H
def tSeq (t u:TS):TS:=fun D σ H=>t { D with nx:=u D } σ H
theorem pss_nil:PSs X [] tNext:=fun _ _ σ H _ I h=>wpAny_execs_nil ⟨σ,H,I,h⟩
theorem pss_cons (h1:PS X st t) (h2:PSs X rest u):PSs X (st :: rest) (tSeq t u):=by
 intro pins s σ H D I h
 refine wpAny_execs_cons (thn (h1 pins s σ H { D with nx:=u D } I h) fun f s1 q=>?_)
 cases f with
 | next=>
  obtain ⟨σ',H',I',q⟩:=q
  exact h2 pins s1 σ' H' D I' q
 | ret v=>exact q
 | brk=>exact q
 | cont=>exact q
theorem pss_one (h1:PS X st t):PSs X [st] t:=by
 intro pins s σ H D I h
 refine wpAny_execs_cons (thn (h1 pins s σ H D I h) fun f s1 q=>?_)
 cases f with
 | next=>exact wpAny_execs_nil q
 | ret v=>exact q
 | brk=>exact q
 | cont=>exact q
theorem Inv.quiet {pins:List (Addr × Obj)} {σ:St} {H:Hp} {s:Shared} (I:Inv X pins σ H s):interactive X.env=false:=by simp [interactive,I.ok.kind]
def tDrop (te:TE):TS:=fun D σ H=>te σ H fun _ H1=>D.nx σ H1
theorem ps_expr (he:PE X e te) (hs:autoParam (swapsWith e none pos.line X.env=pure false) Au.h1._auto_1):PS X (.Expr e pos) (tDrop te):=by
 intro pins s σ H D I h
 exact wpAny_Expr_any (thn (he pins s σ H _ I h) fun v s1 zq=>ex5 zq fun x H1 I1 r1 q1=>⟨σ,H1,I1,q1⟩) I.quiet hs
def tRet (te:TE):TS:=fun D σ H=>te σ H D.rt
theorem ps_ret (he:PE X e te):PS X (.Return (some e) pos) (tRet te):=by
 intro pins s σ H D I h
 exact wpAny_Return_some (thn (he pins s σ H _ I h) fun v s1 zq=>ex5 zq fun x H1 I1 r1 q1=>⟨x,σ,H1,I1,r1,q1⟩)
def tIfS (c:TT) (t u:TS):TS:=fun D σ H=>c σ H fun b H1=>if b=true then t D σ H1 else u D σ H1
theorem ps_if {c:Expr} {a b:List Stmt} {tc:TT} (hc:PT X c tc) (ha:PSs X a t) (hb:PSs X b u):PS X (.If c a b pos) (tIfS tc t u):=by
 intro pins s σ H D I h
 refine wpAny_If (thn (hc pins s σ H _ I h) fun d s1 zq=>?_)
 obtain ⟨H1,I1,q1⟩:=zq
 cases d with
 | true=>exact ha pins s1 σ H1 D I1 q1
 | false=>exact hb pins s1 σ H1 D I1 q1
def tNever:TS:=fun _ _ _=>False
theorem ps_never:PS X st tNever:=fun _ _ _ _ _ _ h=>h.elim
end
abbrev TG:=V→St→Hp→(St→Hp→Prop)→Prop
abbrev TGs:=List V→St→Hp→(St→Hp→Prop)→Prop
def PG (X:Cx) (target:Expr) (t:TG):Prop:=
 ∀ (pins:List (Addr × Obj)) (s:Shared) (σ:St) (H:Hp) (v:V) (u:Value) (Q:St→Hp→Prop),Inv X pins σ H s→RelV v u→t v σ H Q→
  wpAny (model X.prog X.w) X.A (assign target X.env u) (fun _ s'=>∃ σ' H',Inv X pins σ' H' s'∧Q σ' H') X.xe s
def PGs (X:Cx) (ts:List Expr) (t:TGs):Prop:=
 ∀ (pins:List (Addr × Obj)) (s:Shared) (σ:St) (H:Hp) (vs:List V) (us:List Value) (Q:St→Hp→Prop),Inv X pins σ H s→Vals vs us→t vs σ H Q→
  wpAny (model X.prog X.w) X.A (assignInOrder ((assignEach ts X.env).map (·.2)) us) (fun _ s'=>∃ σ' H',Inv X pins σ' H' s'∧Q σ' H') X.xe s
abbrev TSet:=V→V→V→Hp→(Hp→Prop)→Prop
def PSet (X:Cx) (t:TSet):Prop:=
 ∀ (pins:List (Addr × Obj)) (s:Shared) (σ:St) (H:Hp) (o i v:V) (ov iv u:Value) (Q:Hp→Prop),Inv X pins σ H s→RelV o ov→RelV i iv→RelV v u→t o i v H Q→
  wpAny (model X.prog X.w) X.A (setItem ov iv u) (fun _ s'=>∃ H',Inv X pins σ H' s'∧Q H') X.xe s
section
variable {X:Cx} {pos:Pos}
def gName (i:Nat):TG:=fun v σ H Q=>Q (σ.set i (some v)) H
theorem pg_name {i:Nat} {x:Str} (hN:X.N.Nodup) (hi:X.N[i]?=some x) (hx:Loc X.env.scope x) (hf:X.fn x=true ∨ X.env.scope.names.lookup x=some .local):PG X (.Name x pos) (gName i):=by
 intro pins s σ H v u Q I r h
 exact wpAny_assign_Name (store_ok I hN hi hx r (fun s' I'=>⟨_,H,I',h⟩) hf)
def gNil:TGs:=fun vs σ H Q=>vs=[]∧Q σ H
def gCons (t:TG) (u:TGs):TGs:=fun vs σ H Q=>∃ v r,vs=v :: r∧t v σ H fun σ' H'=>u r σ' H' Q
theorem pgs_nil:PGs X [] gNil:=by
 intro pins s σ H vs us Q I r h
 obtain ⟨e,h⟩:=h
 subst e
 cases r
 exact assignInOrder_nil ⟨σ,H,I,h⟩
theorem pgs_cons {e:Expr} {es:List Expr} {t:TG} {u:TGs} (h1:PG X e t) (h2:PGs X es u)
  (hs:autoParam ((assignEach (e :: es) X.env).map (·.2)=assign e X.env :: (assignEach es X.env).map (·.2)) Au.h1._auto_1):PGs X (e :: es) (gCons t u):=by
 intro pins s σ H vs us Q I r h
 obtain ⟨v,vr,e1,h⟩:=h
 subst e1
 cases r with
 | cons r rr=>
  rw [hs]
  refine assignInOrder_cons (thn (h1 pins s σ H _ _ _ I r h) fun _ s1 zq=>?_)
  obtain ⟨σ1,H1,I1,q1⟩:=zq
  exact h2 pins s1 σ1 H1 _ _ Q I1 rr q1
def gTup (K:PySem.W.Frag) (n:Nat) (t:TGs):TG:=fun v σ H Q=>∃ a xs,v=.ref a∧SqT K H a xs∧xs.length=n∧t xs σ H Q
theorem pg_tup {es:List Expr} {k:Nat} {t:TGs} {n:Nat} (hc:X.calm=true) (h:PGs X es t)
  (hn:autoParam ((assignEach es X.env).length=n) Au.h1._auto_1) (hst:autoParam ((assignEach es X.env).findIdx? (·.1)=none) Au.h1._auto_1):PG X (.Tuple es k pos) (gTup X.K n t):=by
 intro pins s σ H v u Q I r hw
 obtain ⟨a,xs,e1,hq,hl,hw⟩:=hw
 subst e1
 cases r
 obtain ⟨its,rv,ht,hz⟩:=I.tuple hq
 refine assign_Tuple_tuple (I.ok.hd hc) ht (by simp [hn,← hl,rv.length]) hst fun h' hx=>?_
 have I1:Inv X pins σ H { s with heap:=h' }:=I.kept (t':=s.toks) fun b o e=>hx b o (Nat.ne_of_lt (Heap.lt_size e)) e
 exact h pins _ σ H xs _ Q I1 (by simpa using rv) hw
def gSub (to ti:TE) (t:TSet):TG:=fun v σ H Q=>to σ H fun o H1=>ti σ H1 fun i H2=>t o i v H2 fun H3=>Q σ H3
theorem pg_sub {o i:Expr} {to ti:TE} {t:TSet} (ho:PE X o to) (hi:PE X i ti) (hs:PSet X t)
  (ha:autoParam (∀ v,assign (.Subscript o i pos) X.env v=(do
   let ov ← holding [v] (eval o X.env)
   let iv ← holding [v,ov] (eval i X.env)
   standAt pos
   holding [v,ov,iv] (setItem ov iv v)
   release [v,ov,iv] [])) Au.h5._auto_1):PG X (.Subscript o i pos) (gSub to ti t):=by
 intro pins s σ H v u Q I r h
 rw [ha]
 refine wpAny_bind (wpAny_holding (thn (ho pins s σ H _ I h) fun ov s1 zq=>?_))
 obtain ⟨x,H1,I1,r1,q1⟩:=zq
 refine wpAny_bind (wpAny_holding (thn (hi pins s1 σ H1 _ I1 q1) fun iv s2 zq=>?_))
 obtain ⟨y,H2,I2,r2,q2⟩:=zq
 refine wpAny_bind (wpAny_standAt (wpAny_bind (wpAny_holding (thn (hs pins s2 σ H2 x y v ov iv u _ I2 r1 r2 r q2) fun _ s3 zq=>?_))))
 obtain ⟨H3,I3,q3⟩:=zq
 exact wpAny_release ⟨σ,H3,I3,q3⟩
def tAsg (te:TE) (g:TG):TS:=fun D σ H=>te σ H fun x H1=>g x σ H1 D.nx
theorem ps_asg {tg e:Expr} {te:TE} {g:TG} (he:PE X e te) (hg:PG X tg g) (hs:autoParam (swapsWithSole [tg] e pos.line X.env=pure false) Au.h1._auto_1) (hw:autoParam (swappedStores [tg] e X.env=pure none) Au.h1._auto_1)
  (h1:autoParam ((assignEach [tg] X.env).map (·.2)=[assign tg X.env]) Au.h1._auto_1):PS X (.Assign [tg] e pos) (tAsg te g):=by
 intro pins s σ H D I h
 refine wpAny_Assign_stores (thn (he pins s σ H _ I h) fun v s1 zq=>?_) hs hw
 obtain ⟨x,H1,I1,r1,q1⟩:=zq
 rw [h1]
 exact thn (hg pins s1 σ H1 x v _ I1 r1 q1) fun _ s2 q=>q
theorem ps_set {i:Nat} {x:Str} {e:Expr} {te:TE} {pos':Pos} (hN:X.N.Nodup) (hi:X.N[i]?=some x) (hx:Loc X.env.scope x) (he:PE X e te) (hs:autoParam (swapsWith e (some (.Name x pos')) pos.line X.env=pure false) Au.h1._auto_1) (hf:X.fn x=true ∨ X.env.scope.names.lookup x=some .local):
  PS X (.Assign [.Name x pos'] e pos) (tAsg te (gName i)):=by
 intro pins s σ H D I h
 refine wpAny_Assign_Name (thn (he pins s σ H _ I h) fun v s1 zq=>?_) hs
 obtain ⟨y,H1,I1,r1,q1⟩:=zq
 exact store_ok I1 hN hi hx r1 (fun s2 I2=>⟨_,H1,I2,q1⟩) hf
def tPar (i j:Nat) (ta:TA):TS:=fun D σ H=>ta σ H fun vs H1=>∃ v w,vs=[v,w]∧D.nx ((σ.set i (some v)).set j (some w)) H1
theorem ps_par {i j:Nat} {x y:Str} {a b:Expr} {ta:TA} {px py pt:Pos} {kt k2 pt2} (hc:X.calm=true) (hN:X.N.Nodup) (hi:X.N[i]?=some x) (hj:X.N[j]?=some y) (hij:i ≠ j)
  (hx:X.env.scope.names.lookup x=some .local) (hy:X.env.scope.names.lookup y=some .local) (ha:PA X [a,b] ta)
  (hw:swappedStores [.Tuple [.Name x px,.Name y py] kt pt] (.Tuple [a,b] k2 pt2) X.env=pure (some [x,y]))
  (hs:autoParam (swapsWithSole [.Tuple [.Name x px,.Name y py] kt pt] (.Tuple [a,b] k2 pt2) pos.line X.env=pure false) Au.h1._auto_1):
  PS X (.Assign [.Tuple [.Name x px,.Name y py] kt pt] (.Tuple [a,b] k2 pt2) pos) (tPar i j ta):=by
 intro pins s σ H D I h
 rw [exec_Assign_arm]
 refine wpAny_bind (wpAny_standAt ?_)
 rw [hs]
 refine wpAny_bind (wpAny_pure ?_)
 rw [if_neg (by decide)]
 refine wpAny_bind (Tuple_ (thn (ha _ pins s σ H _ I h) fun us s1 zq=>?_))
 obtain ⟨vs,H1,I1,r1,q1⟩:=zq
 obtain ⟨v,w,e1,q1⟩:=q1
 subst e1
 obtain ⟨u1,u2,rfl,rv,rw'⟩:∃ u1 u2,us=[u1,u2]∧RelV v u1∧RelV w u2:=by
  cases r1 with
  | cons p q=>
   cases q with
   | cons p' q'=>
    cases q'
    exact ⟨_,_,rfl,p,p'⟩
 refine wpAny_newObj_type ?_ (by show 2≤sizeLine; decide)
 have I2:Inv X pins σ H1 { s1 with heap:=s1.heap.push { cls:=.type "tuple",data:=.seq [u1,u2].toArray } }:=I1.kept (t':=s1.toks) fun b o e=>Heap.get?_push_of_some _ e
 rw [hw]
 refine wpAny_bind (wpAny_pure ?_)
 show wpAny (model X.prog X.w) X.A (do rule "assign.swapped-stores"; let items ← unpackItems (.ref s1.heap.objs.size) 2 none; assignInOrder [fun v=>bindName X.env y v,fun v=>bindName X.env x v] items.reverse; pure Flow.next) _ _ _
 refine wpAny_bind (wpAny_rule (wpAny_bind (unpackItems_tuple (items:=#[u1,u2]) (I.ok.hd hc) (IsTup.new s1.heap _) fun h' hx'=>?_)))
 have I3:=I2.kept (h':=h') (t':=s1.toks) fun b o e=>hx' b o (Nat.ne_of_lt (Heap.lt_size e)) e
 show wpAny _ _ (assignInOrder [fun v=>bindName X.env y v,fun v=>bindName X.env x v] [u2,u1] >>= fun _=>pure Flow.next) _ _ _
 refine wpAny_bind (assignInOrder_cons (wpAny_bindName (store_ok I3 hN hj (.inl hy) rw' (fun s2 I4=>?_) (.inr hy))))
 refine assignInOrder_cons (wpAny_bindName (store_ok I4 hN hi (.inl hx) rv (fun s3 I5=>assignInOrder_nil (wpAny_pure ?_)) (.inr hx)))
 rw [List.set_comm _ _ (Ne.symm hij)] at I5
 exact ⟨_,H1,I5,q1⟩
end
section
variable {X:Cx} {pos:Pos}
def tWhile (c:TT) (tb:TS):TS:=fun D σ H=>∃ W:Nat→St→Hp→Prop,(∃ m,W m σ H)∧∀ m σ H,W m σ H→
 c σ H fun b H1=>if b=true then ∃ N:St→Hp→Prop,(∀ σ' H',N σ' H'→∃ m',m' < m∧W m' σ' H')∧tb { D with nx:=N,ct:=N,bk:=D.nx } σ H1 else D.nx σ H1
theorem ps_while {c:Expr} {body:List Stmt} {tc:TT} {tb:TS} (hp:PassesOwn (model X.prog X.w) X.A X.env X.xe) (hc:PT X c tc) (hb:PSs X body tb):PS X (.While c body [] pos) (tWhile tc tb):=by
 intro pins s σ H D I h
 obtain ⟨W,⟨m0,w0⟩,turn⟩:=h
 refine wpAny_While (codeAny_whileLoop (fun n s'=>∃ σ' H',Inv X pins σ' H' s'∧W n σ' H') ?_ m0 ⟨σ,H,I,w0⟩)
 rintro n s1 ⟨σ1,H1,I1,w1⟩
 refine wpAny_passesOwn hp (thn (hc pins s1 σ1 H1 _ I1 (turn n σ1 H1 w1)) fun b s2 zq=>?_)
 obtain ⟨H2,I2,q2⟩:=zq
 cases b with
 | true=>
  obtain ⟨N,hN,q2⟩:=q2
  rw [if_pos rfl]
  refine wpAny_passesOwn hp (thn (hb pins s2 σ1 H2 _ I2 q2) fun f s3 q3=>?_)
  cases f with
  | next=>
   obtain ⟨σ3,H3,I3,n3⟩:=q3
   obtain ⟨m',hm,w3⟩:=hN σ3 H3 n3
   exact ⟨m',hm,σ3,H3,I3,w3⟩
  | cont=>
   obtain ⟨σ3,H3,I3,n3⟩:=q3
   obtain ⟨m',hm,w3⟩:=hN σ3 H3 n3
   exact ⟨m',hm,σ3,H3,I3,w3⟩
  | brk=>exact q3
  | ret v=>exact q3
 | false=>
  rw [if_neg Bool.false_ne_true]
  exact wpAny_execs_nil ⟨σ1,H2,I2,q2⟩
end
set_option genInjectivity false in
structure It where
 go:Nat→Hp→Prop
 yld:Nat→Hp→V→Hp→Prop
 stop:Nat→Hp→Prop
def FpOk (X:Cx) (pins:List (Addr × Obj)) (H:Hp) (b:Addr):Prop:=
 H b=none∧b ≠ X.env.locals∧b ∉ X.fs∧(b ∈ X.ex ∨ X.s₀.heap.objs.size≤b)∧(∀ x c,X.env.cells.lookup x=some c→c ≠ b)∧∀ p ∈ X.pn ++ pins,p.1 ≠ b
theorem Inv.fpOk {X:Cx} {pins:List (Addr × Obj)} {σ:St} {H H':Hp} {s:Shared} {b:Addr} (I:Inv X pins σ H s) (hb:s.heap.objs.size≤b) (hn:H' b=none):FpOk X pins H' b:=by
 refine ⟨hn,Nat.ne_of_gt (Nat.lt_of_lt_of_le I.lt hb),I.nofs hb,.inr (Nat.le_trans I.sz hb),fun x c e z=>?_,fun p hp z=>?_⟩
 ·obtain ⟨v,q⟩:=I.cell x c e
  exact absurd (Nat.lt_of_lt_of_le q.lt (by rw [z]; exact hb)) (Nat.lt_irrefl _)
 ·exact absurd (Nat.lt_of_lt_of_le (Heap.lt_size (I.pin p hp).1) (by rw [z]; exact hb)) (Nat.lt_irrefl _)
structure Turn (P:Program) (w:World) (K:PySem.W.Frag) (tg:Expr) (J:It) (fp:List Addr) (it:Addr) (tn:Nat→Heap→Prop):Prop where
 mem:it ∈ fp
 obj:∀ i h,tn i h→∀ b ∈ fp,∃ o,h.get? b=some o∧∀ v,o.data ≠ .cell v
 keep:∀ i h h',tn i h→(∀ b ∈ fp,∀ o,h.get? b=some o→h'.get? b=some o)→tn i h'
 item:∀ (X:Cx),X.prog=P→X.w=w→X.K=K→X.calm=true→∀ (i:Nat) (pins:List (Addr × Obj)) (s:Shared) (σ:St) (H:Hp) (E:Value→Shared→Prop),Inv X pins σ H s→(∀ b ∈ fp,FpOk X pins H b)→tn i s.heap→J.go i H→
  wpAny (model P w) X.A (pyNext (.ref it)) (fun r s1=>∃ u,r=some u∧
   wpAny (model P w) X.A (letOwnedTupleGo tg (.ref it) u) (fun _ s2=>∃ x H',Inv X pins σ H' s2∧RelV x u∧J.yld i H x H'∧tn (i + 1) s2.heap∧∀ b ∈ fp,H' b=none) E s1) E s
 done:∀ (X:Cx),X.prog=P→X.w=w→X.K=K→X.calm=true→∀ (i:Nat) (pins:List (Addr × Obj)) (s:Shared) (σ:St) (H:Hp) (E:Value→Shared→Prop),Inv X pins σ H s→(∀ b ∈ fp,FpOk X pins H b)→tn i s.heap→J.stop i H→
  wpAny (model P w) X.A (pyNext (.ref it)) (fun r s1=>r=none∧Inv X pins σ H s1) E s
 self:∀ (A:Around) (i:Nat) (s:Shared) (Q:Value→Shared→Prop) (E:Value→Shared→Prop),tn i s.heap→Q (.ref it) s→wpAny (model P w) A (pyIter (.ref it)) Q E s
abbrev TI:=St→Hp→(It→Hp→Prop)→Prop
def PIE (X:Cx) (pins:List (Addr × Obj)) (σ:St) (tg:Expr) (R:It→Hp→Prop) (itv:Value) (s2:Shared):Prop:=
 ∃ (it:Addr) (fp:List Addr) (tn:Nat→Heap→Prop) (J:It) (H':Hp),itv=.ref it∧Inv X pins σ H' s2∧Turn X.prog X.w X.K tg J fp it tn∧tn 0 s2.heap∧(∀ b ∈ fp,FpOk X pins H' b)∧R J H'
def PI (X:Cx) (tg iter:Expr) (wi:TI):Prop:=
 ∀ (pins:List (Addr × Obj)) (s:Shared) (σ:St) (H:Hp) (R:It→Hp→Prop),Inv X pins σ H s→wi σ H R→
  wpAny (model X.prog X.w) X.A (eval iter X.env) (fun v s1=>wpAny (model X.prog X.w) X.A (pyIter v) (PIE X pins σ tg R) X.xe s1) X.xe s
theorem go_of {M:Model} {A:Around} {E:Value→Shared→Prop} {s:Shared} {tg:Expr} {it:Addr} {u:Value} {o:Obj} {n:String} {vs:Array Value} {Q:Unit→Shared→Prop} (ho:s.heap.get? it=some o) (hc:o.cls=.type n) (hd:o.data=.fields vs)
    (hn:["enumerate","zip","dict_itemiterator","dict_reverseitemiterator","odict_iterator","itertools.zip_longest","itertools.pairwise"].contains n=false) (hQ:Q () s):wpAny M A (letOwnedTupleGo tg (.ref it) u) Q E s:=by
  unfold letOwnedTupleGo
  cases tg <;> first
    | exact wpAny_pure hQ
    | (cases u <;> first
        | exact wpAny_pure hQ
        | (refine wpAny_bind (wpAny_load ho ?_)
           rw [hc,hd]
           show wpAny M A (if (["enumerate","zip","dict_itemiterator","dict_reverseitemiterator","odict_iterator","itertools.zip_longest","itertools.pairwise"].contains n && vs[0]? == some (rawInt _))=true then _ else _) Q E s
           rw [if_neg (by intro h; rw [hn,Bool.false_and] at h; cases h)]
           exact wpAny_pure hQ))
def Itl (K:PySem.W.Frag) (a:Addr):It:=
 ⟨fun i H=>∃ xs x,SqL K H a xs∧xs[i]?=some x,fun i H x H'=>H'=H∧∀ xs,SqL K H a xs→xs[i]?=some x,fun i H=>∃ xs,SqL K H a xs∧xs.length≤i⟩
def Itt (K:PySem.W.Frag) (a:Addr):It:=
 ⟨fun i H=>∃ xs x,SqT K H a xs∧xs[i]?=some x,fun i H x H'=>H'=H∧∀ xs,SqT K H a xs→xs[i]?=some x,fun i H=>∃ xs,SqT K H a xs∧xs.length≤i⟩
def Itr (lo:Int) (n:Nat):It:=⟨fun i _=>i < n,fun i H x H'=>H'=H∧x=.int (lo + i),fun i _=>n≤i⟩
theorem turn_list {P:Program} {w:World} {K:PySem.W.Frag} {tg:Expr} (a it:Addr):Turn P w K tg (Itl K a) [it] it (fun i h=>h.IsListIter it a i) where
 mem:=by simp
 obj:=fun i h st b hb=>by
  have e:b=it:=by simpa using hb
  subst e
  obtain ⟨o,e,c,d⟩:=st
  exact ⟨o,e,fun v z=>by rw [d] at z; cases z⟩
 keep:=fun i h h' st k=>st.at fun o e=>k it (by simp) o e
 item:=by
  intro X hP hw hK hc i pins s σ H E I hf st hg
  subst hP hw hK
  obtain ⟨xs,x,hq,hx⟩:=hg
  obtain ⟨its,rv,p,hz⟩:=I.list hq
  obtain ⟨u,hu,ru⟩:=rv.get hx
  obtain ⟨f0,f1,f2,f3,f4,f5⟩:=hf it (by simp)
  refine wpAny_pyNext_list_item st p.isList (x:=u) (by simpa using hu) fun h' st' sb=>?_
  have I1:Inv X pins σ H { s with heap:=h' }:=I.turned (t':=s.toks) (fun b o hb e=>(sb.2 b hb).trans e) f0 f1 f3 f4 f5
  obtain ⟨o,e,c,d⟩:=id st'
  exact ⟨u,rfl,go_of (s:={ s with heap:=h' }) e c d (by decide) ⟨x,H,I1,ru,⟨rfl,fun ys hy=>by rw [I.list_inj hy hq]; exact hx⟩,st',fun b hb=>(hf b hb).1⟩⟩
 done:=by
  intro X hP hw hK hc i pins s σ H E I hf st hg
  subst hP hw hK
  obtain ⟨xs,hq,hx⟩:=hg
  obtain ⟨its,rv,p,hz⟩:=I.list hq
  obtain ⟨f0,f1,f2,f3,f4,f5⟩:=hf it (by simp)
  have hl:=rv.length
  exact wpAny_pyNext_list_end (I.ok.hd hc) st p.isList (by simp; omega) fun h' eb=>⟨rfl,I.turned (t':=s.toks) (fun b o hb e=>eb b o hb e) f0 f1 f3 f4 f5⟩
 self:=fun _ _ _ _ _ st h=>wpAny_pyIter_listiter st h
theorem turn_tuple {P:Program} {w:World} {K:PySem.W.Frag} {tg:Expr} (a it:Addr):Turn P w K tg (Itt K a) [it] it (fun i h=>h.IsTupleIter it a i) where
 mem:=by simp
 obj:=fun i h st b hb=>by
  have e:b=it:=by simpa using hb
  subst e
  obtain ⟨o,e,c,d⟩:=st
  exact ⟨o,e,fun v z=>by rw [d] at z; cases z⟩
 keep:=fun i h h' st k=>st.at fun o e=>k it (by simp) o e
 item:=by
  intro X hP hw hK hc i pins s σ H E I hf st hg
  subst hP hw hK
  obtain ⟨xs,x,hq,hx⟩:=hg
  obtain ⟨its,rv,p,hz⟩:=I.tuple hq
  obtain ⟨u,hu,ru⟩:=rv.get hx
  obtain ⟨f0,f1,f2,f3,f4,f5⟩:=hf it (by simp)
  refine wpAny_pyNext_tuple_item st (show s.heap.IsTuple a its.toArray from p) (x:=u) (by simpa using hu) fun h' st' sb=>?_
  have I1:Inv X pins σ H { s with heap:=h' }:=I.turned (t':=s.toks) (fun b o hb e=>(sb.2 b hb).trans e) f0 f1 f3 f4 f5
  obtain ⟨o,e,c,d⟩:=id st'
  exact ⟨u,rfl,go_of (s:={ s with heap:=h' }) e c d (by decide) ⟨x,H,I1,ru,⟨rfl,fun ys hy=>by rw [I.tuple_inj hy hq]; exact hx⟩,st',fun b hb=>(hf b hb).1⟩⟩
 done:=by
  intro X hP hw hK hc i pins s σ H E I hf st hg
  subst hP hw hK
  obtain ⟨xs,hq,hx⟩:=hg
  obtain ⟨its,rv,p,hz⟩:=I.tuple hq
  obtain ⟨f0,f1,f2,f3,f4,f5⟩:=hf it (by simp)
  have hl:=rv.length
  exact wpAny_pyNext_tuple_end (I.ok.hd hc) st (show s.heap.IsTuple a its.toArray from p) (by simp; omega) fun h' eb=>⟨rfl,I.turned (t':=s.toks) (fun b o hb e=>eb b o hb e) f0 f1 f3 f4 f5⟩
 self:=fun _ _ _ _ _ st h=>wpAny_pyIter_tupleiter st h
theorem turn_range {P:Program} {w:World} {K:PySem.W.Frag} {tg:Expr} (it:Addr) (lo:Int) (n:Nat):Turn P w K tg (Itr lo n) [it] it (fun i h=>IsRangeIter h it (lo + (i:Nat) * 1) ((n:Int) - (i:Nat)) 1) where
 mem:=by simp
 obj:=fun i h st b hb=>by
  have e:b=it:=by simpa using hb
  subst e
  exact ⟨_,st,fun v z=>by
   have z':Data.fields _=Data.cell v:=z
   cases z'⟩
 keep:=fun i h h' st k=>k it (by simp) _ st
 item:=by
  intro X hP hw hK hc i pins s σ H E I hf st hg
  subst hP hw hK
  obtain ⟨f0,f1,f2,f3,f4,f5⟩:=hf it (by simp)
  have W:=Walks.range (prog:=X.prog) (w:=X.w) (I.ok.hd hc) it lo 1 n
  refine W.item i s _ _ hg st fun v h' tk hv st' kk=>?_
  obtain ⟨t,rfl⟩:=hv
  have I1:Inv X pins σ H { s with heap:=h',toks:=tk }:=I.turned (fun b o hb e=>kk b o (by simpa using hb) e) f0 f1 f3 f4 f5
  refine ⟨_,rfl,go_of (s:={ s with heap:=h',toks:=tk }) (n:="range_iterator") st' rfl rfl (by decide) ⟨.int (lo + i),H,I1,⟨t,?_⟩,⟨rfl,rfl⟩,st',fun b hb=>(hf b hb).1⟩⟩
  rw [Int.mul_one]
 done:=by
  intro X hP hw hK hc i pins s σ H E I hf st hg
  subst hP hw hK
  obtain ⟨f0,f1,f2,f3,f4,f5⟩:=hf it (by simp)
  exact wpAny_pyNext_range_end (I.ok.hd hc) st (by have:n≤i:=hg; omega) fun h' eb=>⟨rfl,I.turned (t':=s.toks) (fun b o hb e=>eb b o hb e) f0 f1 f3 f4 f5⟩
 self:=fun _ _ _ _ _ st h=>wpAny_pyIter_rangeiter st h
end L2
namespace L2
open PySem PySem.Spec PyProof.Rows
section
variable {X:Cx} {tg:Expr}
def iList (K:PySem.W.Frag) (tl:TE):TI:=fun σ H R=>tl σ H fun x H1=>∃ a,x=.ref a∧(∃ xs,SqL K H1 a xs)∧R (Itl K a) H1
def iTup (K:PySem.W.Frag) (tl:TE):TI:=fun σ H R=>tl σ H fun x H1=>∃ a,x=.ref a∧(∃ xs,SqT K H1 a xs)∧R (Itt K a) H1
theorem pi_list {l:Expr} {tl:TE} (hl:PE X l tl):PI X tg l (iList X.K tl):=by
 intro pins s σ H R I h
 refine thn (hl pins s σ H _ I h) fun v s1 zq=>?_
 obtain ⟨x,H1,I1,r1,q1⟩:=zq
 obtain ⟨a,e,⟨xs,hq⟩,q⟩:=q1
 subst e
 cases r1
 obtain ⟨its,rv,p,hz⟩:=I1.list hq
 refine wpAny_pyIter_list p.isList ?_
 refine ⟨s1.heap.objs.size,[s1.heap.objs.size],_,_,H1,rfl,I1.kept (t':=s1.toks) fun b o e=>Heap.get?_push_of_some _ e,turn_list a _,⟨_,Heap.get?_push_size _ rfl,rfl,rfl⟩,fun b hb=>?_,q⟩
 have e:b=s1.heap.objs.size:=by simpa using hb
 subst e
 exact I1.fpOk (Nat.le_refl _) (I1.hok.fresh (Nat.le_refl _))
theorem pi_tup {l:Expr} {tl:TE} (hl:PE X l tl):PI X tg l (iTup X.K tl):=by
 intro pins s σ H R I h
 refine thn (hl pins s σ H _ I h) fun v s1 zq=>?_
 obtain ⟨x,H1,I1,r1,q1⟩:=zq
 obtain ⟨a,e,⟨xs,hq⟩,q⟩:=q1
 subst e
 cases r1
 obtain ⟨its,rv,p,hz⟩:=I1.tuple hq
 refine wpAny_pyIter_tuple (show s1.heap.IsTuple a its.toArray from p) ?_
 refine ⟨s1.heap.objs.size,[s1.heap.objs.size],_,_,H1,rfl,I1.kept (t':=s1.toks) fun b o e=>Heap.get?_push_of_some _ e,turn_tuple a _,⟨_,Heap.get?_push_size _ rfl,rfl,rfl⟩,fun b hb=>?_,q⟩
 have e:b=s1.heap.objs.size:=by simpa using hb
 subst e
 exact I1.fpOk (Nat.le_refl _) (I1.hok.fresh (Nat.le_refl _))
theorem range_it {pins:List (Addr × Obj)} {σ:St} {H:Hp} {s:Shared} {R:It→Hp→Prop} {E:Value→Shared→Prop} {lo hi:Int} {t u v:Tok} {tk:Nat} (I:Inv X pins σ H s) (h1:-(2 ^ 62)≤lo) (h2:lo < 2 ^ 62) (h3:-(2 ^ 62)≤hi) (h4:hi < 2 ^ 62)
  (q:R (Itr lo (hi - lo).toNat) H):wpAny (model X.prog X.w) X.A (pyIter (.ref s.heap.objs.size)) (PIE X pins σ tg R) E { s with heap:=s.heap.push { cls:=.type "range",data:=.fields #[.int lo t,.int hi u,.int 1 v] },toks:=tk }:=by
 refine wpAny_pyIter_range (IsRange.new ..) (small_one h1 h2 h3 h4) ?_
 have I1:Inv X pins σ H { s with heap:=s.heap.push { cls:=.type "range",data:=.fields #[.int lo t,.int hi u,.int 1 v] },toks:=tk }:=I.kept fun b o e=>Heap.get?_push_of_some _ e
 refine ⟨(s.heap.push { cls:=.type "range",data:=.fields #[.int lo t,.int hi u,.int 1 v] }).objs.size,[(s.heap.push { cls:=.type "range",data:=.fields #[.int lo t,.int hi u,.int 1 v] }).objs.size],_,_,H,rfl,
  I1.kept (t':=tk) fun b o e=>Heap.get?_push_of_some _ e,turn_range _ lo (hi - lo).toNat,?_,fun b hb=>?_,q⟩
 ·have e1:lo + ((0:Nat):Int) * 1=lo:=by simp
  have e2:(((hi - lo).toNat:Nat):Int) - ((0:Nat):Int)=Builtin.Range.rangeSize lo hi 1:=by rw [rangeSize_one]; split <;> omega
  show IsRangeIter _ _ (lo + ((0:Nat):Int) * 1) ((((hi - lo).toNat:Nat):Int) - ((0:Nat):Int)) 1
  rw [e1,e2]
  exact Heap.get?_push_size _ rfl
 ·have e:b=(s.heap.push { cls:=.type "range",data:=.fields #[.int lo t,.int hi u,.int 1 v] }).objs.size:=by simpa using hb
  subst e
  exact I1.fpOk (Nat.le_refl _) (I1.hok.fresh (Nat.le_refl _))
def iRng1 (ta:TA):TI:=fun σ H R=>ta σ H fun vs H1=>∃ j:Int,vs=[.int j]∧-(2 ^ 62)≤j∧j < 2 ^ 62∧R (Itr 0 j.toNat) H1
theorem pi_range1 {a:Expr} {ta:TA} {p pos:Pos} (hg:Gl X "range") (hm:X.mg "range" = none) (ha:PA X [a] ta) (hs:autoParam (starEach [a] X.env=[(false,eval a X.env)]) Au.h1._auto_1):PI X tg (.Call (.Name "range" p) [a] [] pos) (iRng1 ta):=by
 intro pins s σ H R I h
 refine Call_ (ld_blt I hg hm boot_range (PyProof.Rows.callWith_type1 (thn (ha pos pins s σ H _ I h) fun us s1 zq=>?_) hs rfl))
 obtain ⟨vs,H1,I1,r1,q1⟩:=zq
 obtain ⟨j,e,q1,q2,q⟩:=q1
 subst e
 cases r1 with
 | cons r rr=>
  cases rr
  obtain ⟨t,rfl⟩:=r
  exact call_range_1 (range_it I1 (by omega) (by omega) q1 q2 (by simpa using q))
def tFor (wi:TI) (g:TG) (tb:TS):TS:=fun D σ H=>wi σ H fun J H1=>∃ W:Nat→Nat→St→Hp→Prop,(∃ m,W 0 m σ H1)∧∀ i m σ H,W i m σ H→
 (J.stop i H∧D.nx σ H) ∨ (J.go i H∧∃ N:St→Hp→Prop,(∀ σ' H',N σ' H'→∃ m',m' < m∧W (i + 1) m' σ' H')∧∀ x H',J.yld i H x H'→g x σ H' fun σ2 H2=>tb { D with nx:=N,ct:=N,bk:=D.nx } σ2 H2)
def pinsAt (fp:List Addr) (h:Heap):List (Addr × Obj):=fp.filterMap fun b=>(h.get? b).map fun o=>(b,o)
theorem mem_pinsAt {fp:List Addr} {h:Heap} {b:Addr} {o:Obj} (hb:b ∈ fp) (e:h.get? b=some o):(b,o) ∈ pinsAt fp h:=List.mem_filterMap.mpr ⟨b,hb,by rw [e]; rfl⟩
theorem of_pinsAt {fp:List Addr} {h:Heap} {p:Addr × Obj} (hp:p ∈ pinsAt fp h):p.1 ∈ fp∧h.get? p.1=some p.2:=by
 obtain ⟨b,hb,e⟩:=List.mem_filterMap.mp hp
 cases q:h.get? b with
 | none=>rw [q] at e; cases e
 | some o=>
  rw [q] at e
  have e':(b,o)=p:=Option.some.inj e
  subst e'
  exact ⟨hb,q⟩
theorem Inv.pinned {pins:List (Addr × Obj)} {σ:St} {H:Hp} {s:Shared} {fp:List Addr} (I:Inv X pins σ H s) (hf:∀ b ∈ fp,FpOk X pins H b) (ho:∀ b ∈ fp,∃ o,s.heap.get? b=some o∧∀ v,o.data ≠ .cell v):Inv X (pins ++ pinsAt fp s.heap) σ H s:=
 I.pins_of fun p hp=>(List.mem_append.mp hp).elim (fun z=>I.pin p (List.mem_append_right _ z)) fun z=>by
  obtain ⟨hb,e⟩:=of_pinsAt z
  obtain ⟨f0,f1,f2,_⟩:=hf p.1 hb
  obtain ⟨o,e',d⟩:=ho p.1 hb
  rw [e] at e'; cases e'
  exact ⟨e,f0,f1,f2,d⟩
theorem Inv.unpinned {pins pl:List (Addr × Obj)} {σ:St} {H:Hp} {s:Shared} (I:Inv X (pins ++ pl) σ H s):Inv X pins σ H s:=I.pins_of fun p hp=>I.pin p (List.mem_append_right _ (List.mem_append_left _ hp))
theorem ps_for {iter:Expr} {body:List Stmt} {wi:TI} {g:TG} {tb:TS} {pos:Pos} (hp:PassesOwn (model X.prog X.w) X.A X.env X.xe) (hc:X.calm=true) (hi:PI X tg iter wi) (hg:PG X tg g) (hb:PSs X body tb)
  (hs:autoParam (∀ x,foldedSetIterable iter X.env x=pure x) Au.h5._auto_1):PS X (.For tg iter body [] pos) (tFor wi g tb):=by
 intro pins s σ H D I h
 refine wpAny_For (thn (hi pins s σ H _ I h) fun v s1 h1=>thn h1 fun itv s2 h2=>?_) hs
 obtain ⟨it,fp,tn,J,H2,e,I2,T,st2,f2,W,⟨m0,w0⟩,turn⟩:=h2
 subst e
 -- what stays true of the iterator's objects through the loop
 have stat:∀ {H':Hp},(∀ b ∈ fp,H' b=none)→∀ b ∈ fp,FpOk X pins H' b:=fun hn b hb=>⟨hn b hb,(f2 b hb).2⟩
 refine codeAny_forLoop_any (fun n s'=>∃ i σ' H',Inv X pins σ' H' s'∧tn i s'.heap∧(∀ b ∈ fp,H' b=none)∧W i n σ' H') ?_ m0 ⟨0,σ,H2,I2,st2,fun b hb=>(f2 b hb).1,w0⟩
 rintro n s3 ⟨i,σ3,H3,I3,st3,fr3,w3⟩
 rcases turn i n σ3 H3 w3 with ⟨stop,qn⟩ | ⟨go,N,hN,step⟩
 ·refine wpAny_passesOwn hp (thn (T.done X rfl rfl rfl hc i pins s3 σ3 H3 X.xe I3 (stat fr3) st3 stop) fun r s4 zq=>?_)
  obtain ⟨hr,I4⟩:=zq
  subst hr
  exact wpAny_execs_nil ⟨σ3,H3,I4,qn⟩
 ·refine wpAny_passesOwn hp (thn (T.item X rfl rfl rfl hc i pins s3 σ3 H3 X.xe I3 (stat fr3) st3 go) fun r s4 zq=>?_)
  obtain ⟨u,hr,h4⟩:=zq
  subst hr
  refine wpAny_passesOwn hp (thn h4 fun _ s5 zq=>?_)
  obtain ⟨x,H5,I5,r5,y5,st5,fr5⟩:=zq
  have I5':=I5.pinned (stat fr5) (T.obj _ _ st5)
  refine wpAny_passesOwn hp (thn (hg _ s5 σ3 H5 x u _ I5' r5 (step x H5 y5)) fun _ s6 zq=>?_)
  obtain ⟨σ6,H6,I6,q6⟩:=zq
  refine wpAny_passesOwn hp (thn (hb _ s6 σ6 H6 _ I6 q6) fun f s7 q7=>?_)
  have again:∀ {σ7:St} {H7:Hp},Inv X (pins ++ pinsAt fp s5.heap) σ7 H7 s7→N σ7 H7→∃ m,m < n∧∃ i σ' H',Inv X pins σ' H' s7∧tn i s7.heap∧(∀ b ∈ fp,H' b=none)∧W i m σ' H':=fun {σ7 H7} I7 n7=>by
   obtain ⟨m',hm,w7⟩:=hN σ7 H7 n7
   refine ⟨m',hm,i + 1,σ7,H7,I7.unpinned,T.keep _ _ _ st5 fun b hb o e=>(I7.pin (b,o) (List.mem_append_right _ (List.mem_append_right _ (mem_pinsAt hb e)))).1,fun b hb=>?_,w7⟩
   obtain ⟨o,e,d⟩:=T.obj _ _ st5 b hb
   exact (I7.pin (b,o) (List.mem_append_right _ (List.mem_append_right _ (mem_pinsAt hb e)))).2.1
  cases f with
  | next=>obtain ⟨σ7,H7,I7,n7⟩:=q7; exact again I7 n7
  | cont=>obtain ⟨σ7,H7,I7,n7⟩:=q7; exact again I7 n7
  | brk=>obtain ⟨σ7,H7,I7,q7⟩:=q7; exact ⟨σ7,H7,I7.unpinned,q7⟩
  | ret v=>obtain ⟨x7,σ7,H7,I7,r7,q7⟩:=q7; exact ⟨x7,σ7,H7,I7.unpinned,r7,q7⟩
end
end L2
namespace L2
open PySem PySem.Spec PyProof.Rows
abbrev R2:=V→V→Hp→VK→Prop
def OpR (X:Cx) (f:Value→Value→Sem Value) (r:R2):Prop:=
 ∀ (pins:List (Addr × Obj)) (s:Shared) (σ:St) (H:Hp) (x y:V) (v u:Value) (Q:VK),Inv X pins σ H s→RelV x v→RelV y u→r x y H Q→
  wpAny (model X.prog X.w) X.A (f v u) (EP X pins σ Q) X.xe s
def UnR (X:Cx) (f:Value→Sem Value) (r:V→Hp→VK→Prop):Prop:=
 ∀ (pins:List (Addr × Obj)) (s:Shared) (σ:St) (H:Hp) (x:V) (v:Value) (Q:VK),Inv X pins σ H s→RelV x v→r x H Q→
  wpAny (model X.prog X.w) X.A (f v) (EP X pins σ Q) X.xe s
def CallR (X:Cx) (f:Value) (r:List V→Hp→VK→Prop):Prop:=
 ∀ (pins:List (Addr × Obj)) (s:Shared) (σ:St) (H:Hp) (xs:List V) (us:List Value) (Q:VK),Inv X pins σ H s→Vals xs us→r xs H Q→
  wpAny (model X.prog X.w) X.A (call f us) (EP X pins σ Q) X.xe s
def tOp (r:R2) (ta tb:TE):TE:=fun σ H Q=>ta σ H fun x H1=>tb σ H1 fun y H2=>r x y H2 Q
def tUn (r:V→Hp→VK→Prop) (ta:TE):TE:=fun σ H Q=>ta σ H fun x H1=>r x H1 Q
def rI (C:Int→Int→Prop) (g:Int→Int→V):R2:=fun x y H Q=>∃ i j,x=.int i∧y=.int j∧C i j∧Q (g i j) H
def rI0 (g:Int→Int→V):R2:=fun x y H Q=>∃ i j,x=.int i∧y=.int j∧Q (g i j) H
def rU (g:Int→V):V→Hp→VK→Prop:=fun x H Q=>∃ i,x=.int i∧Q (g i) H
section
variable {X:Cx} {a b c:Expr} {ta tb tc:TE} {pos:Pos}
theorem binT (ha:PE X a ta) (hb:PE X b tb) {pins:List (Addr × Obj)} {s:Shared} {σ:St} {H:Hp} {R:V→V→Hp→Prop} (I:Inv X pins σ H s)
  (h:ta σ H fun x H1=>tb σ H1 fun y H2=>R x y H2) {Q:Value→Shared→Prop} {f:Value→Value→Sem Value}
  (hf:∀ v u s2 x y H2,Inv X pins σ H2 s2→RelV x v→RelV y u→R x y H2→wpAny (model X.prog X.w) X.A (f v u) Q X.xe s2):
  wpAny (model X.prog X.w) X.A (eval a X.env) (fun v s₁=>wpAny (model X.prog X.w) X.A (eval b X.env) (fun u s₂=>wpAny (model X.prog X.w) X.A (f v u) Q X.xe s₂) X.xe s₁) X.xe s:=by
 refine thn (ha pins s σ H _ I h) fun v s1 zq=>?_
 obtain ⟨x,H1,I1,r1,q1⟩:=zq
 refine thn (hb pins s1 σ H1 _ I1 q1) fun u s2 zq=>?_
 obtain ⟨y,H2,I2,r2,q2⟩:=zq
 exact hf v u s2 x y H2 I2 r1 r2 q2
theorem pe_op {op:Operator} {r:R2} (ho:OpR X (binaryOp op) r) (ha:PE X a ta) (hb:PE X b tb):PE X (.BinOp a op b pos) (tOp r ta tb):=by
 intro pins s σ H Q I h
 exact wpAny_BinOp (binT ha hb I h fun v u s2 x y H2 I2 rx ry q=>ho pins s2 σ H2 x y v u Q I2 rx ry q)
theorem pe_un {op:UnaryOp} {r:V→Hp→VK→Prop} (ho:UnR X (unaryOp op) r) (ha:PE X a ta):PE X (.UnaryOp op a pos) (tUn r ta):=by
 intro pins s σ H Q I h
 exact UnaryOp_ (thn (ha pins s σ H _ I h) fun v s1 zq=>ex5 zq fun x H1 I1 r1 q1=>ho pins s1 σ H1 x v Q I1 r1 q1)
theorem opI {f:Value→Value→Sem Value} {C:Int→Int→Prop} {g:Int→Int→Int}
  (rule:∀ (i j:Int) (t u:Tok) (s:Shared) (Q:Value→Shared→Prop) (E:Value→Shared→Prop),C i j→Q (.int (g i j) s.toks) { s with toks:=s.toks + 1 }→wpAny (model X.prog X.w) X.A (f (.int i t) (.int j u)) Q E s):
  OpR X f (rI C fun i j=>.int (g i j)):=by
 intro pins s σ H x y v u Q I rx ry h
 obtain ⟨i,j,rfl,rfl,hc,q⟩:=h
 obtain ⟨t,rfl⟩:=rx
 obtain ⟨t',rfl⟩:=ry
 exact rule i j t t' s _ _ hc ⟨.int (g i j),H,I.tok _,⟨_,rfl⟩,q⟩
theorem opI0 {f:Value→Value→Sem Value} {g:Int→Int→Int}
  (rule:∀ (i j:Int) (t u:Tok) (s:Shared) (Q:Value→Shared→Prop) (E:Value→Shared→Prop),Q (.int (g i j) s.toks) { s with toks:=s.toks + 1 }→wpAny (model X.prog X.w) X.A (f (.int i t) (.int j u)) Q E s):
  OpR X f (rI0 fun i j=>.int (g i j)):=by
 intro pins s σ H x y v u Q I rx ry h
 obtain ⟨i,j,rfl,rfl,q⟩:=h
 obtain ⟨t,rfl⟩:=rx
 obtain ⟨t',rfl⟩:=ry
 exact rule i j t t' s _ _ ⟨.int (g i j),H,I.tok _,⟨_,rfl⟩,q⟩
theorem opB0 {f:Value→Value→Sem Value} {g:Int→Int→Bool}
  (rule:∀ (i j:Int) (t u:Tok) (s:Shared) (Q:Value→Shared→Prop) (E:Value→Shared→Prop),Q (.bool (g i j)) s→wpAny (model X.prog X.w) X.A (f (.int i t) (.int j u)) Q E s):
  OpR X f (rI0 fun i j=>.bl (g i j)):=by
 intro pins s σ H x y v u Q I rx ry h
 obtain ⟨i,j,rfl,rfl,q⟩:=h
 obtain ⟨t,rfl⟩:=rx
 obtain ⟨t',rfl⟩:=ry
 exact rule i j t t' s _ _ ⟨.bl (g i j),H,I,rfl,q⟩
def CDiv (i j:Int):Prop:=0 < j∧j < 1073741824
def CPow (i j:Int):Prop:=0≤j∧j≤1000000∧i.natAbs < 2 ^ 64
def CMul (i j:Int):Prop:=(-(2 ^ 64) < i∧i < 2 ^ 64) ∨ (-(2 ^ 64) < j∧j < 2 ^ 64)
theorem CMul.ok {i j:Int} (h:CMul i j):IntMulOk i j:=by
 rcases h with ⟨h1,h2⟩ | ⟨h1,h2⟩
 ·exact .of_left (intBits_le_64 h1 h2)
 ·exact .of_right (intBits_le_64 h1 h2)
theorem op_add:OpR X (binaryOp .Add) (rI0 fun i j=>.int (i + j)):=opI0 fun _ _ _ _ _ _ _ q=>add_int q
theorem op_sub:OpR X (binaryOp .Sub) (rI0 fun i j=>.int (i - j)):=opI0 fun _ _ _ _ _ _ _ q=>sub_int q
theorem op_mul:OpR X (binaryOp .Mult) (rI CMul fun i j=>.int (i * j)):=opI fun _ _ _ _ _ _ _ hc q=>mul_int q hc.ok
theorem op_fdiv:OpR X (binaryOp .FloorDiv) (rI CDiv fun i j=>.int (i / j)):=opI fun i j _ _ _ _ _ hc q=>by
 have h1:(0:Int) < j:=hc.1
 have h2:j < 1073741824:=hc.2
 exact floordiv_int (by omega) (by rw [Int.fdiv_eq_ediv_of_nonneg i (by omega)]; exact q) (.inl (PyProof.noPylong_small (by omega)))
theorem op_mod:OpR X (binaryOp .Mod) (rI (fun _ j=>0 < j) fun i j=>.int (i % j)):=opI fun i j _ _ _ _ _ hc q=>by
 have h1:(0:Int) < j:=hc
 exact mod_int' (by omega) (by rw [Int.fmod_eq_emod_of_nonneg i (by omega)]; exact q)
theorem op_pow:OpR X (binaryOp .Pow) (rI CPow fun i j=>.int (i ^ j.toNat)):=opI fun _ _ _ _ _ _ _ hc q=>pow_int_small hc.1 hc.2.1 hc.2.2 q
theorem op_shl:OpR X (binaryOp .LShift) (rI CPow fun i j=>.int (i * 2 ^ j.toNat)):=opI fun _ _ _ _ _ _ _ hc q=>lshift_int_small hc.1 hc.2.1 hc.2.2 q
theorem unI {f:Value→Sem Value} {g:Int→Int}
  (rule:∀ (i:Int) (t:Tok) (s:Shared) (Q:Value→Shared→Prop) (E:Value→Shared→Prop),Q (.int (g i) s.toks) { s with toks:=s.toks + 1 }→wpAny (model X.prog X.w) X.A (f (.int i t)) Q E s):
  UnR X f (rU fun i=>.int (g i)):=by
 intro pins s σ H x v Q I rx h
 obtain ⟨i,rfl,q⟩:=h
 obtain ⟨t,rfl⟩:=rx
 exact rule i t s _ _ ⟨.int (g i),H,I.tok _,⟨_,rfl⟩,q⟩
theorem un_neg:UnR X (unaryOp .USub) (rU fun i=>.int (-i)):=unI fun _ _ _ _ _ q=>neg_int q
end
def scal:V→V→Bool
 | .non,.non=>true | .non,.int _=>true | .int _,.non=>true | .non,.bl _=>true | .bl _,.non=>true | .non,.str _=>true | .str _,.non=>true
 | .int _,.int _=>true | .bl _,.bl _=>true | .str _,.str _=>true | .byt _,.byt _=>true
 | .int _,.str _=>true | .str _,.int _=>true | .bl _,.str _=>true | .str _,.bl _=>true
 | _,_=>false
def rEq:R2:=fun x y H Q=>scal x y=true∧Q (.bl (decide (x=y))) H
def rNe:R2:=fun x y H Q=>scal x y=true∧Q (.bl (!decide (x=y))) H
theorem dec_int {i j:Int}:decide (V.int i=V.int j)=(i == j):=by
 rw [Bool.eq_iff_iff]
 simp
theorem dec_bl {i j:Bool}:decide (V.bl i=V.bl j)=(i == j):=by
 rw [Bool.eq_iff_iff]
 simp
theorem dec_str {i j:Str}:decide (V.str i=V.str j)=(i == j):=by
 rw [Bool.eq_iff_iff]
 simp
theorem dec_byt {i j:Array UInt8}:decide (V.byt i=V.byt j)=(i.toList == j.toList):=by
 rw [Bool.eq_iff_iff]
 cases i
 cases j
 simp
section
variable {X:Cx} {a b c:Expr} {ta tb tc:TE} {pos:Pos}
theorem fin_bl {pins:List (Addr × Obj)} {σ:St} {H:Hp} {s:Shared} {Q:VK} {k k':Bool} (I:Inv X pins σ H s) (q:Q (.bl k) H) (e:k=k'):EP X pins σ Q (.bool k') s:=by
 subst e
 exact ⟨.bl k,H,I,rfl,q⟩
theorem op_eq:OpR X (compareOp .Eq) rEq:=by
 intro pins s σ H x y v u Q I rx ry h
 obtain ⟨hs,q⟩:=h
 cases x with
 | non=>
  cases rx
  cases y with
  | non=>cases ry; exact PySem.EqNone.eq_none_none (fin_bl I q (by simp))
  | bl j=>cases ry; exact PySem.EqNone.eq_none_bool (fin_bl I q (by simp))
  | int j=>obtain ⟨t',rfl⟩:=ry; exact PySem.EqNone.eq_none_int (fin_bl I q (by simp))
  | str j=>obtain ⟨t',rfl⟩:=ry; exact PySem.EqNone.eq_none_str (fin_bl I q (by simp))
  | _=>exact absurd (show false=true from hs) Bool.false_ne_true
 | bl i=>
  cases rx
  cases y with
  | non=>cases ry; exact PySem.EqNone.eq_bool_none (fin_bl I q (by simp))
  | bl j=>cases ry; exact eq_bool (fin_bl I q dec_bl)
  | str j=>obtain ⟨t',rfl⟩:=ry; exact PySem.EqMixed.eq_bool_str (fin_bl I q (by simp))
  | _=>exact absurd (show false=true from hs) Bool.false_ne_true
 | int i=>
  obtain ⟨t,rfl⟩:=rx
  cases y with
  | non=>cases ry; exact PySem.EqNone.eq_int_none (fin_bl I q (by simp))
  | int j=>obtain ⟨t',rfl⟩:=ry; exact eq_int (fin_bl I q dec_int)
  | str j=>obtain ⟨t',rfl⟩:=ry; exact PySem.EqMixed.eq_int_str (fin_bl I q (by simp))
  | _=>exact absurd (show false=true from hs) Bool.false_ne_true
 | str i=>
  obtain ⟨t,rfl⟩:=rx
  cases y with
  | non=>cases ry; exact PySem.EqNone.eq_str_none (fin_bl I q (by simp))
  | bl j=>cases ry; exact PySem.EqMixed.eq_str_bool (fin_bl I q (by simp))
  | int j=>obtain ⟨t',rfl⟩:=ry; exact PySem.EqMixed.eq_str_int (fin_bl I q (by simp))
  | str j=>obtain ⟨t',rfl⟩:=ry; exact eq_str (fin_bl I q dec_str)
  | _=>exact absurd (show false=true from hs) Bool.false_ne_true
 | byt i=>
  obtain ⟨t,rfl⟩:=rx
  cases y with
  | byt j=>obtain ⟨t',rfl⟩:=ry; exact PySem.W.eq_bytes (fin_bl I q dec_byt)
  | _=>exact absurd (show false=true from hs) Bool.false_ne_true
 | _=>cases y <;> exact absurd (show false=true from hs) Bool.false_ne_true
theorem op_ne:OpR X (compareOp .NotEq) rNe:=by
 intro pins s σ H x y v u Q I rx ry h
 obtain ⟨hs,q⟩:=h
 cases x with
 | non=>
  cases rx
  cases y with
  | non=>cases ry; exact PySem.EqNone.ne_none_none (fin_bl I q (by simp))
  | bl j=>cases ry; exact PySem.EqNone.ne_none_bool (fin_bl I q (by simp))
  | int j=>obtain ⟨t',rfl⟩:=ry; exact PySem.EqNone.ne_none_int (fin_bl I q (by simp))
  | str j=>obtain ⟨t',rfl⟩:=ry; exact PySem.EqNone.ne_none_str (fin_bl I q (by simp))
  | _=>exact absurd (show false=true from hs) Bool.false_ne_true
 | bl i=>
  cases rx
  cases y with
  | non=>cases ry; exact PySem.EqNone.ne_bool_none (fin_bl I q (by simp))
  | bl j=>cases ry; exact ne_bool (fin_bl I q (congrArg not dec_bl))
  | str j=>obtain ⟨t',rfl⟩:=ry; exact PySem.EqMixed.ne_bool_str (fin_bl I q (by simp))
  | _=>exact absurd (show false=true from hs) Bool.false_ne_true
 | int i=>
  obtain ⟨t,rfl⟩:=rx
  cases y with
  | non=>cases ry; exact PySem.EqNone.ne_int_none (fin_bl I q (by simp))
  | int j=>obtain ⟨t',rfl⟩:=ry; exact ne_int (fin_bl I q (congrArg not dec_int))
  | str j=>obtain ⟨t',rfl⟩:=ry; exact PySem.EqMixed.ne_int_str (fin_bl I q (by simp))
  | _=>exact absurd (show false=true from hs) Bool.false_ne_true
 | str i=>
  obtain ⟨t,rfl⟩:=rx
  cases y with
  | non=>cases ry; exact PySem.EqNone.ne_str_none (fin_bl I q (by simp))
  | bl j=>cases ry; exact PySem.EqMixed.ne_str_bool (fin_bl I q (by simp))
  | int j=>obtain ⟨t',rfl⟩:=ry; exact PySem.EqMixed.ne_str_int (fin_bl I q (by simp))
  | str j=>obtain ⟨t',rfl⟩:=ry; exact ne_str (fin_bl I q (congrArg not dec_str))
  | _=>exact absurd (show false=true from hs) Bool.false_ne_true
 | byt i=>
  obtain ⟨t,rfl⟩:=rx
  cases y with
  | byt j=>obtain ⟨t',rfl⟩:=ry; exact PySem.W.ne_bytes (fin_bl I q (congrArg not dec_byt))
  | _=>exact absurd (show false=true from hs) Bool.false_ne_true
 | _=>cases y <;> exact absurd (show false=true from hs) Bool.false_ne_true
theorem op_lt:OpR X (compareOp .Lt) (rI0 fun i j=>.bl (decide (i < j))):=opB0 fun _ _ _ _ _ _ _ q=>lt_int q
theorem op_le:OpR X (compareOp .LtE) (rI0 fun i j=>.bl (decide (i≤j))):=opB0 fun _ _ _ _ _ _ _ q=>le_int q
theorem op_gt:OpR X (compareOp .Gt) (rI0 fun i j=>.bl (decide (j < i))):=opB0 fun _ _ _ _ _ _ _ q=>gt_int q
theorem op_ge:OpR X (compareOp .GtE) (rI0 fun i j=>.bl (decide (j≤i))):=opB0 fun _ _ _ _ _ _ _ q=>ge_int q
theorem nomark (b:Expr) {op:CmpOp} (h:autoParam (op ≠ .In) Au.h2._auto_1) (h2:autoParam (op ≠ .NotIn) Au.h2._auto_1):behindInMarks op b=false:=by
 have e1:(op == CmpOp.In)=false:=by cases op <;> first | rfl | exact absurd rfl h
 have e2:(op == CmpOp.NotIn)=false:=by cases op <;> first | rfl | exact absurd rfl h2
 cases b <;> simp [behindInMarks,e1,e2]
theorem pe_cmpR {op:CmpOp} {r:R2} (ho:OpR X (compareOp op) r) (ha:PE X a ta) (hb:PE X b tb) (hm:behindInMarks op b=false):PE X (.Compare a [op] [b] pos) (tOp r ta tb):=by
 intro pins s σ H Q I h
 exact wpAny_Compare1 (binT ha hb I h fun v u s2 x y H2 I2 rx ry q=>ho pins s2 σ H2 x y v u Q I2 rx ry q) hm
def tTest (t:TE):TT:=fun σ H Q=>t σ H fun x H'=>∃ k,x=.bl k∧Q k H'
theorem pt_cmpR {op:CmpOp} {r:R2} (ho:OpR X (compareOp op) r) (ha:PE X a ta) (hb:PE X b tb) (hm:behindInMarks op b=false):PT X (.Compare a [op] [b] pos) (tTest (tOp r ta tb)):=by
 intro pins s σ H Q I h
 refine wpAny_isTrue_Compare1 (thn (ha pins s σ H _ I h) fun v s1 zq=>ex5 zq fun x H1 I1 r1 q1=>thn (hb pins s1 σ H1 _ I1 q1) fun u s2 zq=>ex5 zq fun y H2 I2 r2 q2=>
  thn (ho pins s2 σ H2 x y v u _ I2 r1 r2 q2) fun c s3 ⟨z,H3,I3,r3,k,e,q3⟩=>?_) hm
 subst e
 cases r3
 exact wpAny_truthy_bool ⟨H3,I3,q3⟩
theorem line63:(sizeLine:Nat) < 2 ^ 63:=by rw [sizeLine_eq]; decide
theorem op_add_str:OpR X (binaryOp .Add) (fun x y H Q=>∃ i j,x=.str i∧y=.str j∧i.length + j.length≤sizeLine∧Q (.str (i ++ j)) H):=by
 intro pins s σ H x y v u Q I rx ry h
 obtain ⟨i,j,rfl,rfl,hz,q⟩:=h
 obtain ⟨t,rfl⟩:=rx
 obtain ⟨t',rfl⟩:=ry
 exact add_str (fun t' tk=>⟨.str (i ++ j),H,I.tok _,⟨_,rfl⟩,q⟩) hz
theorem vals1 {x:V} {us:List Value} (r:Vals [x] us):∃ u,us=[u]∧RelV x u:=by
 cases r with
 | cons r1 r2=>cases r2; exact ⟨_,rfl,r1⟩
theorem vals2 {x y:V} {us:List Value} (r:Vals [x,y] us):∃ u w',us=[u,w']∧RelV x u∧RelV y w':=by
 cases r with
 | cons r1 r2=>
  cases r2 with
  | cons r3 r4=>cases r4; exact ⟨_,_,rfl,r1,r3⟩
theorem call_abs:CallR X (.builtin "abs") (fun xs H Q=>∃ i,xs=[.int i]∧Q (.int (if i < 0 then -i else i)) H):=by
 intro pins s σ H xs us Q I r h
 obtain ⟨i,rfl,q⟩:=h
 obtain ⟨u,rfl,t,rfl⟩:=vals1 r
 exact call_abs_int fun u tk=>⟨.int (if i < 0 then -i else i),H,I.tok _,⟨_,rfl⟩,q⟩
theorem call_max2 (hc:X.calm=true):CallR X (.builtin "max") (fun xs H Q=>∃ i j,xs=[.int i,.int j]∧Q (.int (if j > i then j else i)) H):=by
 intro pins s σ H xs us Q I r h
 obtain ⟨i,j,rfl,q⟩:=h
 obtain ⟨u,w',rfl,⟨t,rfl⟩,⟨t',rfl⟩⟩:=vals2 r
 refine max_two_ints (I.ok.hd hc) fun h' tk k=>⟨_,H,I.kept k,?_,q⟩
 by_cases hj:j > i
 ·rw [if_pos hj,if_pos hj]; exact ⟨_,rfl⟩
 ·rw [if_neg hj,if_neg hj]; exact ⟨_,rfl⟩
theorem call_min2 (hc:X.calm=true):CallR X (.builtin "min") (fun xs H Q=>∃ i j,xs=[.int i,.int j]∧Q (.int (if j < i then j else i)) H):=by
 intro pins s σ H xs us Q I r h
 obtain ⟨i,j,rfl,q⟩:=h
 obtain ⟨u,w',rfl,⟨t,rfl⟩,⟨t',rfl⟩⟩:=vals2 r
 refine min_two_ints (I.ok.hd hc) fun h' tk k=>⟨_,H,I.kept k,?_,q⟩
 by_cases hj:j < i
 ·rw [if_pos hj,if_pos hj]; exact ⟨_,rfl⟩
 ·rw [if_neg hj,if_neg hj]; exact ⟨_,rfl⟩
theorem call_int1:CallR X (.type "int") (fun xs H Q=>(∃ i,xs=[.int i]∧Q (.int i) H) ∨ ∃ k,xs=[.bl k]∧Q (.int (if k then 1 else 0)) H):=by
 intro pins s σ H xs us Q I r h
 rcases h with ⟨i,rfl,q⟩ | ⟨k,rfl,q⟩
 ·obtain ⟨u,rfl,t,rfl⟩:=vals1 r
  exact call_int_int ⟨.int i,H,I,⟨_,rfl⟩,q⟩
 ·obtain ⟨u,rfl,r1⟩:=vals1 r
  cases r1
  exact call_int_bool ⟨.int (if k then 1 else 0),H,I.tok _,⟨_,rfl⟩,q⟩
theorem call_divmod:CallR X (.builtin "divmod") (fun xs H Q=>∃ i j,xs=[.int i,.int j]∧CDiv i j∧∀ p,H p=none→Q (.ref p) (upd H p (.tup [.int (i / j),.int (i % j)]))):=by
 intro pins s σ H xs us Q I r h
 obtain ⟨i,j,rfl,⟨h1,h2⟩,q⟩:=h
 obtain ⟨u,w',rfl,⟨t,rfl⟩,⟨t',rfl⟩⟩:=vals2 r
 refine divmod_int (by omega) ?_ (.inl (PyProof.noPylong_small (by omega)))
 rw [Int.fdiv_eq_ediv_of_nonneg i (by omega),Int.fmod_eq_emod_of_nonneg i (by omega)]
 have hn:H s.heap.objs.size=none:=I.hok.fresh (Nat.le_refl _)
 refine ⟨.ref s.heap.objs.size,_,?_,rfl,q _ hn⟩
 refine I.laid (fun b o e=>Heap.get?_push_of_some _ e) (Nat.le_refl _) ⟨by simp only [List.length_cons,List.length_nil]; rw [sizeLine_eq]; decide,[.int (i / j) s.toks,.int (i % j) (s.toks + 1)],.cons ⟨_,rfl⟩ (.cons ⟨_,rfl⟩ .nil),?_⟩
 exact ⟨_,Heap.get?_push_size s.heap rfl,rfl,0,rfl⟩
end
end L2
namespace L2
open PySem PySem.Spec PyProof.Rows
structure ObjM (h:Heap) (x dx C:Addr) (mA:Str→Option Value):Prop where
 obj:h.get? x=some (PySem.W.instObj C dx)
 ns:h.Ns1 dx mA
 ne:dx ≠ x
theorem lookIn_ns {h:Heap} {dx:Addr} {mA:Str→Option Value} (n:h.Ns1 dx mA):∃ od,h.get? dx=some od∧∀ name,PySem.W.lookIn name od=some (mA name):=by
 obtain ⟨o,es,ep,ho,hd,hk,_,hm⟩:=n
 refine ⟨o,ho,fun name=>?_⟩
 have e:=hm name
 unfold nsFind findBy at e
 rw [← Array.find?_toList] at e
 unfold PySem.W.lookIn
 rw [hd]
 dsimp only
 split
 ·rename_i y q
  rw [q] at e
  exact congrArg some e
 ·rename_i q
  rw [q] at e
  have a:es.toList.any (·.refKey)=false:=by
   rw [List.any_eq_false]
   intro y hy
   obtain ⟨z,t,hkey⟩:=hk y (Array.mem_toList_iff.mp hy)
   simp [DictEntry.refKey,hkey]
  have a':¬ es.toList.any (·.refKey)=true:=by rw [a]; exact Bool.false_ne_true
  rw [if_neg a']
  exact congrArg some e
theorem ObjM.look {h:Heap} {x dx C:Addr} {mA:Str→Option Value} (I:ObjM h x dx C mA):∃ od,PySem.W.InstAt h x (PySem.W.instObj C dx) C (some od)∧∀ name,PySem.W.lookIn name od=some (mA name):=
 let ⟨od,ho,hl⟩:=lookIn_ns I.ns
 ⟨od,⟨I.obj,rfl,rfl,ho⟩,hl⟩
section
variable {prog:Program} {w:World} {A:Around} {E:Value→Shared→Prop} {s:Shared} {K:PySem.W.Frag} {x dx C f:Addr} {mA:Str→Option Value} {name:Str} {v:Value}
end
theorem RelO.some_of {v:V} {o:Option Value} (r:RelO (some v) o):∃ u,o=some u∧RelV v u:=by
 cases o with
 | none=>exact (show False from r).elim
 | some u=>exact ⟨u,rfl,r⟩
section
variable {P:Program} {w:World} {H H':Hp} {h h':Heap} {a C dx:Addr} {fs fs':List (Str × V)}
theorem ins_get (hok:HOk P w H h) (e:H a=some (.ins C dx fs)):∃ mA,ObjM h a dx C mA∧(∀ f,RelO (fs.lookup f) (mA f))∧PySem.Within mA (fs.map (·.1))∧fs.length≤1000∧H dx=some (.own a):=by
 obtain ⟨d,z,ne,ob,mA,n,r,q⟩:=(show ObjOk P w H h a (.ins C dx fs) from hok a _ e)
 exact ⟨mA,⟨ob,n,ne⟩,r,q,z,d⟩
end
structure Cls (K:PySem.W.Frag) (C:Addr):Prop where
 pg:PySem.W.plainGet K C Str.empty=true
 hd:PySem.W.hasDictIn K C=true
 po:PySem.W.plainOver K C=true
 sa:PySem.W.findIn K (.ref C) "__setattr__" = some (some (.builtin "object.__setattr__"))
theorem Cls.get {K:PySem.W.Frag} {C:Addr} (c:Cls K C) (f:Str):PySem.W.plainGet K C f=true:=c.pg
section
variable {X:Cx} {pins:List (Addr × Obj)} {σ:St} {H:Hp} {s:Shared} {a C dx:Addr} {fs:List (Str × V)} {f:Str} {v:V} {A:Around} {E:Value→Shared→Prop}
end
section
variable {X:Cx} {o e value:Expr} {f:Str} {pos pos' tpos:Pos} {ta tv:TE}
end
section
variable {X:Cx} {pins:List (Addr × Obj)} {σ:St} {H:Hp} {s:Shared} {A:Around} {E:Value→Shared→Prop} {Q:Value→Shared→Prop} {c:Value} {b:Bool}
inductive TyOf (K:PySem.W.Frag) (H:Hp):V→Value→Prop where
 | non:TyOf K H .non (.type "NoneType")
 | bl (x:Bool):TyOf K H (.bl x) (.type "bool")
 | int (i:Int):TyOf K H (.int i) (.type "int")
 | str (x:Str):TyOf K H (.str x) (.type "str")
 | flt (x:UInt64):TyOf K H (.flt x) (.type "float")
 | lst {a:Addr} {xs:List V} (e:H a=some (.lst xs)):TyOf K H (.ref a) (.type "list")
 | frz {a:Addr} {o:Obj} {xs:List V} (e:H a=some (.frz o (.lst xs))):TyOf K H (.ref a) (.type "list")
 | tup {a:Addr} {xs:List V} (e:H a=some (.tup xs)):TyOf K H (.ref a) (.type "tuple")
 | dK {a:Addr} {kvs:List (Key × V)} (e:H a=some (.dK kvs)):TyOf K H (.ref a) (.type "dict")
 | dT {a:Addr} {kvs:List (List Key × V)} (e:H a=some (.dT kvs)):TyOf K H (.ref a) (.type "dict")
 | ins {a C dx:Addr} {fs:List (Str × V)} (e:H a=some (.ins C dx fs)) (cl:Cls K C) (ha:PySem.W.findIn K (.ref C) "__class__" = some (some (.builtin "object.__class__")))
   (hn:PySem.W.specialIn K (.builtin "object.__class__") "__get__" = some (some (.builtin "getset_descriptor.__get__"))) (htk:PySem.W.takesIn K (.builtin "object.__class__")=some true)
   (hm:PySem.W.mroIn K C (.type "object")=some true):TyOf K H (.ref a) (.ref C)
theorem isinst_ok {x:V} {u t:Value} (I:Inv X pins σ H s) (rx:RelV x u) (ty:TyOf X.K H x t) (e:PySem.W.kitOne X.K t c=some b) (h:∀ tk,Q (.bool b) { s with toks:=tk }):
  wpAny (model X.prog X.w) A (call (.builtin "isinstance") [u,c]) Q E s:=by
 cases ty with
 | non=>cases (show u=Value.none from rx); exact PySem.W.kia_one PySem.W.kitx_none I.kIn True.intro e (fun z=>nomatch z) h
 | bl y=>cases (show u=Value.bool y from rx); exact PySem.W.kia_one PySem.W.kitx_bool I.kIn True.intro e (fun z=>nomatch z) h
 | int i=>obtain ⟨t,q⟩:=(show ∃ t,u=Value.int i t from rx); cases q; exact PySem.W.kia_one PySem.W.kitx_int I.kIn True.intro e (fun z=>nomatch z) h
 | str y=>obtain ⟨t,q⟩:=(show ∃ t,u=Value.str y t from rx); cases q; exact PySem.W.kia_one PySem.W.kitx_str I.kIn True.intro e (fun z=>nomatch z) h
 | flt y=>obtain ⟨t,q⟩:=(show ∃ t,u=Value.float y t from rx); cases q; exact PySem.W.kia_one PySem.W.kitx_float I.kIn True.intro e (fun z=>nomatch z) h
 | @lst a xs ea=>
  cases (show u=Value.ref a from rx)
  obtain ⟨_,_,n,_,h1⟩:=(show ObjOk X.prog X.w H s.heap a (.lst xs) from I.hok a _ ea)
  exact PySem.W.kia_one PySem.W.kitx_list I.kIn ⟨_,h1,rfl⟩ e (fun z=>nomatch z) h
 | @frz a ob xs ea=>
  cases (show u=Value.ref a from rx)
  obtain ⟨_,_,_,n,_,h1⟩:=(show ObjOk X.prog X.w H s.heap a (.frz ob (.lst xs)) from I.hok a _ ea)
  exact PySem.W.kia_one PySem.W.kitx_list I.kIn ⟨_,h1,rfl⟩ e (fun z=>nomatch z) h
 | @tup a xs ea=>
  cases (show u=Value.ref a from rx)
  obtain ⟨_,_,_,p⟩:=(show ObjOk X.prog X.w H s.heap a (.tup xs) from I.hok a _ ea)
  obtain ⟨o,h1,h2,_⟩:=p
  exact PySem.W.kia_one PySem.W.kitx_tuple I.kIn ⟨o,h1,h2⟩ e (fun z=>nomatch z) h
 | @dK a kvs ea=>
  cases (show u=Value.ref a from rx)
  obtain ⟨_,_,vs,_,p⟩:=(show ObjOk X.prog X.w H s.heap a (.dK kvs) from I.hok a _ ea)
  obtain ⟨o,es,ep,h1,h2,_⟩:=p
  exact PySem.W.kia_one PySem.W.kitx_dict I.kIn ⟨o,h1,h2.1⟩ e (fun z=>nomatch z) h
 | @dT a kvs ea=>
  cases (show u=Value.ref a from rx)
  obtain ⟨_,_,xs,_,o,es,ep,h1,h2,_⟩:=(show ObjOk X.prog X.w H s.heap a (.dT kvs) from I.hok a _ ea)
  exact PySem.W.kia_one PySem.W.kitx_dict I.kIn ⟨o,h1,h2.1⟩ e (fun z=>nomatch z) h
 | @ins a C dx fs ea cl ha hn htk hm=>
  cases (show u=Value.ref a from rx)
  obtain ⟨mA,O,_⟩:=ins_get I.hok ea
  obtain ⟨od,J,_⟩:=O.look
  exact PySem.W.kia_one (PySem.W.kitx_own (cl.get _) cl.hd ha hn htk hm) I.kIn J e (fun z=>nomatch z) h
end
end L2
namespace L2
open PySem PySem.Spec PyProof.Rows
structure Room (k:Nat) (A:Around):Prop where
 hd:A.handled=none
 dp:A.depth + 3 * k + 5 < recursionLimit
 un:A.units + 16 * k + 200 < cLine
 gd:A.guards=some []
theorem Room.mono {j k:Nat} {A:Around} (r:Room k A) (h:j≤k):Room j A:=⟨r.hd,by have:=r.dp; omega,by have:=r.un; omega,r.gd⟩
theorem Room.deeper {k:Nat} {A:Around} (r:Room (k + 1) A) (env:Env):Room k (A.deeper env):=
 ⟨r.hd,by have:=r.dp; show A.depth + 1 + 3 * k + 5 < _; omega,by have:=r.un; show A.units + 3 + 16 * k + 200 < _; omega,r.gd⟩
theorem Room.depth {k:Nat} {A:Around} (r:Room k A):A.depth < recursionLimit:=by have:=r.dp; omega
theorem Room.units {k:Nat} {A:Around} (r:Room k A):A.units + 64 < cLine:=by have:=r.un; omega
def tNil:TA:=fun _ H Q=>Q [] H
def tCons (ta:TE) (tr:TA):TA:=fun σ H Q=>ta σ H fun x H1=>tr σ H1 fun xs H2=>Q (x :: xs) H2
section
variable {X:Cx} {e:Expr} {es:List Expr} {te:TE} {t:TA} {pos:Pos}
theorem pa_nil:PA X [] tNil:=fun _ _ _ _ H Q I h=>Calls.spliced_nil ⟨[],H,I,.nil,h⟩
theorem pa_cons (ha:PE X e te) (hr:PA X es t) (hs:autoParam (starEach (e :: es) X.env=(false,eval e X.env) :: starEach es X.env) Au.h1._auto_1):PA X (e :: es) (tCons te t):=by
 intro pos pins s σ H Q I h
 rw [hs]
 show wpAny _ _ (spliced ((false,eval e X.env) :: backTo pos (starEach es X.env))) _ _ s
 refine Calls.spliced_cons (thn (ha pins s σ H _ I h) fun u s1 zq=>?_)
 obtain ⟨x,H1,I1,r1,q1⟩:=zq
 exact thn (hr pos pins s1 σ H1 _ I1 q1) fun us s2 zq=>ex5 zq fun xs H2 I2 r2 q2=>⟨x :: xs,H2,I2,.cons r1 r2,q2⟩
def tTup (t:TA):TE:=fun σ H Q=>t σ H fun xs H1=>xs.length≤sizeLine∧∀ p,H1 p=none→Q (.ref p) (upd H1 p (.tup xs))
def tLst (t:TA):TE:=fun σ H Q=>t σ H fun xs H1=>xs.length≤sizeLine∧∀ p,H1 p=none→Q (.ref p) (upd H1 p (.lst xs))
theorem pe_tup {x1} (h:PA X es t):PE X (.Tuple es x1 pos) (tTup t):=by
 intro pins s σ H Q I hq
 refine wpAny_Tuple_spliced (thn (h pos pins s σ H _ I hq) fun us s1 ⟨xs,H1,I1,r,z,q⟩=>⟨by rw [← r.length]; exact z,?_⟩)
 have hf:H1 s1.heap.objs.size=none:=I1.hok.fresh (Nat.le_refl _)
 refine ⟨.ref s1.heap.objs.size,upd H1 s1.heap.objs.size (.tup xs),I1.laid (t':=s1.toks) (fun b u e=>Heap.get?_push_of_some _ e) (Nat.le_refl _) ?_,rfl,q _ hf⟩
 exact ⟨z,us,r,⟨_,Heap.get?_push_size _ rfl,rfl,_,rfl⟩⟩
theorem pe_lst (h:PA X es t):PE X (.List es pos) (tLst t):=by
 intro pins s σ H Q I hq
 refine wpAny_List_spliced (thn (h pos pins s σ H _ I hq) fun us s1 ⟨xs,H1,I1,r,z,q⟩=>⟨by rw [← r.length]; exact z,?_⟩)
 have hf:H1 s1.heap.objs.size=none:=I1.hok.fresh (Nat.le_refl _)
 refine ⟨.ref s1.heap.objs.size,upd H1 s1.heap.objs.size (.lst xs),I1.laid (t':=s1.toks) (fun b u e=>Heap.get?_push_of_some _ e) (Nat.le_refl _) ?_,rfl,q _ hf⟩
 exact ⟨z,us,0,r,Heap.get?_push_size _ rfl⟩
end
abbrev Sp:=List V→Hp→VK→XK→Prop
abbrev CXT:=List Env→Hp→Shared→XK→Value→Shared→Prop
structure Env0 (P:Program) (w:World) (K:PySem.W.Frag) (mg:Str→Option Value) (base:Heap) (A:Around) (outer:List Env) (s:Shared) (H:Hp):Prop where
 frames:A.frames=some outer
 mod:Mod K mg base
 bs:∀ b o,base.get? b=some o→s.heap.get? b=some o∧H b=none
 bsz:base.objs.size≤s.heap.objs.size
 funs:s.heap.FunFrames base outer
 frf:∀ b ∈ frs outer,H b=none
 hok:HOk P w H s.heap
 bare:AllBare s.gens
def CE (outer:List Env) (P:Program) (w:World) (H:Hp) (s:Shared) (Q:VK) (u:Value) (s':Shared):Prop:=
 ∃ v H',s'.os=s.os∧AllBare s'.gens∧Un (frs outer) [] H H' s.heap s'.heap∧HOk P w H' s'.heap∧RelV v u∧Q v H'
def CR (CX:CXT) (outer:List Env) (P:Program) (w:World) (H:Hp) (s:Shared) (Q:VK) (E:XK) (r:Result) (s':Shared):Prop:=
 match r with
 | .ok (.ret u)=>CE outer P w H s Q u s'
 | .ok _=>False
 | .error e=>CX outer H s E e s'
structure FnOk (P:Program) (w:World) (K:PySem.W.Frag) (mg:Str→Option Value) (base:Heap) (CX:CXT) (k:Nat) (f:Addr) (fd:FuncData) (ps:List Str) (sp:Sp):Prop where
 len:∀ vs H Q E,sp vs H Q E→vs.length=ps.length
 run:∀ (A:Around) (outer:List Env) (s:Shared) (H:Hp) (args:Args) (us:List Value) (vs:List V) (Q:VK) (E:XK),Room k A→Env0 P w K mg base A outer s H→BindsTo s fd args (ps.zip us)→Vals vs us→sp vs H Q E→
  codeAny (model P w) A (.call (.ref f) args) (CR CX outer P w H s Q E) s
section
variable {X:Cx} {pins:List (Addr × Obj)} {σ:St} {H:Hp} {s s':Shared}
theorem Inv.env0 (I:Inv X pins σ H s):Env0 X.prog X.w X.K X.mg X.base X.A X.stack s H:=
 ⟨I.ok.frames,I.ok.mod,I.bs,Nat.le_trans I.ok.bsz I.sz,I.stack,I.stkFree,I.hok,I.bare⟩
theorem Inv.after {Q:VK} {u:Value} (I:Inv X pins σ H s) (h:CE X.stack X.prog X.w H s Q u s'):EP X pins σ Q u s':=by
 obtain ⟨v,H',os,bare,un,hok,r,q⟩:=h
 obtain ⟨hh,g,d,t,os'⟩:=s'
 obtain rfl:os'=s.os:=os
 exact ⟨v,H',I.call (h':=hh) (g':=g) (d':=d) (t':=t) (ch:=[]) un hok bare (fun b z=>absurd z (by simp)),r,q⟩
end
def tCall (sp:Sp) (dvs:List V) (E:XK) (t:TA):TE:=fun σ H Q=>t σ H fun vs H1=>sp (vs ++ dvs) H1 Q E
def Binds (K:PySem.W.Frag) (fd:FuncData) (ps:List Str) (ds:List Value):Prop:=
 ∀ (s:Shared) (us:List Value),K.In s.heap→(us ++ ds).length=ps.length→BindsTo s fd ⟨us,[]⟩ (ps.zip (us ++ ds))
theorem Binds.all {K:PySem.W.Frag} {fd:FuncData} {ps:List Str} (h:∀ us:List Value,us.length=ps.length→bindArgs fd ⟨us,[]⟩=pure (ps.zip us)):Binds K fd ps []:=fun s us _ hl=>by
 rw [List.append_nil] at hl ⊢
 exact .of_eq (h us hl)
def Passes (CX:CXT) (X:Cx) (E:XK):Prop:=∀ (pins:List (Addr × Obj)) (σ:St) (H:Hp) (s:Shared) (e:Value) (s':Shared),Inv X pins σ H s→CX X.stack H s E e s'→X.xe e s'
section
variable {X:Cx} {CX:CXT} {k:Nat} {f C:Addr} {fd:FuncData} {ps:List Str} {sp:Sp} {dvs:List V} {ds:List Value} {E:XK} {x m:Str} {p pos apos:Pos} {e o:Expr} {es:List Expr} {ta:TE} {t:TA}
theorem run_fn {pins:List (Addr × Obj)} {σ:St} {H:Hp} {s:Shared} {Q:VK} {us:List Value} {vs:List V} (F:FnOk X.prog X.w X.K X.mg X.base CX k f fd ps sp) (hr:Room k X.A) (hb:Binds X.K fd ps ds) (hd:Vals dvs ds) (hx:Passes CX X E)
  (I:Inv X pins σ H s) (r:Vals vs us) (h:sp (vs ++ dvs) H Q E):wpAny (model X.prog X.w) X.A (call (.ref f) us) (EP X pins σ Q) X.xe s:=by
 have r2:Vals (vs ++ dvs) (us ++ ds):=r.append hd
 have hl:(us ++ ds).length=ps.length:=by rw [← r2.length]; exact F.len _ _ _ _ h
 refine wpAny_call (codeAny_mono (F.run X.A X.stack s H ⟨us,[]⟩ (us ++ ds) (vs ++ dvs) Q E hr I.env0 (hb s us I.kIn hl) r2 h) fun r s' hq=>?_)
 cases r with
 | error e=>exact hx pins σ H s e s' I hq
 | ok fl=>
  cases fl with
  | ret u=>exact I.after hq
  | next=>exact False.elim hq
  | brk=>exact False.elim hq
  | cont=>exact False.elim hq
theorem pe_call (F:FnOk X.prog X.w X.K X.mg X.base CX k f fd ps sp) (hr:Room k X.A) (hg:Gl X x) (hm:X.mg x=some (.ref f)) (hk:PySem.W.keepIn X.K (.ref f)=true) (hb:Binds X.K fd ps ds) (hd:Vals dvs ds) (hx:Passes CX X E)
  (ha:PA X (e :: es) t) (hdb:autoParam ((x == ("__debug__":Str))=false) Au.h2._auto_1) (he:autoParam (starEach (e :: es) X.env=(false,eval e X.env) :: starEach es X.env) Au.h1._auto_1) (hpl:autoParam ((backTo pos (starEach es X.env)).any (·.1)=false) Au.h1._auto_1):
  PE X (.Call (.Name x p) (e :: es) [] pos) (tCall sp dvs E t):=by
 intro pins s σ H Q I h
 refine wpAny_Call_Name_kw (ld_glob I hg hm ?_ hdb)
 refine PySem.W.callWith_K (h₀:=X.base) I.ok.mod.kin hk (thn (ha pos pins s σ H _ I h) fun us s1 zq=>ex5 zq fun vs H1 I1 r q=>⟨I1.kIn,?_⟩) he hpl
 exact run_fn F hr hb hd hx I1 r q
end
section
variable {X:Cx} {CX:CXT} {k:Nat} {f C:Addr} {fd:FuncData} {ps ks:List Str} {sp:Sp} {E:XK} {x m:Str} {p pos apos kpos:Pos} {e o:Expr} {es:List Expr} {kws:List Keyword} {te ta:TE} {t tk:TA} {nm:Option Str}
variable {g:List Value→List Value→List Value} {gV:List V→List V→List V}
end
structure FnScope (N P:List Str) (sc:Scope):Prop where
 kind:sc.kind=.function
 co:sc.isCoroutine=false
 gen:sc.isGenerator=false
 nd:N.Nodup
 pre:N.take P.length=P
 par:∀ x ∈ P,sc.names.lookup x=some .local ∨ sc.names.lookup x=some .cell
 nofree:∀ y ∈ sc.names,y.2 ≠ .free
theorem bindL_out {kindOf:Str→Option NameKind} {x:Str}:∀ {binds:List (Str × Value)} {m:Str→Option Value},(∀ v,(x,v) ∉ binds)→bindL kindOf binds m x=m x
 | [],_,_=>rfl
 | (n,v) :: r,m,h=>by
  unfold bindL
  rw [bindL_out fun w hw=>h w (List.mem_cons_of_mem _ hw)]
  split
  ·have:x ≠ n:=by rintro rfl; exact h v List.mem_cons_self
   simp [this]
  ·rfl
theorem bindC_out {kindOf:Str→Option NameKind} {x:Str}:∀ {binds:List (Str × Value)} {m:Str→Option Value},(∀ v,(x,v) ∉ binds)→bindC kindOf binds m x=m x
 | [],_,_=>rfl
 | (n,v) :: r,m,h=>by
  unfold bindC
  rw [bindC_out fun w hw=>h w (List.mem_cons_of_mem _ hw)]
  split
  ·rfl
  ·have:x ≠ n:=by rintro rfl; exact h v List.mem_cons_self
   simp [this]
theorem bindL_get {kindOf:Str→Option NameKind} {x:Str} {v:Value}:∀ {P:List Str} {vs:List Value} {i:Nat} {m:Str→Option Value},P.Nodup→P[i]?=some x→vs[i]?=some v→kindOf x=some .local→
  bindL kindOf (P.zip vs) m x=some v
 | [],_,_,_,_,h,_,_=>by simp at h
 | _ :: _,[],_,_,_,_,h,_=>by simp at h
 | p :: P,w :: vs,0,m,nd,h1,h2,hk=>by
  simp at h1 h2; subst h1; subst h2
  show bindL kindOf ((p,w) :: P.zip vs) m p=_
  unfold bindL
  rw [bindL_out fun v hv=>(List.nodup_cons.mp nd).1 (List.of_mem_zip hv).1,if_pos hk]
  simp
 | p :: P,w :: vs,i + 1,m,nd,h1,h2,hk=>by
  show bindL kindOf ((p,w) :: P.zip vs) m x=_
  unfold bindL
  exact bindL_get (i:=i) (List.nodup_cons.mp nd).2 (by simpa using h1) (by simpa using h2) hk
theorem bindC_get {kindOf:Str→Option NameKind} {x:Str} {v:Value}:∀ {P:List Str} {vs:List Value} {i:Nat} {m:Str→Option Value},P.Nodup→P[i]?=some x→vs[i]?=some v→kindOf x ≠ some .local→
  bindC kindOf (P.zip vs) m x=some v
 | [],_,_,_,_,h,_,_=>by simp at h
 | _ :: _,[],_,_,_,_,h,_=>by simp at h
 | p :: P,w :: vs,0,m,nd,h1,h2,hk=>by
  simp at h1 h2; subst h1; subst h2
  show bindC kindOf ((p,w) :: P.zip vs) m p=_
  unfold bindC
  rw [bindC_out fun v hv=>(List.nodup_cons.mp nd).1 (List.of_mem_zip hv).1,if_neg hk]
  simp
 | p :: P,w :: vs,i + 1,m,nd,h1,h2,hk=>by
  show bindC kindOf ((p,w) :: P.zip vs) m x=_
  unfold bindC
  exact bindC_get (i:=i) (List.nodup_cons.mp nd).2 (by simpa using h1) (by simpa using h2) hk
def start (N:List Str) (vs:List V):St:=vs.map some ++ List.replicate (N.length - vs.length) none
def cxOf (CX:CXT) (P:Program) (w:World) (K:PySem.W.Frag) (mg:Str→Option Value) (base:Heap) (N:List Str) (qual:Str) (scope:Scope) (f:Addr) (cd:Value) (A:Around) (outer:List Env) (s:Shared) (H:Hp) (E:XK):Cx where
 prog:=P
 w:=w
 K:=K
 mg:=mg
 base:=base
 A:=A.deeper (envOfC qual scope s.heap.objs.size f cd)
 N:=N
 s₀:=s
 H₀:=H
 env:=envOfC qual scope s.heap.objs.size f cd
 outer:=outer
 stack:=envOfC qual scope s.heap.objs.size f cd :: outer
 ex:=[]
 calm:=true
 fn:=fun _=>true
 pn:=[]
 xe:=fun e s'=>wpAny (model P w) (A.deeper (envOfC qual scope s.heap.objs.size f cd)) (leaving (envOfC qual scope s.heap.objs.size f cd) e) (fun _ s''=>CX outer H s E e s'') (fun e' s''=>CX outer H s E e' s'') s'
theorem cell_has {sc:Scope} {n:Nat} {x:Str} (h:sc.names.lookup x=some .cell):∃ c,(cellsFrom n sc.names []).lookup x=some c:=by
 have q:=PySem.W.cellsFrom_some sc.names n [] (.inl h)
 exact Option.isSome_iff_exists.mp q
theorem inv_start {CX:CXT} {P:Program} {w:World} {K:PySem.W.Frag} {mg:Str→Option Value} {base:Heap} {N ps:List Str} {qual:Str} {scope:Scope} {f:Addr} {cd:Value} {A:Around} {outer:List Env} {s s1:Shared} {H:Hp} {E:XK} {us:List Value} {vs:List V}
  (S:FnScope N ps scope) (hd:A.handled=none) (e0:Env0 P w K mg base A outer s H) (hl:vs.length=ps.length) (r:Vals vs us)
  (x:InCallC s s.heap.objs.size (bindL (envOfC qual scope s.heap.objs.size f cd).kindOf (ps.zip us) fun _=>none) (cellsFrom (s.heap.objs.size + 1) scope.names []) (bindC (envOfC qual scope s.heap.objs.size f cd).kindOf (ps.zip us) fun _=>none) s1):
  Inv (cxOf CX P w K mg base N qual scope f cd A outer s H E) [] (start N vs) H s1:=by
 have hpl:ps.length≤N.length:=by have:=congrArg List.length S.pre; rw [List.length_take] at this; omega
 obtain ⟨h1,tk,rfl,hk⟩:=x.done
 have noA:∀ b:Addr,b ∉ (cxOf CX P w K mg base N qual scope f cd A outer s H E).ex:=fun b z=>absurd (show b ∈ ([]:List Addr) from z) (by simp)
 refine ⟨⟨e0.mod,S.kind,rfl,rfl,Nat.le_refl _,fun y z c h1 h2=>?_,fun y hy=>?_,fun y c _ h=>?_,fun _=>hd,Around.frames_deeper e0.frames,.inr ⟨rfl,rfl⟩,fun b z=>absurd z (noA b),e0.bs,e0.bsz,fun b _ _=>noA b,fun b z=>absurd z (noA b),e0.funs,e0.frf⟩,
  rfl,e0.bare,Un.kept hk,⟨_,x.toInCall.ns,fun i y v h1 h2 h3=>?_⟩,fun y c h=>⟨_,x.cell y c h⟩,e0.hok.fresh (Nat.le_refl _),fun y c h=>?_,fun p hp=>absurd (show p ∈ ([]:List (Addr × Obj)) from hp) (by simp),e0.hok.kept hk,?_⟩
 ·exact name_of_addr x.apart (PySem.mem_of_lookup h1) (PySem.mem_of_lookup h2)
 ·have hy:scope.names.lookup y=some .cell ∨ scope.names.lookup y=some .free:=hy
  rcases hy with hy | hy
  ·exact cell_has hy
  ·exact absurd rfl (S.nofree _ (PySem.mem_of_lookup hy))
 ·exact Nat.le_of_lt (x.above y c (PySem.mem_of_lookup h))
 ·have hi:i < vs.length:=by
   unfold start at h2
   by_cases hi:i < vs.length
   ·exact hi
   ·rw [List.getElem?_append_right (by simpa using hi)] at h2
    rw [List.getElem?_replicate] at h2
    split at h2 <;> cases h2
  have ha:vs[i]?=some v:=by
   unfold start at h2
   rw [List.getElem?_append_left (by simpa using hi),List.getElem?_map] at h2
   cases e:vs[i]? with
   | none=>rw [e] at h2; cases h2
   | some a=>rw [e] at h2; cases h2; rfl
  obtain ⟨u,hu,rv⟩:=r.get ha
  have hp:ps[i]?=some y:=by
   rw [← S.pre,List.getElem?_take_of_lt (by omega)]; exact h1
  have ndP:ps.Nodup:=by rw [← S.pre]; exact S.nd.sublist (List.take_sublist _ _)
  refine ⟨u,rv,?_⟩
  rcases S.par y (List.mem_of_getElem? hp) with k | k
  ·exact .inl ⟨k,bindL_get ndP hp hu k⟩
  ·obtain ⟨c,e⟩:=cell_has (n:=s.heap.objs.size + 1) k
   refine .inr ⟨.inl k,c,e,?_⟩
   have q:=x.cell y c e
   rw [bindC_get ndP hp hu (by show scope.names.lookup y ≠ _; rw [k]; decide)] at q
   exact q
 ·exact e0.hok.fresh (Nat.le_of_lt (x.above y c (PySem.mem_of_lookup h)))
 ·unfold start
  show _=N.length
  rw [List.length_append,List.length_map,List.length_replicate]
  omega
theorem fn_of {CX:CXT} {P:Program} {w:World} {K:PySem.W.Frag} {mg:Str→Option Value} {base:Heap} {k:Nat} {f:Addr} {name qual:Str} {params:Arguments} {body:List Stmt} {scope:Scope} {dV kV doc pm cdv ct oc:Value} {an od:Option Addr}
  {osl:Array (Option Value)} {N ps:List Str} {sp:Sp} (lk:K.lookup f=some ⟨oc,od,.func (PySem.W.fnOf name qual params body scope dV kV doc pm an cdv ct),osl⟩) (hcd:PySem.W.codeIn K cdv qual=true) (S:FnScope N ps scope)
  (len:∀ vs H Q E,sp vs H Q E→vs.length=ps.length)
  (hbody:∀ (A:Around) (outer:List Env) (s:Shared) (H:Hp) (vs:List V) (Q:VK) (E:XK),Room k (A.deeper (envOfC qual scope s.heap.objs.size f cdv))→sp vs H Q E→
   ∃ t,PSs (cxOf CX P w K mg base N qual scope f cdv A outer s H E) body t∧t { nx:=fun _ H'=>Q .non H',rt:=Q } (start N vs) H):
  FnOk P w K mg base CX (k + 1) f (PySem.W.fnOf name qual params body scope dV kV doc pm an cdv ct) ps sp:=by
 refine ⟨len,fun A outer s H args us vs Q E hr e0 hb r hsp=>?_⟩
 have hl:=len _ _ _ _ hsp
 have KX:K.In s.heap:=e0.mod.kin.keeps fun b o e=>(e0.bs b o e).1
 have lim:s.heap.NoLimit:=e0.mod.nolimit.keeps fun b o e=>(e0.bs b o e).1
 have hkind:∀ y ∈ ps.zip us,scope.names.lookup y.1=some .local ∨ (scope.names.lookup y.1=some .cell∧((cellsFrom (s.heap.objs.size + 1) scope.names []).lookup y.1).isSome=true):=fun ⟨n,v⟩ hy=>by
  rcases S.par n (List.of_mem_zip hy).1 with q | q
  ·exact .inl q
  ·exact .inr ⟨q,PySem.W.cellsFrom_some _ _ _ (.inl q)⟩
 refine codeAny_call_function hr.depth (KX _ _ lk) rfl S.co S.gen rfl (PySem.W.codeRec_of KX hcd) (hb _ _ _ _ ?_)
 refine wpAny_newFunctionEnv_cells S.kind hkind fun env he s1 x=>?_
 subst he
 refine ⟨lim.keeps x.toInCall.keep,codeAny_func ?_⟩
 obtain ⟨t,ht,hq⟩:=hbody A outer s H vs Q E (hr.deeper _) hsp
 have I:Inv (cxOf CX P w K mg base N qual scope f cdv A outer s H E) [] (start N vs) H s1:=inv_start S hr.hd e0 hl r x
 refine wpAny_mono (ht [] s1 (start N vs) H _ I hq) (fun fl s' hs=>?_) fun e s' hs=>hs
 have fin:∀ {σ':St} {H':Hp} {v:V} {u:Value},Inv (cxOf CX P w K mg base N qual scope f cdv A outer s H E) [] σ' H' s'→RelV v u→Q v H'→CE outer P w H s Q u s':=
  fun {σ' H' v u} J rv q=>⟨v,H',J.os,J.bare,J.base,J.hok,rv,q⟩
 cases fl with
 | ret u=>
  obtain ⟨v,σ',H',J,rv,q⟩:=hs
  exact fin J rv q
 | next=>
  obtain ⟨σ',H',J,q⟩:=hs
  exact fin (v:=V.non) (u:=Value.none) J rfl q
 | brk=>
  obtain ⟨_,_,_,q⟩:=hs
  exact False.elim q
 | cont=>
  obtain ⟨_,_,_,q⟩:=hs
  exact False.elim q
end L2
namespace L2
open PySem PySem.Spec PyProof.Rows
section
variable {X:Cx} {x:Str} {p pos:Pos} {e:Expr} {es:List Expr} {t:TA} {id T:String} {r:List V→Hp→VK→Prop}
def tCB (r:List V→Hp→VK→Prop) (t:TA):TE:=fun σ H Q=>t σ H fun vs H1=>r vs H1 Q
theorem pe_callB (hc:CallR X (.builtin id) r) (hg:Gl X x) (hm:X.mg x=none) (hv:bootBuiltins x=some (.builtin id)) (ha:PA X (e :: es) t) (hn:autoParam (x ≠ "__name__") Au.h2._auto_1) (hdb:autoParam ((x == ("__debug__":Str))=false) Au.h2._auto_1)
  (he:autoParam (starEach (e :: es) X.env=(false,eval e X.env) :: starEach es X.env) Au.h1._auto_1) (hpl:autoParam ((backTo pos (starEach es X.env)).any (·.1)=false) Au.h1._auto_1):PE X (.Call (.Name x p) (e :: es) [] pos) (tCB r t):=by
 intro pins s σ H Q I h
 refine wpAny_Call_Name_kw (ld_blt I hg hm hv ?_ hn hdb)
 exact PyProof.Rows.callWith_builtin1 (thn (ha pos pins s σ H _ I h) fun us s1 zq=>ex5 zq fun vs H1 I1 r1 q1=>hc pins s1 σ H1 vs us Q I1 r1 q1) he hpl
theorem pe_callTy (hc:CallR X (.type T) r) (hg:Gl X x) (hm:X.mg x=none) (hv:bootBuiltins x=some (.type T)) (ha:PA X (e :: es) t) (hn:autoParam (x ≠ "__name__") Au.h2._auto_1) (hdb:autoParam ((x == ("__debug__":Str))=false) Au.h2._auto_1)
  (he:autoParam (starEach (e :: es) X.env=(false,eval e X.env) :: starEach es X.env) Au.h1._auto_1) (hpl:autoParam ((backTo pos (starEach es X.env)).any (·.1)=false) Au.h1._auto_1):PE X (.Call (.Name x p) (e :: es) [] pos) (tCB r t):=by
 intro pins s σ H Q I h
 refine wpAny_Call_Name_kw (ld_blt I hg hm hv ?_ hn hdb)
 exact PyProof.Rows.callWith_type1 (thn (ha pos pins s σ H _ I h) fun us s1 zq=>ex5 zq fun vs H1 I1 r1 q1=>hc pins s1 σ H1 vs us Q I1 r1 q1) he hpl
end
end L2
namespace HT
open PySem PyProof.Rows
section
open PySem.SeqAt
open PySem.AutoSeq1 (wpAny_loadPart')
open PySem.MeetsSeq PySem.MeetsSeq2 PySem.MeetsSeq3
end
section
variable {prog:Program} {w:World} {A:Around} {E:Value→Shared→Prop} {s:Shared}
theorem cat_tup {t b:Addr} {vs ws:List Value} {Q:Value→Shared→Prop} (ht:IsTup s.heap t vs.toArray) (hb:IsTup s.heap b ws.toArray) (hv:vs ≠ [])
  (h1:ws=[]→Q (.ref t) s) (h2:ws ≠ []→Q (.ref s.heap.objs.size) { s with heap:=s.heap.push { cls:=.type "tuple",data:=.seq (vs ++ ws).toArray } })
  (hsz:vs.length + ws.length≤sizeLine):wpAny (model prog w) A (binaryOp .Add (.ref t) (.ref b)) Q E s:=by
 obtain ⟨⟨cls,dd,data,sl⟩,ho,hc,n,hd⟩:=id ht
 obtain ⟨⟨cls2,dd2,data2,sl2⟩,ho2,hc2,n2,hd2⟩:=id hb
 simp only at hc hd hc2 hd2
 subst hc hd hc2 hd2
 have e:vs.toArray ++ ws.toArray=(vs ++ ws).toArray:=by simp
 by_cases hw:ws=[]
 ·exact concat_meets ⟨_,ho,rfl⟩ ⟨_,ho2,rfl⟩ noFill_tuple_add seq_tuple_add PySem.F.slot_tuple_add PySem.F.entry_tuple_add (PySem.F.args_tuple_add_2 _ _)
   (tuple_addW1 t b vs.toArray ws.toArray n n2 dd dd2 sl sl2 (by simpa using hv) (by simp [hw])) ⟨ho,ho2,h1 hw⟩
 ·refine concat_meets ⟨_,ho,rfl⟩ ⟨_,ho2,rfl⟩ noFill_tuple_add seq_tuple_add PySem.F.slot_tuple_add PySem.F.entry_tuple_add (PySem.F.args_tuple_add_2 _ _)
   (tuple_addW2 t b vs.toArray ws.toArray n n2 dd dd2 sl sl2 (by simpa using hv) (by simpa using hw) (by rw [List.size_toArray,List.size_toArray]; exact hsz)) ⟨ho,ho2,?_⟩
  rw [e]
  exact h2 hw
def sIx (n d:Nat):Option Int→Nat
 | none=>d
 | some v=>if v < 0 then (v + (n:Int)).toNat else min v.toNat n
theorem sIx_nat (n d k:Nat):sIx n d (some (k:Int))=min k n:=by
 show (if (k:Int) < 0 then ((k:Int) + (n:Int)).toNat else min (k:Int).toNat n)=min k n
 rw [if_neg (by omega),Int.toNat_natCast]
theorem sIx_le (n d:Nat) (hd:d≤n) (o:Option Int):sIx n d o≤n:=by
 cases o with
 | none=>exact hd
 | some v=>
  show (if v < 0 then (v + (n:Int)).toNat else min v.toNat n)≤n
  by_cases hv:v < 0
  ·rw [if_pos hv]; omega
  ·rw [if_neg hv]; exact Nat.min_le_right _ _
theorem clip_eq (v:Int) (n d:Nat):(if v < 0 then max (v + (n:Int)) 0 else min v (n:Int))=((sIx n d (some v):Nat):Int):=by
 show (if v < 0 then max (v + (n:Int)) 0 else min v (n:Int))=(((if v < 0 then (v + (n:Int)).toNat else min v.toNat n):Nat):Int)
 by_cases hv:v < 0
 ·simp only [if_pos hv]; omega
 ·simp only [if_neg hv]; omega
theorem adjust_gen (lo hi:Option Int) (n:Nat):Builtin.Slice.sliceAdjust lo hi 1 (n:Int)=(((sIx n 0 lo:Nat):Int),((sIx n n hi:Nat):Int)):=by
 have h1:¬ ((1:Int) < 0):=by omega
 unfold Builtin.Slice.sliceAdjust
 simp only [h1,if_false]
 refine Prod.ext ?_ ?_
 ·cases lo with
  | none=>rfl
  | some v=>exact clip_eq v n 0
 ·cases hi with
  | none=>rfl
  | some v=>exact clip_eq v n n
theorem places_gen (i j:Nat):Builtin.Slice.slicePlaces (i:Int) (j:Int) 1=j - i:=by
 unfold Builtin.Slice.slicePlaces
 have h1:(1:Int) > 0:=by omega
 simp only [h1,if_true,Int.ediv_one]
 split <;> omega
theorem slicePart_ {v:Value} {o:Option Int} {Q:Option Int→Shared→Prop} (p:IsPart v o) (h:Q o s):wpAny (model prog w) A (Builtin.Slice.slicePartIndex v) Q E s:=by
 cases p with
 | none=>exact slicePart_none h
 | int i t=>exact slicePart_int h
theorem sliceApplied_gen {sl:Addr} {vl vu:Value} {lo hi:Option Int} {n:Nat} {Q:Int × Int × Nat→Shared→Prop} (hs:s.heap.IsSliceOf sl vl vu .none) (pl:IsPart vl lo) (pu:IsPart vu hi)
  (h:Q (((sIx n 0 lo:Nat):Int),1,sIx n n hi - sIx n 0 lo) s):wpAny (model prog w) A (Builtin.Slice.sliceApplied (.ref sl) (pure (n:Int))) Q E s:=by
 obtain ⟨os,hos,hcs,hds⟩:=id hs
 unfold Builtin.Slice.sliceApplied Builtin.Slice.sliceFields
 refine wpAny_bind (wpAny_bind (wpAny_field hos hds (x:=vl) rfl (wpAny_bind (wpAny_field hos hds (x:=vu) rfl (wpAny_bind (wpAny_field hos hds (x:=.none) rfl (wpAny_pure ?_)))))))
 refine wpAny_bind (slicePart_none ?_)
 show wpAny _ _ (if ((1:Int) == 0)=true then _ else _) _ _ s
 rw [if_neg (by decide)]
 refine wpAny_bind (slicePart_ pl (wpAny_bind (slicePart_ pu (wpAny_bind (wpAny_pure ?_)))))
 show wpAny _ _ (match Builtin.Slice.sliceAdjust lo hi 1 (n:Int) with | (lo,hi)=>pure (lo,(1:Int),Builtin.Slice.slicePlaces lo hi 1)) _ _ s
 rw [adjust_gen lo hi n]
 show wpAny _ _ (pure (((sIx n 0 lo:Nat):Int),(1:Int),Builtin.Slice.slicePlaces ((sIx n 0 lo:Nat):Int) ((sIx n n hi:Nat):Int) 1)) _ _ s
 rw [places_gen]
 exact wpAny_pure h
theorem pick_gen (xs:Array Value) (i k:Nat):((List.range k).filterMap fun (m:Nat)=>xs[((i:Int) + (m:Int) * 1).toNat]?).toArray=((xs.toList.drop i).take k).toArray:=by
 have e:(fun (m:Nat)=>xs[((i:Int) + (m:Int) * 1).toNat]?)=fun m=>xs[i + m]?:=by
  funext m
  have:((i:Int) + (m:Int) * 1).toNat=i + m:=by omega
  rw [this]
 rw [e]
 have:=pick_run xs i k
 rw [List.filterMap_map] at this
 have e2:((fun x=>xs[x]?) ∘ fun x=>i + x)=fun m=>xs[i + m]?:=rfl
 rw [e2] at this
 rw [this]
theorem getItem_tuple_cut {t sl:Addr} {items:Array Value} {vl vu:Value} {lo hi:Option Int} {Q:Value→Shared→Prop} (ht:IsTup s.heap t items) (hs:s.heap.IsSliceOf sl vl vu .none) (pl:IsPart vl lo) (pu:IsPart vu hi)
  (hw:¬ (sIx items.size 0 lo=0∧sIx items.size items.size hi=items.size))
  (h:Q (.ref s.heap.objs.size) { s with heap:=s.heap.push { cls:=.type "tuple",data:=.seq ((items.toList.drop (sIx items.size 0 lo)).take (sIx items.size items.size hi - sIx items.size 0 lo)).toArray } })
  (hsz:items.size≤sizeLine):wpAny (model prog w) A (getItem (.ref t) (.ref sl)) Q E s:=by
 have htake:sizeOk (.seq ((items.toList.drop (sIx items.size 0 lo)).take (sIx items.size items.size hi - sIx items.size 0 lo)).toArray):=by
  show ((items.toList.drop (sIx items.size 0 lo)).take (sIx items.size items.size hi - sIx items.size 0 lo)).toArray.size≤sizeLine
  rw [List.size_toArray,List.length_take,List.length_drop,Array.length_toList]
  omega
 have hj:sIx items.size items.size hi≤items.size:=sIx_le _ _ (Nat.le_refl _) hi
 obtain ⟨os,hos,hcs,hds⟩:=id hs
 have hTs:s.TypeIs (.ref sl) "slice":=⟨os,hos,hcs⟩
 unfold getItem
 try with_reducible refine wpAny_holding ?_
 first | refine wpAny_bind (wpAny_pure ?_) | skip
 refine wpAny_bind (wpAny_sequenceKey ht.typeIs (by decide) ?_)
 refine wpAny_bind (wpAny_callSpecial?_slot (name:=Str.ofString "__getitem__") ht.typeIs PyProof.Rows.slot_tuple_getitem
  (wpAny_call_entry PyProof.Rows.slot_tuple_getitem ht.typeIs entry_tuple_getitem ?_ (args_tuple_getitem _ _)))
 show wpAny _ _ (Builtin.Tuple.tupleItemsOf (.ref t) >>= _) _ _ s
 refine wpAny_bind (tupleItemsOf_ ht ?_)
 refine wpAny_bind (wpAny_typeOf hTs ?_)
 rw [if_pos (by decide)]
 refine wpAny_bind (sliceApplied_gen hs pl pu ?_)
 have hno:¬ ((((sIx items.size 0 lo:Nat):Int) == 0 && (1:Int) == 1 && (sIx items.size items.size hi - sIx items.size 0 lo) == items.size)=true):=by
  intro q
  rw [Bool.and_eq_true,Bool.and_eq_true] at q
  have q1:((sIx items.size 0 lo:Nat):Int)=0:=eq_of_beq q.1.1
  have q2:sIx items.size items.size hi - sIx items.size 0 lo=items.size:=eq_of_beq q.2
  exact hw ⟨by omega,by omega⟩
 show wpAny _ _ (if (((sIx items.size 0 lo:Nat):Int) == 0 && (1:Int) == 1 && (sIx items.size items.size hi - sIx items.size 0 lo) == items.size)=true then _ else _) _ _ s
 rw [if_neg hno,pick_gen]
 first
  | exact wpAny_bind (m:=Builtin.Tuple.tupleExact _) (wpAny_newObj_type (wpAny_pure ⟨_,rfl,wpAny_pure h⟩) htake)
  | exact wpAny_bind (m:=Builtin.Tuple.tupleExact _) (wpAny_newObj_type (wpAny_bind (wpAny_pure (wpAny_pure ⟨_,rfl,wpAny_pure h⟩))) htake)
  | exact wpAny_bind (wpAny_bind (m:=Builtin.Tuple.tupleExact _) (wpAny_newObj_type (wpAny_pure (wpAny_pure ⟨_,rfl,wpAny_pure h⟩)) htake))
  | exact wpAny_bind (wpAny_bind (m:=Builtin.Tuple.tupleExact _) (wpAny_newObj_type (wpAny_pure ⟨_,rfl,wpAny_pure h⟩) htake))
end
end HT
namespace L2
open PySem PySem.Spec PyProof.Rows
abbrev TO:=St→Hp→(Option Int→Hp→Prop)→Prop
def PO (X:Cx) (e:Option Expr) (t:TO):Prop:=
 ∀ (pins:List (Addr × Obj)) (s:Shared) (σ:St) (H:Hp) (Q:Option Int→Hp→Prop),Inv X pins σ H s→t σ H Q→
  wpAny (model X.prog X.w) X.A (evalPart e X.env) (fun u s'=>∃ o H',Inv X pins σ H' s'∧IsPart u o∧Q o H') X.xe s
def tNoPart:TO:=fun _ H Q=>Q none H
def tPart (t:TE):TO:=fun σ H Q=>t σ H fun x H1=>∃ i,x=.int i∧Q (some i) H1
section
variable {X:Cx} {e:Expr} {te:TE} {lo hi:Option Expr} {tl th:TO} {pos p2:Pos}
theorem po_none:PO X none tNoPart:=by
 intro pins s σ H Q I h
 rw [evalPart_none]
 exact wpAny_pure ⟨none,H,I,.none,h⟩
theorem po_some (h:PE X e te):PO X (some e) (tPart te):=by
 intro pins s σ H Q I hw
 rw [evalPart_some]
 refine thn (h pins s σ H _ I hw) fun u s1 zq=>?_
 obtain ⟨x,H1,I1,r1,q1⟩:=zq
 obtain ⟨i,rfl,q⟩:=q1
 obtain ⟨t,rfl⟩:=r1
 exact ⟨some i,H1,I1,.int i t,q⟩
def SlR (X:Cx) (r:V→Option Int→Option Int→Hp→VK→Prop):Prop:=
 ∀ (pins:List (Addr × Obj)) (s:Shared) (σ:St) (H:Hp) (x:V) (v vl vu:Value) (lo hi:Option Int) (sl:Addr) (Q:VK),Inv X pins σ H s→RelV x v→s.heap.IsSliceOf sl vl vu .none→IsPart vl lo→IsPart vu hi→r x lo hi H Q→
  ∃ T id,typeLookup (.type T) "__getitem__" = pure (some (.builtin id))∧s.TypeIs v T∧wpAny (model X.prog X.w) X.A (getItem v (.ref sl)) (EP X pins σ Q) X.xe s
def tSl (r:V→Option Int→Option Int→Hp→VK→Prop) (te:TE) (tl th:TO):TE:=fun σ H Q=>te σ H fun x H1=>tl σ H1 fun l H2=>th σ H2 fun u H3=>r x l u H3 Q
theorem pe_slice {r:V→Option Int→Option Int→Hp→VK→Prop} (hr:SlR X r) (he:PE X e te) (hl:PO X lo tl) (hu:PO X hi th):PE X (.Subscript e (.Slice lo hi none p2) pos) (tSl r te tl th):=by
 intro pins s σ H Q I h
 refine Subscript_ (thn (he pins s σ H _ I h) fun v s1 zq=>?_)
 obtain ⟨x,H1,I1,r1,q1⟩:=zq
 refine wpAny_Slice (thn (hl pins s1 σ H1 _ I1 q1) fun vl s2 zq=>ex5 zq fun l H2 I2 pl q2=>thn (hu pins s2 σ H2 _ I2 q2) fun vu s3 zq=>?_)
 obtain ⟨u,H3,I3,pu,q3⟩:=zq
 rw [evalPart_none]
 refine wpAny_pure ?_
 have I4:Inv X pins σ H3 { s3 with heap:=s3.heap.push { cls:=.type "slice",data:=.fields #[vl,vu,.none] } }:=I3.kept (t':=s3.toks) fun b ob q=>Heap.get?_push_of_some _ q
 obtain ⟨T,id,hT,ht,hg⟩:=hr pins { s3 with heap:=s3.heap.push { cls:=.type "slice",data:=.fields #[vl,vu,.none] } } σ H3 x v vl vu l u s3.heap.objs.size Q I4 r1 (Heap.IsSliceOf.new ..) pl pu q3
 show wpAny (model X.prog X.w) X.A (subscriptTail e (.Slice lo hi none p2) v (.ref s3.heap.objs.size)) (EP X pins σ Q) X.xe { s3 with heap:=s3.heap.push { cls:=.type "slice",data:=.fields #[vl,vu,.none] } }
 exact tail_any (ops:=[.ref s3.heap.objs.size,v]) ht hT hg (by with_unfolding_all rfl)
def cutV (xs:List V) (lo hi:Option Int):List V:=(xs.drop (HT.sIx xs.length 0 lo)).take (HT.sIx xs.length xs.length hi - HT.sIx xs.length 0 lo)
theorem cutV_length (xs:List V) (lo hi:Option Int):(cutV xs lo hi).length≤xs.length:=by
 unfold cutV
 rw [List.length_take,List.length_drop]
 omega
def rSlT (K:PySem.W.Frag):V→Option Int→Option Int→Hp→VK→Prop:=fun x lo hi H Q=>∃ a xs,x=.ref a∧SqT K H a xs∧
 ¬ (HT.sIx xs.length 0 lo=0∧HT.sIx xs.length xs.length hi=xs.length)∧∀ p,H p=none→Q (.ref p) (upd H p (.tup (cutV xs lo hi)))
theorem sl_tup:SlR X (rSlT X.K):=by
 intro pins s σ H x v vl vu lo hi sl Q I rx hs pl pu h
 obtain ⟨a,xs,rfl,hx,hw,q⟩:=h
 cases rx
 obtain ⟨its,r,ht,hz⟩:=I.tuple hx
 have hlen:its.toArray.size=xs.length:=by rw [List.size_toArray]; exact r.length.symm
 refine ⟨"tuple",_,PyProof.Rows.slot_tuple_getitem.lookup,ht.typeIs,?_⟩
 refine HT.getItem_tuple_cut ht hs pl pu (by rw [hlen]; exact hw) ?_ (by rw [hlen]; exact hz)
 rw [hlen]
 refine ⟨.ref s.heap.objs.size,_,I.laid (t':=s.toks) (o:=.tup (cutV xs lo hi)) (fun b ob q=>Heap.get?_push_of_some _ q) (Nat.le_refl _) ?_,rfl,q _ (I.hok.fresh (Nat.le_refl _))⟩
 exact ⟨Nat.le_trans (cutV_length xs lo hi) hz,_,(r.drop (HT.sIx xs.length 0 lo)).take (HT.sIx xs.length xs.length hi - HT.sIx xs.length 0 lo),IsTup.new _ _⟩
def rCatT (K:PySem.W.Frag):R2:=fun x y H Q=>∃ a b xs ys,x=.ref a∧y=.ref b∧SqT K H a xs∧SqT K H b ys∧xs ≠ []∧xs.length + ys.length≤sizeLine∧
 (ys=[]→Q (.ref a) H)∧(ys ≠ []→∀ p,H p=none→Q (.ref p) (upd H p (.tup (xs ++ ys))))
theorem Vals.nil_iff {xs:List V} {us:List Value} (r:Vals xs us):us=[]↔xs=[]:=by
 cases r with
 | nil=>simp
 | cons _ _=>simp
theorem op_catT:OpR X (binaryOp .Add) (rCatT X.K):=by
 intro pins s σ H x y v u Q I rx ry h
 obtain ⟨a,b,xs,ys,rfl,rfl,ha,hb,hx,hz,q1,q2⟩:=h
 cases rx
 cases ry
 obtain ⟨its,r1,p1,_⟩:=I.tuple ha
 obtain ⟨its2,r2,p2,_⟩:=I.tuple hb
 refine HT.cat_tup p1 p2 (fun z=>hx (r1.nil_iff.mp z)) (fun z=>⟨.ref a,H,I,rfl,q1 (r2.nil_iff.mp z)⟩) (fun z=>?_) (by rw [← r1.length,← r2.length]; exact hz)
 refine ⟨.ref s.heap.objs.size,_,I.laid (t':=s.toks) (o:=.tup (xs ++ ys)) (fun b ob q=>Heap.get?_push_of_some _ q) (Nat.le_refl _) ?_,rfl,q2 (fun w=>z (r2.nil_iff.mpr w)) _ (I.hok.fresh (Nat.le_refl _))⟩
 exact ⟨by rw [List.length_append]; exact hz,_,r1.append r2,IsTup.new _ _⟩
end
end L2
namespace L2
open PySem PySem.Spec PyProof.Rows
def ixN (n:Nat) (i:Int):Option Nat:=if 0≤i then (if i < n then some i.toNat else none) else if -(n:Int)≤i then some (i + n).toNat else none
def atI {α:Type} (xs:List α) (i:Int):Option α:=(ixN xs.length i).bind fun j=>xs[j]?
theorem ixN_seq {n:Nat} {i:Int} {j:Nat} (h:ixN n i=some j):seqIndex? i n=some j∧j < n∧-(n:Int)≤i∧i < n:=by
 unfold ixN at h
 by_cases h0:0≤i
 ·rw [if_pos h0] at h
  by_cases h1:i < n
  ·rw [if_pos h1] at h
   have e:i.toNat=j:=Option.some.inj h
   exact ⟨by rw [seqIndex_of h0 h1,e],by omega,by omega,h1⟩
  ·rw [if_neg h1] at h; cases h
 ·rw [if_neg h0] at h
  by_cases h1:-(n:Int)≤i
  ·rw [if_pos h1] at h
   have e:(i + n).toNat=j:=Option.some.inj h
   exact ⟨by rw [seqIndex_neg (by omega) h1,e],by omega,h1,by omega⟩
  ·rw [if_neg h1] at h; cases h
theorem atI_get {α:Type} {xs:List α} {i:Int} {v:α} (h:atI xs i=some v):∃ j,seqIndex? i xs.length=some j∧xs[j]?=some v∧j < xs.length∧-(xs.length:Int)≤i∧i < xs.length:=by
 unfold atI at h
 cases e:ixN xs.length i with
 | none=>rw [e] at h; cases h
 | some j=>
  rw [e] at h
  obtain ⟨h1,h2,h3,h4⟩:=ixN_seq e
  exact ⟨j,h1,h,h2,h3,h4⟩
theorem atI_nat {α:Type} {xs:List α} {j:Nat} {v:α} (h:xs[j]?=some v):atI xs (j:Int)=some v:=by
 have hj:j < xs.length:=(List.getElem?_eq_some_iff.mp h).1
 have e:ixN xs.length (j:Int)=some j:=by
  unfold ixN
  rw [if_pos (by omega),if_pos (by omega)]; simp
 unfold atI; rw [e]; exact h
def PlainIx (b:Expr):Prop:=∀ o i,subscripted b false o i=operate [o,i] (getItem o i)
def IxR (X:Cx) (r:R2):Prop:=
 ∀ (value slice:Expr) (pins:List (Addr × Obj)) (s:Shared) (σ:St) (H:Hp) (x y:V) (v u:Value) (Q:VK),Inv X pins σ H s→RelV x v→RelV y u→r x y H Q→
  subscripted slice false v u=operate [v,u] (getItem v u)→wpAny (model X.prog X.w) X.A (subscriptTail value slice v u) (EP X pins σ Q) X.xe s
def MtR (X:Cx) (id:String) (r:V→List V→Hp→VK→Prop):Prop:=
 ∀ (pins:List (Addr × Obj)) (s:Shared) (σ:St) (H:Hp) (x:V) (xs:List V) (v:Value) (us:List Value) (Q:VK),Inv X pins σ H s→RelV x v→Vals xs us→r x xs H Q→
  wpAny (model X.prog X.w) X.A (call (.builtin id) (v :: us)) (EP X pins σ Q) X.xe s
section
variable {X:Cx} {a b:Expr} {ta tb:TE} {pos:Pos}
theorem IxR.or {r r':R2} (h:IxR X r) (h':IxR X r'):IxR X (fun x y H Q=>r x y H Q ∨ r' x y H Q):=by
 intro value slice pins s σ H x y v u Q I rx ry q hs
 rcases q with q | q
 ·exact h value slice pins s σ H x y v u Q I rx ry q hs
 ·exact h' value slice pins s σ H x y v u Q I rx ry q hs
theorem pe_ix {r:R2} (hr:IxR X r) (ha:PE X a ta) (hb:PE X b tb) (hs:PlainIx b):PE X (.Subscript a b pos) (tOp r ta tb):=by
 intro pins s σ H Q I h
 exact Subscript_ (binT ha hb I h fun v u s2 x y H2 I2 rx ry q=>hr a b pins s2 σ H2 x y v u Q I2 rx ry q (hs _ _))
def rIxL (K:PySem.W.Frag):R2:=fun x y H Q=>∃ p xs i v,x=.ref p∧y=.int i∧SqL K H p xs∧atI xs i=some v∧Q v H
def rIxT (K:PySem.W.Frag):R2:=fun x y H Q=>∃ p xs i v,x=.ref p∧y=.int i∧SqT K H p xs∧atI xs i=some v∧Q v H
def rIxS:R2:=fun x y H Q=>∃ z i c,x=.str z∧y=.int i∧z.length≤sizeLine∧atI z.cps.toList i=some c∧Q (.str ⟨#[c]⟩) H
theorem ix_list:IxR X (rIxL X.K):=by
 intro value slice pins s σ H x y v u Q I rx ry h hs
 obtain ⟨p,xs,i,z,rfl,rfl,hq,he,q⟩:=h
 cases rx
 obtain ⟨t,rfl⟩:=ry
 obtain ⟨its,r,pl,hz⟩:=I.list hq
 obtain ⟨j,h1,h2,h3,h4,h5⟩:=atI_get he
 obtain ⟨w,ew,rw'⟩:=r.get h2
 have hl:=r.length
 have hn:=line63
 have fin:EP X pins σ Q w s:=⟨z,H,I,rw',q⟩
 by_cases h0:0≤i
 ·have hj:i.toNat=j:=by
   rw [seqIndex_of h0 h5] at h1
   exact Option.some.inj h1
  exact item_listR pl.isList h0 (by omega) (by rw [hj]; simpa using ew) fin hs
 ·have hj:(i + (its.toArray.size:Int)).toNat=j:=by
   rw [seqIndex_neg (by omega) h4] at h1
   rw [List.size_toArray,← hl]
   exact Option.some.inj h1
  exact subscriptTail_builtinR (x:=w) pl.isList.typeIs slot_list_getitem.lookup
   (wpAny_getItem_list_neg (Q:=fun r s'=>r=w∧EP X pins σ Q r s') pl.isList (by omega) (by rw [List.size_toArray] <;> omega) (by omega) (by rw [hj]; simpa using ew) ⟨rfl,fin⟩) hs
theorem ix_tup:IxR X (rIxT X.K):=by
 intro value slice pins s σ H x y v u Q I rx ry h hs
 obtain ⟨p,xs,i,z,rfl,rfl,hq,he,q⟩:=h
 cases rx
 obtain ⟨t,rfl⟩:=ry
 obtain ⟨its,r,pl,hz⟩:=I.tuple hq
 obtain ⟨j,h1,h2,h3,h4,h5⟩:=atI_get he
 obtain ⟨w,ew,rw'⟩:=r.get h2
 have hl:=r.length
 have hn:=line63
 have fin:EP X pins σ Q w s:=⟨z,H,I,rw',q⟩
 exact subscriptTail_builtinR (x:=w) pl.typeIs slot_tuple_getitem.lookup
  (getItem_tuple (j:=j) (Q:=fun r s'=>r=w∧EP X pins σ Q r s') pl (by omega) (by omega) (by rw [List.size_toArray,← hl]; exact h1) (by simpa using ew) ⟨rfl,fin⟩) hs
theorem ix_str:IxR X rIxS:=by
 intro value slice pins s σ H x y v u Q I rx ry h hs
 obtain ⟨z,i,c,rfl,rfl,hz,he,q⟩:=h
 obtain ⟨t,rfl⟩:=rx
 obtain ⟨t',rfl⟩:=ry
 obtain ⟨j,h1,h2,h3,h4,h5⟩:=atI_get he
 have hl:z.cps.toList.length=z.length:=by simp [Str.length]
 rw [hl] at h1 h4 h5
 have hn:=line63
 exact tail_any (typeIs_str s z t) slot_str_getitem.lookup (getItem_str (c:=c) (by
  have e1:decide (i < -(2 ^ 63:Int))=false:=decide_eq_false (by omega)
  have e2:decide (i ≥ 2 ^ 63)=false:=decide_eq_false (by omega)
  rw [e1,e2,Bool.or_false]) (by rw [h1]; simpa using h2) ⟨.str ⟨#[c]⟩,H,I.tok _,⟨_,rfl⟩,q⟩) hs
def rIx (K:PySem.W.Frag):R2:=fun x y H Q=>rIxL K x y H Q ∨ rIxT K x y H Q ∨ rIxS x y H Q
theorem ix_seq:IxR X (rIx X.K):=ix_list.or (ix_tup.or ix_str)
theorem mapSeq_set (its:List Value) (n j:Nat) (u:Value):Obj.mapSeq (·.setIfInBounds j u) { cls:=.type "list",data:=.seq its.toArray n }={ cls:=.type "list",data:=.seq (its.set j u).toArray n }:=by
 simp [Obj.mapSeq]
theorem Inv.lst {pins:List (Addr × Obj)} {σ:St} {H:Hp} {s:Shared} {p:Addr} {xs:List V} (I:Inv X pins σ H s) (h:H p=some (.lst xs)):
  ∃ (its:List Value) (n:Nat),Vals xs its∧s.heap.get? p=some { cls:=.type "list",data:=.seq its.toArray n }∧xs.length≤sizeLine:=by
 obtain ⟨z,its,n,r,e⟩:=I.hok p _ h
 exact ⟨its,n,r,e,z⟩
theorem Inv.lstUpd {pins:List (Addr × Obj)} {σ:St} {H:Hp} {s:Shared} {p:Addr} {xs ys:List V} {its its':List Value} {n n':Nat} {f:Obj→Obj} (I:Inv X pins σ H s) (h:H p=some (.lst xs))
  (ho:s.heap.get? p=some { cls:=.type "list",data:=.seq its.toArray n }) (hf:f { cls:=.type "list",data:=.seq its.toArray n }={ cls:=.type "list",data:=.seq its'.toArray n' }) (r:Vals ys its') (hz:ys.length≤sizeLine) (t:Nat):
  Inv X pins σ (upd H p (.lst ys)) { s with heap:=s.heap.update p f,toks:=t }:=by
 have e:(s.heap.update p f).get? p=some { cls:=.type "list",data:=.seq its'.toArray n' }:=by
  rw [Heap.get?_update_self f ho (by rw [hf] <;> rfl),hf]
 refine I.write (x:=p) (e:=p) (by rw [h]; trivial) (.inl rfl) (fun b u hb q=>(Heap.get?_update_other _ _ (Ne.symm hb)).trans q) ⟨_,e⟩ ?_
 exact ⟨hz,its',n',r,e⟩
def rSetL:V→V→V→Hp→(Hp→Prop)→Prop:=fun o i v H Q=>∃ p xs k j,o=.ref p∧i=.int k∧H p=some (.lst xs)∧ixN xs.length k=some j∧Q (upd H p (.lst (xs.set j v)))
theorem set_list:PSet X rSetL:=by
 intro pins s σ H o i v ov iv u Q I ro ri rv h
 obtain ⟨p,xs,k,j,rfl,rfl,hp,hj,q⟩:=h
 cases ro
 obtain ⟨t,rfl⟩:=ri
 obtain ⟨its,n,r,ho,hz⟩:=I.lst hp
 obtain ⟨h1,h2,h3,h4⟩:=ixN_seq hj
 have hl:=r.length
 have hn:=line63
 have I':Inv X pins σ (upd H p (.lst (xs.set j v))) { s with heap:=s.heap.update p (Obj.mapSeq (·.setIfInBounds j u)) }:=
  I.lstUpd hp ho (mapSeq_set its n j u) (r.set rv j) (by rw [List.length_set]; exact hz) s.toks
 by_cases h0:0≤k
 ·have hk:k.toNat=j:=by
   rw [seqIndex_of h0 h4] at h1
   exact Option.some.inj h1
  exact PySem.W.ki_setAt ho h0 (by omega) (by rw [List.size_toArray,← hl]; exact h4) (by rw [hk]; exact ⟨_,I',q⟩)
 ·have hk:(k + (its.toArray.size:Int)).toNat=j:=by
   rw [seqIndex_neg (by omega) h3] at h1
   rw [List.size_toArray,← hl]
   exact Option.some.inj h1
  exact PySem.W.ki_setBack ho (by omega) (by rw [List.size_toArray,← hl]; exact h3) (by omega) (by rw [hk]; exact ⟨_,I',q⟩)
theorem slice_bounds (lo hi:Option Int) (n:Nat):(sliceBounds lo hi none n).1=((HT.sIx n 0 lo:Nat):Int)∧(sliceBounds lo hi none n).2.1=((HT.sIx n n hi:Nat):Int)∧(sliceBounds lo hi none n).2.2=1:=by
 refine ⟨?_,?_,rfl⟩
 ·cases lo with
  | none=>simp [sliceBounds,HT.sIx]
  | some i=>
   simp only [sliceBounds,HT.sIx,Option.getD_none,show (1:Int) > 0 by decide,if_true]
   by_cases h:i < 0
   ·simp only [h,if_true] <;> omega
   ·simp only [h,if_false] <;> omega
 ·cases hi with
  | none=>simp [sliceBounds,HT.sIx]
  | some i=>
   simp only [sliceBounds,HT.sIx,Option.getD_none,show (1:Int) > 0 by decide,if_true]
   by_cases h:i < 0
   ·simp only [h,if_true] <;> omega
   ·simp only [h,if_false] <;> omega
theorem slicePick_cut (its:List Value) (lo hi:Option Int):slicePick its.toArray lo hi none=((its.drop (HT.sIx its.length 0 lo)).take (HT.sIx its.length its.length hi - HT.sIx its.length 0 lo)).toArray:=by
 obtain ⟨h1,h2,h3⟩:=slice_bounds lo hi its.toArray.size
 unfold slicePick
 rw [h1,h2,h3]
 simp only [sliceRange_one,pick_run,List.size_toArray] <;> rfl
def rSlL (K:PySem.W.Frag):V→Option Int→Option Int→Hp→VK→Prop:=fun x lo hi H Q=>∃ a xs,x=.ref a∧SqL K H a xs∧∀ p,H p=none→Q (.ref p) (upd H p (.lst (cutV xs lo hi)))
theorem sl_list:SlR X (rSlL X.K):=by
 intro pins s σ H x v vl vu lo hi sl Q I rx hs pl pu h
 obtain ⟨a,xs,rfl,hx,q⟩:=h
 cases rx
 obtain ⟨its,r,ht,hz⟩:=I.list hx
 have hlen:=r.length
 refine ⟨"list",_,slot_list_getitem.lookup,ht.isList.typeIs,?_⟩
 refine wpAny_getItem_list_slice ht.isList hs pl pu .none (by simp) ?_ (by rw [List.size_toArray] <;> omega)
 rw [slicePick_cut,← hlen]
 refine ⟨.ref s.heap.objs.size,_,I.laid (t':=s.toks) (o:=.lst (cutV xs lo hi)) (fun b ob q=>Heap.get?_push_of_some _ q) (Nat.le_refl _) ?_,rfl,q _ (I.hok.fresh (Nat.le_refl _))⟩
 exact ⟨Nat.le_trans (cutV_length xs lo hi) hz,_,0,(r.drop (HT.sIx xs.length 0 lo)).take (HT.sIx xs.length xs.length hi - HT.sIx xs.length 0 lo),Heap.get?_push_size _ rfl⟩
def flatV:V→Bool
 | .non=>true
 | .bl _=>true
 | .int _=>true
 | .str _=>true
 | _=>false
def eqV:V→V→Bool
 | .non,.non=>true
 | .bl a,.bl b=>a == b
 | .bl a,.int b=>(if a then 1 else 0) == b
 | .int a,.bl b=>a == (if b then 1 else 0)
 | .int a,.int b=>a == b
 | .str a,.str b=>a == b
 | _,_=>false
theorem eqAt_V {A:Around} {s:Shared} {y x:V} {u v:Value} (ry:RelV y u) (rx:RelV x v) (fy:flatV y=true) (fx:flatV x=true):SeqAt.EqAt A s u v (eqV y x):=by
 cases y with
 | non=>
  cases ry
  cases x with
  | non=>cases rx; exact SeqAt.EqAt.same _
  | bl b=>cases rx; exact SeqAt.EqAt.none_bool b
  | int b=>obtain ⟨t,rfl⟩:=rx; exact SeqAt.EqAt.none_int b t
  | str b=>obtain ⟨t,rfl⟩:=rx; exact SeqAt.EqAt.none_str b t
  | _=>exact absurd (show false=true from fx) Bool.false_ne_true
 | bl a=>
  cases ry
  cases x with
  | non=>cases rx; exact SeqAt.EqAt.bool_none a
  | bl b=>cases rx; exact SeqAt.EqAt.bool_bool a b
  | int b=>obtain ⟨t,rfl⟩:=rx; exact SeqAt.EqAt.bool_int a b t
  | str b=>obtain ⟨t,rfl⟩:=rx; exact SeqAt.EqAt.bool_str a b t
  | _=>exact absurd (show false=true from fx) Bool.false_ne_true
 | int a=>
  obtain ⟨t',rfl⟩:=ry
  cases x with
  | non=>cases rx; exact SeqAt.EqAt.int_none a t'
  | bl b=>cases rx; exact SeqAt.EqAt.int_bool a t' b
  | int b=>obtain ⟨t,rfl⟩:=rx; exact SeqAt.EqAt.int_int a t' b t
  | str b=>obtain ⟨t,rfl⟩:=rx; exact SeqAt.EqAt.int_str a t' b t
  | _=>exact absurd (show false=true from fx) Bool.false_ne_true
 | str a=>
  obtain ⟨t',rfl⟩:=ry
  cases x with
  | non=>cases rx; exact SeqAt.EqAt.str_none a t'
  | bl b=>cases rx; exact SeqAt.EqAt.str_bool a t' b
  | int b=>obtain ⟨t,rfl⟩:=rx; exact SeqAt.EqAt.str_int a t' b t
  | str b=>obtain ⟨t,rfl⟩:=rx; exact SeqAt.EqAt.str_str a t' b t
  | _=>exact absurd (show false=true from fx) Bool.false_ne_true
 | _=>exact absurd (show false=true from fy) Bool.false_ne_true
def eqU (x:V) (u:Value):Bool:=match u with
 | .none=>eqV .non x
 | .bool b=>eqV (.bl b) x
 | .int i _=>eqV (.int i) x
 | .str z _=>eqV (.str z) x
 | _=>false
theorem eqU_of {x y:V} {u:Value} (r:RelV y u) (f:flatV y=true):eqU x u=eqV y x:=by
 cases y with
 | non=>cases r; rfl
 | bl b=>cases r; rfl
 | int i=>obtain ⟨t,rfl⟩:=r; rfl
 | str z=>obtain ⟨t,rfl⟩:=r; rfl
 | _=>exact absurd (show false=true from f) Bool.false_ne_true
theorem mem_eqAt {A:Around} {s:Shared} {x:V} {v:Value} (rx:RelV x v) (fx:flatV x=true):∀ {xs:List V} {us:List Value},Vals xs us→xs.all flatV=true→∀ u ∈ us,SeqAt.EqAt A s u v (eqU x u)
 | _,_,.nil,_=>fun u hu=>by cases hu
 | y :: xs,u :: us,.cons r t,f=>fun u' hu=>by
  rw [List.all_cons,Bool.and_eq_true] at f
  rcases List.mem_cons.mp hu with rfl | hu
  ·rw [eqU_of r f.1]; exact eqAt_V r rx f.1 fx
  ·exact mem_eqAt rx fx t f.2 u' hu
theorem call_len_seq:CallR X (.builtin "len") (fun xs H Q=>∃ p ys,xs=[.ref p]∧(SqL X.K H p ys ∨ SqT X.K H p ys)∧Q (.int ys.length) H):=by
 intro pins s σ H xs us Q I r h
 obtain ⟨p,ys,rfl,hq,q⟩:=h
 obtain ⟨u,rfl,rx⟩:=vals1 r
 cases rx
 have hn:=line63
 rcases hq with hq | hq
 ·obtain ⟨its,r',pl,hz⟩:=I.list hq
  have hlen:=r'.length
  exact Calls.call_len_list pl.isList (by simp only [List.size_toArray] <;> omega) ⟨.int ys.length,H,I.tok _,⟨s.toks + 1,by rw [List.size_toArray,hlen]⟩,q⟩
 ·obtain ⟨its,r',pl,hz⟩:=I.tuple hq
  have hlen:=r'.length
  exact len_tuple pl (by simp only [List.size_toArray] <;> omega) ⟨.int ys.length,H,I.tok _,⟨s.toks + 1,by rw [List.size_toArray,hlen]⟩,q⟩
theorem call_len_str:CallR X (.builtin "len") (fun xs H Q=>∃ z,xs=[.str z]∧z.length≤sizeLine∧Q (.int z.length) H):=by
 intro pins s σ H xs us Q I r h
 obtain ⟨z,rfl,hz,q⟩:=h
 obtain ⟨u,rfl,t,rfl⟩:=vals1 r
 have hn:=line63
 exact len_str (by omega) ⟨.int z.length,H,I.tok _,⟨_,rfl⟩,q⟩
theorem call_tuple_of:CallR X (.type "tuple") (fun xs H Q=>∃ p ys,xs=[.ref p]∧((SqL X.K H p ys∧∀ l,H l=none→Q (.ref l) (upd H l (.tup ys))) ∨ (SqT X.K H p ys∧Q (.ref p) H))):=by
 intro pins s σ H xs us Q I r h
 obtain ⟨p,ys,rfl,h⟩:=h
 obtain ⟨u,rfl,rx⟩:=vals1 r
 cases rx
 rcases h with ⟨hq,q⟩ | ⟨hq,q⟩
 ·obtain ⟨its,r',pl,hz⟩:=I.list hq
  have hlen:=r'.length
  refine call_tuple_list pl.isList (fun h' kp=>?_) (by simp only [List.size_toArray] <;> omega)
  have I1:Inv X pins σ H { s with heap:=h' }:=I.kept (t':=s.toks) kp
  have I2:Inv X pins σ (upd H h'.objs.size (.tup ys)) { s with heap:=h'.push { cls:=.type "tuple",data:=.seq its.toArray } }:=
   I1.laid (t':=s.toks) (fun b o e=>Heap.get?_push_of_some _ e) (Nat.le_refl _) (show ObjOk X.prog X.w _ _ _ (.tup ys) from ⟨hz,its,r',IsTup.new _ _⟩)
  exact ⟨.ref h'.objs.size,_,I2,rfl,q _ (I1.hok.fresh (Nat.le_refl _))⟩
 ·obtain ⟨its,r',pl,hz⟩:=I.tuple hq
  exact call_tuple_same pl ⟨.ref p,H,I,rfl,q⟩
def tyV (K:PySem.W.Frag) (T:String) (x:V) (H:Hp):Prop:=match x with
 | .str _=>T = "str"
 | .int _=>T = "int"
 | .ref p=>(T = "list"∧∃ xs,SqL K H p xs) ∨ (T = "tuple"∧∃ o,K.lookup p=some o∧o.cls=.type "tuple"∧o.dict=none) ∨
   (T = "dict"∧((∃ kvs,H p=some (.dK kvs)) ∨ ∃ kvs,H p=some (.dT kvs))) ∨ (T = "set"∧∃ S n,H p=some (.set S n))
 | _=>False
theorem tyV_is {pins:List (Addr × Obj)} {σ:St} {H:Hp} {s:Shared} {T:String} {x:V} {v:Value} (I:Inv X pins σ H s) (r:RelV x v) (ty:tyV X.K T x H):
  s.TypeIs v T∧∀ a,v=.ref a→∃ ob,s.heap.get? a=some ob∧ob.dict=none:=by
 cases x with
 | str z=>
  obtain ⟨t,rfl⟩:=r
  cases (show T = "str" from ty)
  exact ⟨typeIs_str s z t,fun _ e=>nomatch e⟩
 | int i=>
  obtain ⟨t,rfl⟩:=r
  cases (show T = "int" from ty)
  exact ⟨typeIs_int s i t,fun _ e=>nomatch e⟩
 | ref p=>
  cases r
  rcases ty with ⟨rfl,xs,hq⟩ | ⟨rfl,o,hk,hc,hd⟩ | ⟨rfl,hk⟩ | ⟨rfl,S,n,hk⟩
  ·obtain ⟨its,_,pl,_⟩:=I.list hq
   refine ⟨pl.isList.typeIs,fun a e=>?_⟩
   cases e
   obtain ⟨o,n,e,c,hd,_⟩:=pl
   exact ⟨o,e,hd⟩
  ·refine ⟨⟨o,I.kIn p o hk,hc⟩,fun a e=>?_⟩
   cases e
   exact ⟨o,I.kIn _ o hk,hd⟩
  ·have z:∃ o,s.heap.get? p=some o∧o.ExactDict:=by
    rcases hk with ⟨kvs,hk⟩ | ⟨kvs,hk⟩
    ·obtain ⟨_,_,_,_,o,_,_,e,ex,_⟩:=I.hok p _ hk
     exact ⟨o,e,ex⟩
    ·obtain ⟨_,_,_,_,o,_,_,e,ex,_⟩:=I.hok p _ hk
     exact ⟨o,e,ex⟩
   obtain ⟨o,e,ex⟩:=z
   refine ⟨⟨o,e,ex.1⟩,fun a e2=>?_⟩
   cases e2
   exact ⟨o,e,ex.2.1⟩
  ·obtain ⟨o,_,_,_,e,ex,_⟩:=I.hok p _ hk
   refine ⟨⟨o,e,ex.1⟩,fun a e2=>?_⟩
   cases e2
   exact ⟨o,e,ex.2.1⟩
 | _=>exact False.elim ty
def tBM (K:PySem.W.Frag) (T:String) (r:V→List V→Hp→VK→Prop) (to:TE) (t:TA):TE:=fun σ H Q=>to σ H fun x H1=>tyV K T x H1∧t σ H1 fun xs H2=>r x xs H2 Q
variable {o e:Expr} {es:List Expr} {to:TE} {t:TA} {name:Str} {apos cpos:Pos} {T id:String} {r:V→List V→Hp→VK→Prop}
theorem pe_bm (pa:PlainAttrs T) (slot:Slot T name id) (hty:typeOf (.builtin id)=pure (.type "method_descriptor")) (hm:MtR X id r) (ho:PE X o to) (ha:PA X (e :: es) t)
  (hbase:autoParam (attributeBase o name X.env (eval o X.env)=eval o X.env) Au.h1._auto_1)
  (hfew:autoParam (((backTo cpos (starEach (e :: es) X.env)).all (fun x=>!x.1) && (backToKw cpos (keywordEach [] X.env)).all (fun x=>x.1.isSome)
   && decide ((e :: es).length + ([]:List Keyword).length + (if ([]:List Keyword).isEmpty then 0 else 1) < 30))=true) Au.h1._auto_1)
  (hline:autoParam ((apos.endLine == cpos.line)=true) Au.h1._auto_1) (hs:autoParam (starEach (e :: es) X.env=(false,eval e X.env) :: starEach es X.env) Au.h1._auto_1) (hplain:autoParam ((backTo cpos (starEach es X.env)).any (·.1)=false) Au.h1._auto_1):
  PE X (.Call (.Attribute o name apos) (e :: es) [] cpos) (tBM X.K T r to t):=by
 intro pins s σ H Q I h
 refine wpAny_Call_method_late hbase hfew hline rfl (thn (ho pins s σ H _ I h) fun v s1 zq=>?_)
 obtain ⟨x,H1,I1,r1,ty,q1⟩:=zq
 obtain ⟨h1,h2⟩:=tyV_is I1 r1 ty
 refine ⟨T,id,pa,slot,hty,h1,h2,?_⟩
 have hA:=ha cpos pins s1 σ H1 _ I1 q1
 rw [hs] at hA ⊢
 refine Calls.callWith_builtin (by show (false || (backTo cpos (starEach es X.env)).any (·.1))=false; rw [hplain] <;> rfl) (Calls.evalArgs_plain ?_)
 exact thn hA fun us s2 zq=>ex5 zq fun vs H2 I2 r2 q2=>hm pins s2 σ H2 x vs v us Q I2 r1 r2 q2
end
end L2
namespace L2
open PySem PySem.Spec PyProof.Rows
def MtM (X:Cx) (id:String) (r:V→List V→Hp→VK→Prop):Prop:=
 ∀ (pins:List (Addr × Obj)) (s:Shared) (σ:St) (H:Hp) (x:V) (xs:List V) (v:Value) (us:List Value) (Q:VK),Inv X pins σ H s→RelV x v→Vals xs us→r x xs H Q→
  wpAny (model X.prog X.w) X.A (call (.builtin id) (v :: us)) (EP X pins σ Q) X.xe s
theorem Vals.one:∀ {x:V} {us:List Value},Vals [x] us→∃ u,us=[u]∧RelV x u
 | _,_,.cons r .nil=>⟨_,rfl,r⟩
theorem Vals.rep {xs:List V} {us:List Value} (h:Vals xs us):∀ k:Nat,Vals (List.replicate k xs).flatten (List.replicate k us).flatten
 | 0=>.nil
 | k + 1=>by
  rw [List.replicate_succ,List.replicate_succ,List.flatten_cons,List.flatten_cons]
  exact Vals.append h (Vals.rep h k)
theorem foldl_rep (its:List Value):∀ (k:Nat) (acc:List Value),
  List.foldl (fun x1 x2=>x1 ++ x2) acc.toArray (List.replicate k its.toArray)=(acc ++ (List.replicate k its).flatten).toArray
 | 0,acc=>by simp
 | k + 1,acc=>by
  have e:acc.toArray ++ its.toArray=(acc ++ its).toArray:=by simp
  have e2:(acc ++ its) ++ (List.replicate k its).flatten=acc ++ (List.replicate (k + 1) its).flatten:=by
   rw [List.replicate_succ,List.flatten_cons,List.append_assoc]
  rw [← e2,← foldl_rep its k (acc ++ its),← e,List.replicate_succ,List.foldl_cons]
section
variable {X:Cx} {pins:List (Addr × Obj)} {σ:St} {H:Hp} {s:Shared} {l b:Addr} {xs ys zs:List V}
theorem Inv.lset {its its':List Value} {n:Nat} {f:Array Value→Array Value} {t':Nat} (I:Inv X pins σ H s) (hH:H l=some (.lst xs))
  (e:s.heap.get? l=some { cls:=.type "list",data:=.seq its.toArray n }) (hf:f its.toArray=its'.toArray) (hv:Vals ys its') (hz:ys.length≤sizeLine):
  Inv X pins σ (upd H l (.lst ys)) { s with heap:=s.heap.update l (Obj.mapSeq f),toks:=t' }:=by
 have q:=PySem.IsL.update e f
 rw [hf] at q
 refine I.write (x:=l) (e:=l) (by rw [hH]; exact trivial) (.inl rfl) (fun b' u hb hu=>(Heap.get?_update_other s.heap (Obj.mapSeq f) (Ne.symm hb)).trans hu) ⟨_,q⟩ ?_
 exact ⟨hz,its',_,hv,q⟩
theorem Inv.lnew {its:List Value} {t':Nat} (I:Inv X pins σ H s) (hv:Vals ys its) (hz:ys.length≤sizeLine):
  Inv X pins σ (upd H s.heap.objs.size (.lst ys)) { s with heap:=s.heap.push { cls:=.type "list",data:=.seq its.toArray },toks:=t' }:=
 I.laid (fun _ _ q=>Heap.get?_push_of_some _ q) (Nat.le_refl _) ⟨hz,its,0,hv,Heap.get?_push_size _ rfl⟩
theorem Inv.fresh (I:Inv X pins σ H s):H s.heap.objs.size=none:=I.hok.fresh (Nat.le_refl _)
theorem Inv.lstM (I:Inv X pins σ H s) (hH:H l=some (.lst xs)):xs.length≤sizeLine∧∃ (its:List Value) (n:Nat),Vals xs its∧xs.length=its.length∧s.heap.get? l=some { cls:=.type "list",data:=.seq its.toArray n }:=by
 obtain ⟨z,its,n,r,e⟩:=I.hok l _ hH
 exact ⟨z,its,n,r,r.length,e⟩
theorem notLongL {n:Nat} (h:n≤sizeLine):Builtin.List.listTooLong n=false:=by
 unfold Builtin.List.listTooLong
 exact decide_eq_false (by omega)
end
section
variable {X:Cx}
def rAppend:V→List V→Hp→VK→Prop:=fun x vs H Q=>∃ l xs y,x=.ref l∧vs=[y]∧H l=some (.lst xs)∧xs.length < sizeLine∧Q .non (upd H l (.lst (xs ++ [y])))
theorem mt_append:MtM X "list.append" rAppend:=by
 intro pins s σ H x vs v us Q I rx rv h
 obtain ⟨l,xs,y,rfl,rfl,hH,hz,q⟩:=h
 cases rx
 obtain ⟨u,rfl,ru⟩:=rv.one
 obtain ⟨z,its,n,r,hl,e⟩:=I.lstM hH
 refine call_meets F.slot_list_append ⟨_,e,rfl⟩ F.entry_list_append (F.args_list_append_2 _ _) (PySem.list_append l its.toArray n u (by rw [List.size_toArray]; omega)) ⟨e,?_⟩
 refine ⟨.non,_,I.lset (its':=its ++ [u]) hH e (by simp) (r.append (.cons ru .nil)) ?_,rfl,q⟩
 rw [List.length_append,List.length_singleton]
 omega
def rCat:R2:=fun x y H Q=>∃ l b xs zs,x=.ref l∧y=.ref b∧H l=some (.lst xs)∧H b=some (.lst zs)∧xs.length + zs.length≤sizeLine∧∀ p,H p=none→Q (.ref p) (upd H p (.lst (xs ++ zs)))
theorem op_cat:OpR X (binaryOp .Add) rCat:=by
 intro pins s σ H x y v u Q I rx ry h
 obtain ⟨l,b,xs,zs,rfl,rfl,hH,hB,hz,q⟩:=h
 cases rx
 cases ry
 obtain ⟨z,its,n,r,hl,e⟩:=I.lstM hH
 obtain ⟨z2,its2,n2,r2,hl2,e2⟩:=I.lstM hB
 refine PySem.P.add_list e e2 ?_ (by rw [List.size_toArray,List.size_toArray]; omega)
 have ea:its.toArray ++ its2.toArray=(its ++ its2).toArray:=by simp
 rw [ea]
 exact ⟨.ref _,_,I.lnew (t':=s.toks) (r.append r2) (by rw [List.length_append]; omega),rfl,q _ I.fresh⟩
def rRep:R2:=fun x y H Q=>∃ l k xs,x=.ref l∧y=.int k∧H l=some (.lst xs)∧-(2 ^ 63)≤k∧k < 2 ^ 63∧xs.length * k.toNat≤sizeLine∧
 ∀ p,H p=none→Q (.ref p) (upd H p (.lst (List.replicate k.toNat xs).flatten))
theorem len_rep {α:Type} (xs:List α) (k:Nat):(List.replicate k xs).flatten.length=k * xs.length:=by
 induction k with
 | zero=>simp
 | succ k ih=>rw [List.replicate_succ,List.flatten_cons,List.length_append,ih,Nat.succ_mul,Nat.add_comm]
theorem op_rep:OpR X (binaryOp .Mult) rRep:=by
 intro pins s σ H x y v u Q I rx ry h
 obtain ⟨l,k,xs,rfl,rfl,hH,h1,h2,hz,q⟩:=h
 cases rx
 obtain ⟨t,rfl⟩:=ry
 obtain ⟨z,its,n,r,hl,e⟩:=I.lstM hH
 have hlen:its.toArray.size * k.toNat≤sizeLine:=by rw [List.size_toArray,← hl]; exact hz
 have hcap:¬ its.toArray.size * k.toNat > (2 ^ 63 - 1) / 8:=by
  have:(sizeLine:Nat)≤(2 ^ 63 - 1) / 8:=by decide
  omega
 have hfit:¬ (!Builtin.List.listFitsIndex k)=true:=by
  rw [fitsIndex_both h1 h2]
  exact Bool.false_ne_true
 have hlong:¬ Builtin.List.listTooLong (its.toArray.size * k.toNat)=true:=by
  rw [notLongL hlen]
  exact Bool.false_ne_true
 have hnew:List.foldl (fun x1 x2=>x1 ++ x2) #[] (List.replicate (if its.toArray.isEmpty=true then 0 else k.toNat) its.toArray)=(List.replicate k.toNat its).flatten.toArray:=by
  have f0:∀ m:Nat,List.foldl (fun x1 x2=>x1 ++ x2) #[] (List.replicate m its.toArray)=(List.replicate m its).flatten.toArray:=fun m=>by
   have:=foldl_rep its m []
   rw [List.nil_append] at this
   exact this
  rw [f0]
  cases its with
  | nil=>simp
  | cons a r'=>rw [if_neg (by simp)]
 refine wpAny_binaryOp_repeat_ref (T:="list") (U:="int") (by decide) ⟨_,e,rfl⟩ (fun s'=>typeIs_int s' k t) noFill_list_mul F.fills_int_mul F.slot_int_rmul repeat_list F.slot_int_index.lookup
  (call_meets F.slot_int_rmul (typeIs_int s k t) F.entry_int_rmul (F.args_int_rmul_2 _ _) (int___rmul___int_list k t l its.toArray n)
   ⟨e,rfl,⟨_,e,rfl⟩,call_meets F.slot_list_mul ⟨_,e,rfl⟩ F.entry_list_mul (F.args_list_mul_2 _ _) (AutoListH.list___mul___list_int_3 l its.toArray n k t hfit hcap hlong) ⟨e,?_⟩⟩)
 rw [hnew]
 exact ⟨.ref _,_,I.lnew (t':=s.toks) (r.rep k.toNat) (by rw [len_rep,Nat.mul_comm]; exact hz),rfl,q _ I.fresh⟩
end
section
variable {prog:Program} {w:World} {A:Around} {E:Value→Shared→Prop} {s:Shared}
end
section
variable {X:Cx}
end
end L2
namespace L2
open PySem PySem.Spec PyProof.Rows
section
variable {κ:Type} [DecidableEq κ]
def valV (kvs:List (κ × V)) (k:κ):Option V:=(kvs.find? fun kv=>decide (kv.1=k)).map (·.2)
def putK (kvs:List (κ × V)) (k:κ) (v:V):List (κ × V):=
 if (kvs.any fun kv=>decide (kv.1=k))=true then kvs.map (fun kv=>if kv.1=k then (kv.1,v) else kv) else kvs ++ [(k,v)]
theorem valV_pos {p:κ × V} {r:List (κ × V)} {k:κ} (e:p.1=k):valV (p :: r) k=some p.2:=by simp [valV,List.find?_cons,e]
theorem valV_neg {p:κ × V} {r:List (κ × V)} {k:κ} (e:¬ p.1=k):valV (p :: r) k=valV r k:=by simp [valV,List.find?_cons,e]
theorem valV_any (k:κ):∀ kvs:List (κ × V),(kvs.any fun kv=>decide (kv.1=k))=(valV kvs k).isSome
 | []=>rfl
 | p :: r=>by
  rw [List.any_cons]
  by_cases e:p.1=k
  ·simp only [valV_pos e,decide_eq_true e,Bool.true_or,Option.isSome_some]
  ·rw [valV_neg e,decide_eq_false e,Bool.false_or]; exact valV_any k r
theorem length_putK (kvs:List (κ × V)) (k:κ) (v:V):(putK kvs k v).length≤kvs.length + 1:=by
 unfold putK
 split
 ·rw [List.length_map]; omega
 ·rw [List.length_append,List.length_cons,List.length_nil]; omega
theorem RelO.isSome_eq {o:Option V} {u:Option Value} (r:RelO o u):o.isSome=u.isSome:=by
 cases o with
 | none=>cases u with
  | none=>rfl
  | some _=>exact (show False from r).elim
 | some _=>cases u with
  | none=>exact (show False from r).elim
  | some _=>rfl
theorem RelO.getD {o:Option V} {u:Option Value} {d:V} {d':Value} (r:RelO o u) (rd:RelV d d'):RelV (o.getD d) (u.getD d'):=by
 cases o with
 | none=>cases u with
  | none=>exact rd
  | some _=>exact (show False from r).elim
 | some _=>cases u with
  | none=>exact (show False from r).elim
  | some _=>exact r
theorem KV.val {kvs:List (κ × V)} {vs:List (κ × Value)} (r:KV kvs vs) (k:κ):RelO (valV kvs k) (valueAt vs k):=by
 unfold KV at r
 induction r with
 | nil=>exact True.intro
 | @cons p q ps qs h t ih=>
  obtain ⟨h1,h2⟩:=h
  by_cases e:p.1=k
  ·have e':q.1=k:=h1.symm.trans e
   have b:valueAt (q :: qs) k=some q.2:=by simp [valueAt,List.find?_cons,e']
   rw [valV_pos e,b]; exact h2
  ·have e':¬ q.1=k:=fun z=>e (h1.trans z)
   have b:valueAt (q :: qs) k=valueAt qs k:=by simp [valueAt,List.find?_cons,e']
   rw [valV_neg e,b]; exact ih
theorem KV.any {kvs:List (κ × V)} {vs:List (κ × Value)} (r:KV kvs vs) (k:κ):(kvs.any fun kv=>decide (kv.1=k))=vs.any fun kv=>decide (kv.1=k):=by
 unfold KV at r
 induction r with
 | nil=>rfl
 | cons h t ih=>rw [List.any_cons,List.any_cons,ih,h.1]
theorem KV.repl {kvs:List (κ × V)} {vs:List (κ × Value)} (r:KV kvs vs) (k:κ) {y:V} {u:Value} (ry:RelV y u):
  KV (kvs.map fun kv=>if kv.1=k then (kv.1,y) else kv) (vs.map fun kv=>if kv.1=k then (kv.1,u) else kv):=by
 unfold KV at r ⊢
 induction r with
 | nil=>exact .nil
 | @cons p q ps qs h t ih=>
  rw [List.map_cons,List.map_cons]
  refine .cons ?_ ih
  obtain ⟨h1,h2⟩:=h
  by_cases e:p.1=k
  ·rw [if_pos e,if_pos (h1.symm.trans e)]; exact ⟨h1,ry⟩
  ·rw [if_neg e,if_neg (fun z=>e (h1.trans z))]; exact ⟨h1,h2⟩
theorem KV.put {kvs:List (κ × V)} {vs:List (κ × Value)} (r:KV kvs vs) (k:κ) {y:V} {u:Value} (ry:RelV y u):KV (putK kvs k y) (stored vs k u):=by
 unfold putK stored
 rw [r.any k]
 by_cases e:(vs.any fun kv=>decide (kv.1=k))=true
 ·rw [if_pos e,if_pos e]; exact r.repl k ry
 ·rw [if_neg e,if_neg e]; exact Paired.snoc r ⟨rfl,ry⟩
theorem KV.keys {kvs:List (κ × V)} {vs:List (κ × Value)} (r:KV kvs vs):kvs.map (·.1)=vs.map (·.1):=by
 unfold KV at r
 induction r with
 | nil=>rfl
 | cons h t ih=>rw [List.map_cons,List.map_cons,ih,h.1]
theorem KV.length {kvs:List (κ × V)} {vs:List (κ × Value)} (r:KV kvs vs):kvs.length=vs.length:=Paired.length r
end
theorem kV_is {P:Program} {w:World} {k:Key} {u:Value} (r:RelV (kV k) u):(mixKind P w).is k u=true:=by
 cases k with
 | inl i=>obtain ⟨t,e⟩:=(show ∃ t,u=Value.int i t from r); subst e; exact mixKind_int P w i t
 | inr x=>obtain ⟨t,e⟩:=(show ∃ t,u=Value.str x t from r); subst e; exact mixKind_str P w x t
theorem items_are {P:Program} {w:World}:∀ {ks:List Key} {us:List Value},Vals (ks.map kV) us→ItemsAre (mixKind P w) ks us
 | [],_,r=>by rw [List.map_nil] at r; cases r; exact .nil
 | k :: ks,_,r=>by
  rw [List.map_cons] at r
  cases r with
  | cons h t=>exact .cons (kV_is h) (items_are t)
abbrev KT (H:Hp):List (List Key × V)→List (List Key × Addr × Value)→Prop:=Paired fun p q=>p.1=q.1∧H q.2.1=some (.tup (p.1.map kV))∧RelV p.2 q.2.2
theorem KT.val {H:Hp} {kvs:List (List Key × V)} {xs:List (List Key × Addr × Value)} (r:KT H kvs xs) (k:List Key):RelO (valV kvs k) ((atKey xs k).map (·.2)):=by
 induction r with
 | nil=>exact True.intro
 | @cons p q ps qs h t ih=>
  obtain ⟨h1,_,h2⟩:=h
  by_cases e:p.1=k
  ·have e':q.1=k:=h1.symm.trans e
   have b:atKey (q :: qs) k=some q.2:=by simp [atKey,List.find?_cons,e']
   rw [valV_pos e,b]; exact h2
  ·have e':¬ q.1=k:=fun z=>e (h1.trans z)
   have b:atKey (q :: qs) k=atKey qs k:=by simp [atKey,List.find?_cons,e']
   rw [valV_neg e,b]; exact ih
theorem KT.repl {H:Hp} {kvs:List (List Key × V)} {xs:List (List Key × Addr × Value)} (r:KT H kvs xs) (k:List Key) {y:V} {u:Value} (ry:RelV y u):
  KT H (kvs.map fun kv=>if kv.1=k then (kv.1,y) else kv) (xs.map (putAt k u)):=by
 induction r with
 | nil=>exact .nil
 | @cons p q ps qs h t ih=>
  rw [List.map_cons,List.map_cons]
  refine .cons ?_ ih
  obtain ⟨h1,h2,h3⟩:=h
  unfold putAt
  by_cases e:p.1=k
  ·rw [if_pos e,if_pos (h1.symm.trans e)]; exact ⟨h1,h2,ry⟩
  ·rw [if_neg e,if_neg (fun z=>e (h1.trans z))]; exact ⟨h1,h2,h3⟩
theorem KT.put {H:Hp} {kvs:List (List Key × V)} {xs:List (List Key × Addr × Value)} (r:KT H kvs xs) (k:List Key) {b:Addr} {y:V} {u:Value} (hb:H b=some (.tup (k.map kV))) (ry:RelV y u):
  KT H (putK kvs k y) (storedH xs k b u):=by
 have e:(kvs.any fun kv=>decide (kv.1=k))=(atKey xs k).isSome:=by
  rw [valV_any,(r.val k).isSome_eq,Option.isSome_map]
 unfold putK storedH
 rw [e]
 by_cases q:(atKey xs k).isSome=true
 ·rw [if_pos q,if_pos q]; exact r.repl k ry
 ·rw [if_neg q,if_neg q]; exact Paired.snoc r ⟨rfl,hb,ry⟩
theorem KT.keeps {H H':Hp} {kvs:List (List Key × V)} {xs:List (List Key × Addr × Value)} (r:KT H kvs xs) (ht:∀ b ys,H b=some (.tup ys)→H' b=some (.tup ys)):KT H' kvs xs:=
 Paired.mapP r fun _ _ z=>⟨z.1,ht _ _ z.2.1,z.2.2⟩
section
variable {P:Program} {w:World} {H:Hp} {h:Heap} {a:Addr}
theorem rd_of {u:HO} (ok:HOk P w H h) (e:Rd H a u):ObjOk P w H h a u:=e.ok ok
theorem dk_rd {kvs:List (Key × V)} (ok:HOk P w H h) (e:Rd H a (.dK kvs)):kvs.length≤sizeLine∧(a == sysModules)=false∧∃ vs,KV kvs vs∧h.DictOf (mixKind P w) a vs:=
 show ObjOk P w H h a (.dK kvs) from rd_of ok e
theorem dk_of {kvs:List (Key × V)} (ok:HOk P w H h) (e:H a=some (.dK kvs)):kvs.length≤sizeLine∧(a == sysModules)=false∧∃ vs,KV kvs vs∧h.DictOf (mixKind P w) a vs:=dk_rd ok (.inl e)
theorem key_of {ks:List Key} (ok:HOk P w H h) (e:H a=some (.tup (ks.map kV))):(tupleKind (mixKind P w)).is h ks a:=by
 obtain ⟨_,its,r,o,h1,h2,n,h3⟩:=(show ObjOk P w H h a (.tup (ks.map kV)) from ok a _ e)
 exact ⟨o,its.toArray,n,h1,h2,h3,by simpa using items_are r⟩
theorem dt_rd {kvs:List (List Key × V)} (ok:HOk P w H h) (e:Rd H a (.dT kvs)):kvs.length≤sizeLine∧(a == sysModules)=false∧
  ∃ xs,KT H kvs xs∧h.DictOfH (tupleKind (mixKind P w)) a xs:=by
 obtain ⟨z,y,xs,r,o,es,ep,h1,h2,h3,h4,h5⟩:=(show ObjOk P w H h a (.dT kvs) from rd_of ok e)
 refine ⟨z,y,xs,r,o,es,ep,h1,h2,h3,h4,fun x hx=>?_,h5⟩
 have all:∀ {l:List (List Key × V)} {m:List (List Key × Addr × Value)},KT H l m→∀ x ∈ m,(tupleKind (mixKind P w)).is h x.1 x.2.1:=by
  intro l m q
  induction q with
  | nil=>intro x hx; exact nomatch hx
  | @cons p q ps qs hq t ih=>
   intro x hx
   rcases List.mem_cons.mp hx with e | hx
   ·subst e
    exact key_of ok (by rw [← hq.1]; exact hq.2.1)
   ·exact ih x hx
 exact all r x hx
theorem dt_of {kvs:List (List Key × V)} (ok:HOk P w H h) (e:H a=some (.dT kvs)):kvs.length≤sizeLine∧(a == sysModules)=false∧
  ∃ xs,KT H kvs xs∧h.DictOfH (tupleKind (mixKind P w)) a xs:=dt_rd ok (.inl e)
end
def DGet (H:Hp) (a:Addr) (y:V) (r:Option V):Prop:=
 (∃ kvs k,Rd H a (.dK kvs)∧y=kV k∧r=valV kvs k) ∨ ∃ kvs k b,Rd H a (.dT kvs)∧y=.ref b∧H b=some (.tup (k.map kV))∧r=valV kvs k
def DPut (H:Hp) (a:Addr) (y v:V) (H':Hp):Prop:=
 (∃ kvs k,H a=some (.dK kvs)∧y=kV k∧kvs.length < sizeLine∧H'=upd H a (.dK (putK kvs k v))) ∨
 ∃ kvs k b,H a=some (.dT kvs)∧y=.ref b∧H b=some (.tup (k.map kV))∧kvs.length < sizeLine∧H'=upd H a (.dT (putK kvs k v))
theorem DPut.k {H:Hp} {a:Addr} {kvs:List (Key × V)} {k:Key} {v:V} (e:H a=some (.dK kvs)) (hl:kvs.length < sizeLine):DPut H a (kV k) v (upd H a (.dK (putK kvs k v))):=.inl ⟨kvs,k,e,rfl,hl,rfl⟩
section
variable {X:Cx} {pins:List (Addr × Obj)} {σ:St} {H:Hp} {s:Shared} {a:Addr} {y v:V} {u r:Value} {o:Option V} {A:Around} {E:Value→Shared→Prop}
theorem Inv.big (I:Inv X pins σ H s):sysModules < s.heap.objs.size:=by
 have h:mainGlobals < s.heap.objs.size:=(I.mod.glob.keeps I.bk).lt
 exact Nat.lt_trans (by decide) h
theorem d_getItem {Q:Value→Shared→Prop} (hu:A.units + 1 < cLine) (I:Inv X pins σ H s) (g:DGet H a y (some v)) (ry:RelV y u) (h:∀ w' s',Inv X pins σ H s'→RelV v w'→Q w' s'):
  wpAny (model X.prog X.w) A (getItem (.ref a) u) Q E s:=by
 rcases g with ⟨kvs,k,e,ey,l⟩ | ⟨kvs,k,b,e,ey,eb,l⟩
 ·subst ey
  obtain ⟨z,hd,vs,rel,dd⟩:=dk_rd I.hok e
  obtain ⟨w',hw,rw'⟩:=RelO.some_of (v:=v) (o:=valueAt vs k) (by rw [l]; exact rel.val k)
  exact wpAny_getItem_of (kV_is ry) dd.mapOf hw (h w' _ (I.tok _) rw')
 ·subst ey
  cases (show u=Value.ref b from ry)
  obtain ⟨z,hd,xs,rel,dd⟩:=dt_rd I.hok e
  obtain ⟨w',hw,rw'⟩:=RelO.some_of (v:=v) (o:=(atKey xs k).map (·.2)) (by rw [l]; exact rel.val k)
  obtain ⟨p,hp,hp2⟩:=Option.map_eq_some_iff.mp hw
  refine wpAny_getItem_heap (tupleKind_room_in1 hu) (key_of I.hok eb) dd hp ?_
  rw [hp2]
  exact h w' _ (I.tok _) rw'
theorem d_write {h':Heap} {t':Nat} {ob:HO} (I:Inv X pins σ H s) (mu:Mut (H a)) (hs:Heap.SameBut a s.heap h') (he:∃ q,h'.get? a=some q) (new:ObjOk X.prog X.w (upd H a ob) h' a ob):
  Inv X pins σ (upd H a ob) { s with heap:=h',toks:=t' }:=
 I.write (x:=a) (e:=a) mu (.inl rfl) (fun b q hb z=>(hs.2 b hb).trans z) he new
theorem dk_new {P:Program} {w:World} {H':Hp} {h':Heap} {kvs:List (Key × V)} {vs:List (Key × Value)} (z:kvs.length≤sizeLine) (hd:(a == sysModules)=false) (rel:KV kvs vs) (dd:h'.DictOf (mixKind P w) a vs):
  ObjOk P w H' h' a (.dK kvs):=⟨z,hd,vs,rel,dd⟩
theorem d_setItem {H':Hp} {Q:Unit→Shared→Prop} (hu:A.units + 1 < cLine) (I:Inv X pins σ H s) (g:DPut H a y v H') (ry:RelV y u) (rv:RelV v r) (h:∀ s',Inv X pins σ H' s'→Q () s'):
  wpAny (model X.prog X.w) A (setItem (.ref a) u r) Q E s:=by
 rcases g with ⟨kvs,k,e,ey,l,eH⟩ | ⟨kvs,k,b,e,ey,eb,l,eH⟩
 ·subst ey eH
  obtain ⟨z,hd,vs,rel,dd⟩:=dk_of I.hok e
  have hz:vs.length≤sizeLine:=by rw [← rel.length]; exact z
  have hl:(putK kvs k v).length≤sizeLine:=by have:=length_putK kvs k v; omega
  refine wpAny_setItem_pairs (hsz:=hz) (kV_is ry) dd fun h' dd' hs=>h _ ?_
  have he:∃ q,h'.get? a=some q:=let ⟨q,_,_,hq,_⟩:=dd'; ⟨q,hq⟩
  exact d_write I (by rw [e]; exact True.intro) hs he (dk_new hl hd (rel.put k rv) dd')
 ·subst ey eH
  cases (show u=Value.ref b from ry)
  obtain ⟨z,hd,xs,rel,dd⟩:=dt_of I.hok e
  have hz:xs.length≤sizeLine:=by rw [← Paired.length rel]; exact z
  have hl:(putK kvs k v).length≤sizeLine:=by have:=length_putK kvs k v; omega
  refine wpAny_setItem_heap (hsz:=hz) (tupleKind_room_in1 hu) (key_of I.hok eb) dd fun h' dd' hs=>h _ ?_
  obtain ⟨q,es,ep,hq,h2,h3,h4,_,h5⟩:=dd'
  refine d_write I (by rw [e]; exact True.intro) hs ⟨q,hq⟩ ⟨hl,hd,_,(rel.put k eb rv).keeps fun c ys ec=>?_,q,es,ep,hq,h2,h3,h4,h5⟩
  rw [upd_ne (ne_of ec e (fun z=>nomatch z))]
  exact ec
end
section
variable {X:Cx} {pins:List (Addr × Obj)} {σ:St} {H:Hp} {s:Shared} {a:Addr} {kvs:List (Key × V)} {k:Key} {u:Value} {A:Around} {E:Value→Shared→Prop}
theorem d_len {Q:Value→Shared→Prop} (I:Inv X pins σ H s) (e:Rd H a (.dK kvs)) (h:∀ t s',Inv X pins σ H s'→Q (.int kvs.length t) s'):wpAny (model X.prog X.w) A (call (.builtin "len") [.ref a]) Q E s:=by
 obtain ⟨z,hd,vs,rel,dd⟩:=dk_rd I.hok e
 refine call_len_dict hd dd (by rw [← rel.length]; rw [sizeLine_eq] at z; omega) ?_
 rw [← rel.length]
 exact h _ _ (I.tok _)
end
theorem dict_typeIs {X:Cx} {pins:List (Addr × Obj)} {σ:St} {H:Hp} {s:Shared} {a:Addr} {y:V} {o:Option V} (I:Inv X pins σ H s) (g:DGet H a y o):s.TypeIs (.ref a) "dict":=by
 rcases g with ⟨kvs,k,e,_,_⟩ | ⟨kvs,k,b,e,_,_,_⟩
 ·obtain ⟨_,_,vs,_,dd⟩:=dk_rd I.hok e
  exact dd.typeIs
 ·obtain ⟨_,_,xs,_,dd⟩:=dt_rd I.hok e
  exact dd.typeIs
section
variable {X:Cx} {o i e value:Expr} {pos pos' tpos:Pos} {td ty tv:TE}
end
theorem dk_empty {P:Program} {w:World} {H:Hp} (h:Heap) (hb:sysModules < h.objs.size):ObjOk P w H (h.push { cls:=.type "dict",data:=.dict #[] }) h.objs.size (.dK []):=
 ⟨Nat.zero_le _,beq_eq_false_iff_ne.mpr (Ne.symm (Nat.ne_of_lt hb)),[],.nil,Heap.DictOf.new h⟩
def tDNewK:TE:=fun _ H Q=>∀ p,H p=none→Q (.ref p) (upd H p (.dK []))
section
variable {X:Cx} {pos:Pos}
theorem pe_dnewK:PE X (.Dict [] [] pos) tDNewK:=fun pins s σ H Q I h=>
 wpAny_Dict_empty ⟨.ref s.heap.objs.size,_,I.laid (a:=s.heap.objs.size) (o:=.dK []) (t':=s.toks) (fun _ _ q=>Heap.get?_push_of_some _ q) (Nat.le_refl _) (dk_empty s.heap I.big),rfl,h _ (I.hok.fresh (Nat.le_refl _))⟩
end
def tPairs:List (TE × TE)→St→Hp→(List (V × V)→Hp→Prop)→Prop
 | [],_,H,Q=>Q [] H
 | (tk,tv) :: r,σ,H,Q=>tk σ H fun x H1=>tv σ H1 fun y H2=>tPairs r σ H2 fun ps H3=>Q ((x,y) :: ps) H3
abbrev VV:List (V × V)→List (Value × Value)→Prop:=Paired fun p q=>RelV p.1 q.1∧RelV p.2 q.2
def PPs (X:Cx) (pos:Pos) (keys:List (Option Expr)) (values:List Expr) (trs:List (TE × TE)):Prop:=
 ∀ (pins:List (Addr × Obj)) (s:Shared) (σ:St) (H:Hp) (Q:List (V × V)→Hp→Prop),Inv X pins σ H s→tPairs trs σ H Q→
  wpAny (model X.prog X.w) X.A (evalPairs (pairTrees keys values X.env pos)) (fun vs s'=>∃ ps H',Inv X pins σ H' s'∧VV ps vs∧Q ps H') X.xe s
theorem pps_nil {X:Cx} {pos:Pos}:PPs X pos [] [] []:=fun pins s σ H Q I h=>pairTrees_nil_walk ⟨[],H,I,.nil,h⟩
theorem pps_cons {X:Cx} {pos:Pos} {k v:Expr} {ks:List (Option Expr)} {vs:List Expr} {tk tv:TE} {trs:List (TE × TE)} (hk:PE X k tk) (hv:PE X v tv) (hr:PPs X pos ks vs trs):
  PPs X pos (some k :: ks) (v :: vs) ((tk,tv) :: trs):=fun pins s σ H Q I h=>
 pairTrees_cons_walk (thn (hk pins s σ H _ I h) fun u s1 zq=>ex5 zq fun x H1 I1 rx q1=>thn (hv pins s1 σ H1 _ I1 q1) fun w2 s2 zq=>ex5 zq fun y H2 I2 ry q2=>
  thn (hr pins s2 σ H2 _ I2 q2) fun ws s3 zq=>ex5 zq fun ps H3 I3 rel q3=>⟨(x,y) :: ps,H3,I3,.cons ⟨rx,ry⟩ rel,q3⟩)
def mergeK (kvs more:List (Key × V)):List (Key × V):=more.foldl (fun acc kv=>putK acc kv.1 kv.2) kvs
theorem KV.merge:∀ {more:List (Key × V)} {rs:List (Key × Value)} {kvs:List (Key × V)} {vs:List (Key × Value)},KV more rs→KV kvs vs→KV (mergeK kvs more) (merged vs rs):=by
 intro more rs kvs vs r
 unfold KV at r
 induction r generalizing kvs vs with
 | nil=>intro q; exact q
 | @cons p q ps qs h t ih=>
  intro r0
  have e:KV (putK kvs p.1 p.2) (stored vs q.1 q.2):=by
   have:=r0.put p.1 h.2
   rw [← h.1]; exact this
  exact ih e
theorem length_mergeK:∀ (more kvs:List (Key × V)),(mergeK kvs more).length≤kvs.length + more.length
 | [],kvs=>by show kvs.length≤kvs.length + 0; omega
 | p :: r,kvs=>by
  have h1:=length_mergeK r (putK kvs p.1 p.2)
  have h2:=length_putK kvs p.1 p.2
  show (mergeK (putK kvs p.1 p.2) r).length≤_
  rw [List.length_cons]; omega
theorem carries_of {P:Program} {w:World}:∀ {kvs:List (Key × V)} {ws:List (Value × Value)},VV (kvs.map fun kv=>(kV kv.1,kv.2)) ws→∃ rs,Carries (mixKind P w) ws rs∧KV kvs rs
 | [],_,r=>by rw [List.map_nil] at r; cases r; exact ⟨[],True.intro,.nil⟩
 | p :: kvs,_,r=>by
  rw [List.map_cons] at r
  cases r with
  | @cons a b as bs h t=>
   obtain ⟨rs,c,q⟩:=carries_of (P:=P) (w:=w) t
   obtain ⟨b1,b2⟩:=b
   exact ⟨(p.1,b2) :: rs,⟨kV_is h.1,rfl,c⟩,.cons ⟨rfl,h.2⟩ q⟩
def tDisp (trs:List (TE × TE)):TE:=fun σ H Q=>∀ p,H p=none→tPairs trs σ (upd H p (.dK [])) fun ps H2=>H2 p=some (.dK [])∧∃ kvs:List (Key × V),ps=kvs.map (fun kv=>(kV kv.1,kv.2))∧kvs.length≤15∧Q (.ref p) (upd H2 p (.dK (mergeK [] kvs)))
theorem pe_disp {X:Cx} {pos:Pos} {keys:List (Option Expr)} {values:List Expr} {trs:List (TE × TE)} (h:PPs X pos keys values trs) (hall:keys.all (·.isSome)=true) (hl:keys.length=values.length) (h0:keys ≠ [])
  (h15:keys.length≤15):PE X (.Dict keys values pos) (tDisp trs):=by
 intro pins s σ H Q I q
 have hn:=I.hok.fresh (Nat.le_refl s.heap.objs.size)
 have I1:=I.laid (a:=s.heap.objs.size) (o:=.dK []) (h':=s.heap.push { cls:=.type "dict",data:=.dict #[] }) (t':=s.toks) (fun _ _ q=>Heap.get?_push_of_some _ q) (Nat.le_refl _) (dk_empty s.heap I.big)
 refine wpAny_Dict_walk (knd:=mixKind X.prog X.w) hall hl h0 h15 (thn (h pins _ σ _ _ I1 (q _ hn)) fun ws s2 zq=>?_)
 obtain ⟨ps,H2,I2,rel,e,kvs,ep,lk,q2⟩:=zq
 subst ep
 obtain ⟨rs,c,rk⟩:=carries_of (P:=X.prog) (w:=X.w) rel
 obtain ⟨z,hd,vs0,r0,dd⟩:=dk_of I2.hok e
 cases r0
 refine ⟨rs,c,dd,fun h' dd' hs=>⟨.ref s.heap.objs.size,_,?_,rfl,q2⟩⟩
 have hz:(mergeK [] kvs).length≤sizeLine:=by
  have h1:=length_mergeK kvs []
  rw [List.length_nil] at h1
  rw [sizeLine_eq]; omega
 have he:∃ q,h'.get? s.heap.objs.size=some q:=let ⟨q,_,_,hq,_⟩:=dd'; ⟨q,hq⟩
 exact d_write I2 (by rw [e]; exact True.intro) hs he (dk_new hz hd (rk.merge .nil) dd')
structure M2 (X:Cx) (o:Expr) (m:Str) (apos:Pos) (e f:Expr) (cpos:Pos):Prop where
 base:attributeBase o m X.env (eval o X.env)=eval o X.env
 few:((backTo cpos (starEach [e,f] X.env)).all (fun x=>!x.1) && (backToKw cpos (keywordEach [] X.env)).all (fun x=>x.1.isSome)
  && decide (([e,f]:List Expr).length + ([]:List Keyword).length + (if ([]:List Keyword).isEmpty then 0 else 1) < 30))=true
 line:(apos.endLine == cpos.line)=true
 trees:backTo cpos (starEach [e,f] X.env)=[(false,eval e X.env),(false,eval f X.env)]
def IsD (H:Hp) (a:Addr):Prop:=(∃ kvs,Rd H a (.dK kvs)) ∨ ∃ kvs,Rd H a (.dT kvs)
theorem isD_at {X:Cx} {pins:List (Addr × Obj)} {σ:St} {H:Hp} {s:Shared} {a:Addr} (I:Inv X pins σ H s) (d:IsD H a):
  s.TypeIs (.ref a) "dict"∧(∀ b,Value.ref a=.ref b→∃ ob,s.heap.get? b=some ob∧ob.dict=none)∧(a == sysModules)=false:=by
 rcases d with ⟨kvs,e⟩ | ⟨kvs,e⟩
 ·obtain ⟨_,hd,vs,_,dd⟩:=dk_rd I.hok e
  refine ⟨dd.typeIs,fun b q=>?_,hd⟩
  cases q
  obtain ⟨ob,_,_,h1,h2,_⟩:=dd
  exact ⟨ob,h1,h2.2.1⟩
 ·obtain ⟨_,hd,xs,_,dd⟩:=dt_rd I.hok e
  refine ⟨dd.typeIs,fun b q=>?_,hd⟩
  cases q
  obtain ⟨ob,_,_,h1,h2,_⟩:=dd
  exact ⟨ob,h1,h2.2.1⟩
section
variable {X:Cx} {pins:List (Addr × Obj)} {σ:St} {H:Hp} {s:Shared} {a:Addr} {y d:V} {u r:Value} {o:Option V} {A:Around} {E:Value→Shared→Prop}
theorem d_get2 {Q:Value→Shared→Prop} (hu:A.units + 1 < cLine) (I:Inv X pins σ H s) (g:DGet H a y o) (ry:RelV y u) (rd:RelV d r) (h:∀ w' s',Inv X pins σ H s'→RelV (o.getD d) w'→Q w' s'):
  wpAny (model X.prog X.w) A (call (.builtin "dict.get") [.ref a,u,r]) Q E s:=by
 rcases g with ⟨kvs,k,e,ey,l⟩ | ⟨kvs,k,b,e,ey,eb,l⟩
 ·subst ey
  obtain ⟨z,hd,vs,rel,dd⟩:=dk_rd I.hok e
  refine call_meetsIn PySem.F.slot_dict_get dd.typeIs PySem.F.entry_dict_get (PySem.F.args_dict_get_3 _ _ _) (meets_dict_get_default (mixKind X.prog X.w) a (kV_is ry) hd r) ⟨_,dd.mapOf,h _ _ (I.tok _) ?_⟩
  rw [l]
  exact (rel.val k).getD rd
 ·subst ey
  cases (show u=Value.ref b from ry)
  obtain ⟨z,hd,xs,rel,dd⟩:=dt_rd I.hok e
  refine call_meetsIn PySem.F.slot_dict_get dd.typeIs PySem.F.entry_dict_get (PySem.F.args_dict_get_3 _ _ _) (meetsH_dict_get_default (tupleKind (mixKind X.prog X.w)) a b hd r) ⟨tupleKind_room_in1 hu,k,xs,key_of I.hok eb,dd,h _ _ (I.tok _) ?_⟩
  rw [l]
  exact (rel.val k).getD rd
end
def tDGet2 (td ty tx:TE):TE:=fun σ H Q=>td σ H fun x H1=>∃ a,x=.ref a∧IsD H1 a∧ty σ H1 fun y H2=>tx σ H2 fun z H3=>∃ o,DGet H3 a y o∧Q (o.getD z) H3
section
variable {X:Cx} {o e f:Expr} {apos cpos:Pos} {td ty tx:TE}
theorem pe_dget2 (hu:X.A.units + 1 < cLine) (ho:PE X o td) (he:PE X e ty) (hf:PE X f tx) (m:M2 X o "get" apos e f cpos):PE X (.Call (.Attribute o "get" apos) [e,f] [] cpos) (tDGet2 td ty tx):=by
 intro pins s σ H Q I h
 refine wpAny_Call_method m.base m.few m.line PySem.F.plainAttrs_dict PySem.F.slot_dict_get PySem.F.type_dict_get (thn (ho pins s σ H _ I h) fun u s1 zq=>?_)
 obtain ⟨x,H1,I1,rx,a,ex,d,q1⟩:=zq
 subst ex
 obtain rfl:u=Value.ref a:=rx
 obtain ⟨t1,t2,_⟩:=isD_at I1 d
 refine ⟨t1,t2,?_⟩
 rw [m.trees]
 refine Calls.callWith_builtin rfl (Calls.evalArgs_plain (Calls.spliced_cons (thn (he pins s1 σ H1 _ I1 q1) fun iv s2 zq=>ex5 zq fun y H2 I2 ry q2=>
  Calls.spliced_cons (thn (hf pins s2 σ H2 _ I2 q2) fun fv s3 ⟨z,H3,I3,rz,ov,g,q3⟩=>Calls.spliced_nil ?_))))
 exact d_get2 hu I3 g ry rz fun w' s4 I4 rw'=>⟨_,H3,I4,rw',q3⟩
end
section
variable {X:Cx} {pins:List (Addr × Obj)} {σ:St} {H:Hp} {s:Shared} {a:Addr} {kvs:List (Key × V)} {A:Around} {E:Value→Shared→Prop}
end
section
variable {X:Cx} {pins:List (Addr × Obj)} {σ:St} {H:Hp} {s:Shared} {a:Addr} {y:V} {u:Value} {A:Around} {E:Value→Shared→Prop}
end
end L2
namespace Att
open PySem PySem.W PySem.Calls PyProof.Rows
theorem ints_of_wellAll {P:Params} {h:Heap}:∀ (ns:List Int) (vs:List Value),WellAll P h vs (ns.map WData.int)→IntsAre vs ns:=by
 intro ns
 induction ns with
 | nil=>
  intro vs w
  rw [List.map_nil] at w
  cases w
  exact .nil
 | cons n ns ih=>
  intro vs w
  rw [List.map_cons] at w
  cases w with
  | cons a b=>
   cases a
   exact .cons _ _ (ih _ b)
theorem script_of {l:OpenLaw} {n:Nat} (hn:l.most=some n) {P:Params} {h:Heap} {args:List WData} {vals:List Value}
  (hpre:l.row.toRowW.claim.pre args=true) (hwl:WellAll P h vals args):
  ∃ a vs ns,vals=[Value.ref a]∧args=[WData.list (ns.map WData.int)]∧h.get? a=some { cls:=.type "list",data:=.seq vs.toArray }∧IntsAre vs ns∧ns.length≤n:=by
 have hsh:WShape.hasAll [] args [.list .int]=true:=(pre_splitW hpre).1
 have hc:l.pre.holds [] { args:=args }=true:=(pre_splitW hpre).2
 obtain ⟨d,r,rfl,h1,h2⟩:=hasAllW_cons hsh
 obtain rfl:=hasAllW_nil h2
 obtain ⟨xs,rfl,h3⟩:=hasW_list h1
 obtain ⟨ns,rfl⟩:=items_int h3
 have hlen:ns.length≤n:=by
  unfold OpenLaw.pre at hc
  have h4:(WTm.not (.lt (.lit (.int (n:Int))) (.len (.arg 0)))).holds [] { args:=[.list (ns.map .int)] }=true:=by
   have h4:=(holds_andW hc).1
   rw [hn] at h4
   exact h4
  have h5:=condW_of h4 (w_not (w_lt w_lit (w_len_list (w_arg rfl))))
  rw [List.length_map] at h5
  refine Nat.le_of_not_lt fun q=>?_
  have q':(n:Int) < ((ns.length:Nat):Int):=by omega
  first
   | (rw [decide_eq_true q'] at h5; exact absurd h5 (by decide))
   | (simp at h5; omega)
 cases hwl with
 | cons w1 w2=>
  cases w2
  cases w1 with
  | list ho hall=>exact ⟨_,_,ns,rfl,rfl,ho,ints_of_wellAll ns _ hall,hlen⟩
theorem post_true (l:OpenLaw) (args:List WData):l.row.toRowW.claim.post args (.bool true) args=true:=
 postW_of (r:=l.row.toRowW) (X:=(true == true))
  (show WShape.has [] (.bool true) .bool=true by first | rfl | decide | simp [WShape.has,WShape.arms,WShape.armsAll])
  (show (WTm.eq .res (.lit (.bool true))).value [] { args:=args,res:=some (.bool true),after:=args }=some (.bool (true == true)) from w_eq_bool (w_res rfl) w_lit) rfl
theorem attach_call {l:OpenLaw} {n:Nat} {q:Program} {loose:List Str} {XP:(Str→Option Value)→Heap→Prop} {YP:World→Heap→Prop} {d:DefRec}
  (hn:l.most=some n) (hdf:d.params.defaults=[])
  (call:∀ (w:World) (s₀ s₁:Shared) (mg mb:Str→Option Value) (fa:Addr) (o:Obj) (pm cd doc:Value) (a:Addr) (vs:List Value) (ns:List Int),
   Ground q loose [] XP w s₀ mg mb s₁.heap→YP w s₁.heap→
   s₁.heap.get? fa=some o→o.data=.func (docDef d.name d.params d.body d.scope pm cd doc)→s₁.heap.CodeRec cd d.name→mg d.name=some (.ref fa)→
   s₁.heap.get? a=some { cls:=.type "list",data:=.seq vs.toArray }→IntsAre vs ns→ns.length≤n→s₁.gens = #[]→
   codeAny (model l.prog w) callerA (.call (.ref fa) ⟨[.ref a],[]⟩) (fun r s'=>r=.ok (.ret (.bool true))∧OldK s₁.heap s'.heap∧s'.os=s₁.os∧AllBare s'.gens) s₁):
  WalkO q loose XP YP l.row.toRowW d [] (fun f vs=>PySem.call f vs):=by
 intro w s₀ s₁ mg mb G Y fa o pm cd doc dV kV ho hd hcd hD hmg hg args vals as hpre hlay hrd hwl hlo
 obtain rfl:dV=.none:=Dflts.none hD hdf
 obtain rfl:kV=.none:=Dflts.noKw hD
 obtain ⟨a,vs,ns,rfl,rfl,hobj,hints,hlen⟩:=script_of hn hpre hwl
 refine enter_call (codeAny_mono (call w s₀ s₁ mg mb fa o pm cd doc a vs ns G Y ho (fd_plain hd) hcd hmg hobj hints hlen hg) fun r s' hq=>?_)
 obtain ⟨rfl,h2,h3,h4⟩:=hq
 exact ⟨.inl ⟨.bool true,.bool true,[],rfl,fun _=>rfl,.bool true,post_true l _,fun _=>⟨List.Pairwise.nil,fun _ hm=>(nomatch hm)⟩⟩,h2,h3,h4⟩
section
variable {prog:Program} {w:World} {A:Around} {E:Value→Shared→Prop} {s:Shared} {K:Frag}
end
end Att
namespace L2
open PySem PySem.Spec PyProof.Rows
theorem vals_ints:∀ {vs:List Value} {ns:List Int},IntsAre vs ns→Vals (ns.map V.int) vs
 | _,_,.nil=>.nil
 | _,_,.cons n t h=>.cons ⟨t,rfl⟩ (vals_ints h)
def Only (H:Hp):Prop:=∀ b,H b=none ∨ ∃ o xs,H b=some (.frz o (.lst xs))
theorem law_call {P:Program} {w:World} {K:PySem.W.Frag} {mg mb:Str→Option Value} {CX:CXT} {k:Nat} {fa a:Addr} {fd:FuncData} {x:Str} {sp:Sp} {s₁:Shared} {vs:List Value} {ns:List Int}
  (KX:K.In s₁.heap) (hns:s₁.heap.Ns mainGlobals mg) (hb:s₁.heap.Ns builtinsNs mb) (hbb:∀ x:Str,x ≠ "__name__"→mb x=bootBuiltins x) (hlim:s₁.heap.NoLimit) (hg:s₁.gens = #[])
  (ha:s₁.heap.get? a=some { cls:=.type "list",data:=.seq vs.toArray }) (hi:IntsAre vs ns) (hl:ns.length≤sizeLine) (hr:Room k callerA)
  (F:∀ base:Heap,K.In base→base.Ns mainGlobals mg→FnOk P w K mg base CX k fa fd [x] sp) (hbind:∀ (s:Shared) (u:Value),BindsTo s fd ⟨[u],[]⟩ [(x,u)])
  (hsp:∀ H:Hp,Only H→SqL K H a (ns.map V.int)→sp [.ref a] H (fun v _=>v=.bl true) fun _ _ _=>False)
  (hCX:∀ H e s',CX [] H s₁ (fun _ _ _=>False) e s'→False):
  codeAny (model P w) callerA (.call (.ref fa) ⟨[.ref a],[]⟩) (fun r s'=>r=.ok (.ret (.bool true))∧OldK s₁.heap s'.heap∧s'.os=s₁.os∧AllBare s'.gens) s₁:=by
 have rv:=vals_ints hi
 have lenV:=hi.length
 -- from an abstract heap in which nothing but the script may be tracked
 have core:∀ H:Hp,Only H→SqL K H a (ns.map V.int)→HOk P w H s₁.heap→(∀ b,H b ≠ none→b=a)→(H a ≠ none→K.lookup a=none)→
   codeAny (model P w) callerA (.call (.ref fa) ⟨[.ref a],[]⟩) (fun r s'=>r=.ok (.ret (.bool true))∧OldK s₁.heap s'.heap∧s'.os=s₁.os∧AllBare s'.gens) s₁:=by
  intro H hO hS hok hA hK
  have base_of:∀ {b:Addr} {o:Obj},s₁.heap.get? b=some o→H b=none→(hidT s₁.heap H).get? b=some o:=fun e n=>hidT_get e n
  have noA:∀ {b:Addr} {o:Obj} {es:Array DictEntry} {ep:Nat},s₁.heap.get? b=some o→o.data=.dict es ep→H b=none:=fun {b o es ep} e d=>by
   cases q:H b with
   | none=>rfl
   | some u=>
    have e':b=a:=hA b (by rw [q]; simp)
    subst e'
    rw [ha] at e; cases e
    have d':Data.seq vs.toArray _=Data.dict es ep:=d
    cases d'
  have nsK:∀ {b:Addr} {m:Str→Option Value},s₁.heap.Ns b m→(hidT s₁.heap H).Ns b m:=fun {b m} ⟨o,es,ep,e,d,r⟩=>⟨o,es,ep,base_of e (noA e d),d,r⟩
  have hKb:K.In (hidT s₁.heap H):=fun b o e=>base_of (KX b o e) (by
   cases q:H b with
   | none=>rfl
   | some u=>
    have e':b=a:=hA b (by rw [q]; simp)
    subst e'
    rw [hK (by rw [q]; simp)] at e; cases e)
  have hM:Mod K mg (hidT s₁.heap H):=⟨hKb,nsK hns,⟨mb,nsK hb,hbb⟩,let ⟨mc,h1,h2⟩:=hlim; ⟨mc,nsK h1,h2⟩⟩
  have e0:Env0 P w K mg (hidT s₁.heap H) callerA [] s₁ H:=⟨rfl,hM,fun b o e=>of_hidT e,Nat.le_of_eq (hidT_size _ _),trivial,fun b hb=>absurd (show b ∈ ([]:List Addr) from hb) (by simp),hok,.of_eq hg⟩
  refine codeAny_mono ((F _ hKb (nsK hns)).run callerA [] s₁ H ⟨[.ref a],[]⟩ [.ref a] [.ref a] _ _ hr e0 (hbind s₁ (.ref a)) (.cons rfl .nil) (hsp H hO hS)) fun r s' h=>?_
  cases r with
  | error e=>exact (hCX H e s' h).elim
  | ok fl=>
   cases fl with
   | next=>exact False.elim h
   | brk=>exact False.elim h
   | cont=>exact False.elim h
   | ret u=>
    obtain ⟨v,H',os,bare,un,hok',r',q⟩:=h
    have q':v=.bl true:=q
    subst q'
    obtain rfl:u=Value.bool true:=r'
    refine ⟨rfl,OldK.of_keep fun b o e=>?_,os,bare⟩
    cases q:H b with
    | none=>exact un.keep b o e q (by intro z; exact absurd (show b ∈ ([]:List Addr) from z) (by simp)) (by simp)
    | some u=>
     rcases hO b with z | ⟨ob,xs,z⟩
     ·rw [q] at z; cases z
     ·have z2:=un.frzs b ob _ z
      obtain ⟨e1,_⟩:=hok b _ z
      obtain ⟨e2,_⟩:=hok' b _ z2
      rw [e] at e1; cases e1
      exact e2
 cases hk:K.lookup a with
 | some o=>
  -- the script is one of the module's own objects
  have e:=KX a o hk
  rw [ha] at e
  cases e
  refine core (fun _=>none) (fun _=>.inl rfl) (.inr ⟨_,vs.toArray,_,hk,rfl,rfl,rfl,by rw [List.size_toArray,lenV]; exact hl,by simpa using rv⟩) (fun b u z=>by have z':(none:Option HO)=some u:=z; cases z') (fun b z=>absurd rfl z) fun z=>absurd rfl z
 | none=>
  refine core (fun b=>if b=a then some (.frz { cls:=.type "list",data:=.seq vs.toArray } (.lst (ns.map V.int))) else none) (fun b=>?_) (.inl (.inr ⟨{ cls:=.type "list",data:=.seq vs.toArray },if_pos rfl⟩)) (fun b u z=>?_) (fun b z=>?_) fun _=>hk
  ·by_cases hb:b=a
   ·exact .inr ⟨_,_,if_pos hb⟩
   ·exact .inl (if_neg hb)
  ·by_cases hb:b=a
   ·have z':=(if_pos hb).symm.trans z
    cases z'
    subst hb
    exact ⟨ha,by rw [List.length_map]; exact hl,vs,_,rv,ha⟩
   ·have z':=(if_neg hb).symm.trans z
    cases z'
  ·by_cases hb:b=a
   ·exact hb
   ·exact absurd (if_neg hb) z
end L2
namespace L2
open PySem PySem.Spec PyProof.Rows
theorem walk_of {l:PySem.W.OpenLaw} {n k:Nat} {q:Program} {loose:List Str} {XP:(Str→Option Value)→Heap→Prop} {YP:World→Heap→Prop} {d:DefRec} {K:Params→PySem.W.Frag} {CX:World→CXT} {sp:World→Sp} {x:Str}
  (hn:l.most=some n) (hn2:n≤sizeLine) (hdf:d.params.defaults=[]) (hr:Room k callerA)
  (hY:∀ (w:World) (h:Heap),YP w h→(K w.params).In h)
  (F:∀ (w:World) (mg:Str→Option Value) (fa:Addr) (h:Heap),(K w.params).In h→h.Ns mainGlobals mg→mg d.name=some (.ref fa)→
   ∃ fd:FuncData,(∀ (s:Shared) (u:Value),BindsTo s fd ⟨[u],[]⟩ [(x,u)])∧
    ∀ base:Heap,(K w.params).In base→base.Ns mainGlobals mg→FnOk l.prog w (K w.params) mg base (CX w) k fa fd [x] (sp w))
  (hsp:∀ (w:World) (H:Hp) (a:Addr) (ns:List Int),ns.length≤n→Only H→SqL (K w.params) H a (ns.map V.int)→sp w [.ref a] H (fun v _=>v=.bl true) fun _ _ _=>False)
  (hCX:∀ (w:World) (H:Hp) (s:Shared) (e:Value) (s':Shared),CX w [] H s (fun _ _ _=>False) e s'→False):
  PySem.W.WalkO q loose XP YP l.row.toRowW d [] (fun f vs=>PySem.call f vs):=by
 refine Att.attach_call hn hdf fun w s₀ s₁ mg mb fa o pm cd doc a vs ns G Y ho hd hcd hmg hobj hints hlen hg=>?_
 have KX:=hY w _ Y
 obtain ⟨fd,hb,hF⟩:=F w mg fa _ KX G.T.g hmg
 exact law_call KX G.T.g G.T.b G.T.builtins G.T.nolimit hg hobj hints (Nat.le_trans hlen hn2) hr hF hb (fun H hO hS=>hsp w H a ns hlen hO hS) fun H e s'=>hCX w H s₁ e s'
end L2
namespace L2
open PySem PySem.Spec PyProof.Rows
def defArgs (s:Stmt):Arguments:=match s with
 | .FunctionDef _ a _ _ _ _ _ _ _ _=>a
 | _=>{ posonlyargs:=[],args:=[],vararg:=none,kwonlyargs:=[],kw_defaults:=[],kwarg:=none,defaults:=[] }
def defBody (s:Stmt):List Stmt:=match s with
 | .FunctionDef _ _ b _ _ _ _ _ _ _=>b
 | _=>[]
def defScope (s:Stmt):Scope:=match s with
 | .FunctionDef _ _ _ _ _ _ sc _ _ _=>sc
 | _=>{ kind:=.function,names:=[],isGenerator:=false,isCoroutine:=false }
abbrev CX0:CXT:=fun _ _ _ _ _ _=>False
abbrev E0:XK:=fun _ _ _=>False
structure Fun (K:PySem.W.Frag) (x qual:Str) (st:Stmt) (f:Addr) (fd:FuncData):Prop where
 ex:∃ (oc:Value) (od:Option Addr) (kV doc pm:Value) (an:Option Addr) (cdv ct:Value) (osl:Array (Option Value)),
  fd=PySem.W.fnOf x qual (defArgs st) (defBody st) (defScope st) .none kV doc pm an cdv ct∧K.lookup f=some ⟨oc,od,.func fd,osl⟩∧PySem.W.codeIn K cdv qual=true
 kp:PySem.W.keepIn K (.ref f)=true
section
variable {P:Program} {w:World} {K:PySem.W.Frag} {mg:Str→Option Value} {base:Heap}
theorem Fun.binds {x qual:Str} {st:Stmt} {f:Addr} {fd:FuncData} {ps:List Str} (F:Fun K x qual st f fd)
  (h:∀ (kV doc pm:Value) (an:Option Addr) (cdv ct:Value) (us:List Value),us.length=ps.length→bindArgs (PySem.W.fnOf x qual (defArgs st) (defBody st) (defScope st) .none kV doc pm an cdv ct) ⟨us,[]⟩=pure (ps.zip us)):Binds K fd ps []:=by
 obtain ⟨oc,od,kV,doc,pm,an,cdv,ct,osl,rfl,lk,hcd⟩:=F.ex
 exact .all (h kV doc pm an cdv ct)
theorem fun_mk {x qual:Str} {st:Stmt} {f:Addr} {oc:Value} {od an:Option Addr} {osl:Array (Option Value)} {kV doc pm cdv ct:Value} (l:K.lookup f=some ⟨oc,od,.func (PySem.W.fnOf x qual (defArgs st) (defBody st) (defScope st) .none kV doc pm an cdv ct),osl⟩)
  (c:PySem.W.codeIn K cdv qual=true) (k:PySem.W.keepIn K (.ref f)=true):Fun K x qual st f (PySem.W.fnOf x qual (defArgs st) (defBody st) (defScope st) .none kV doc pm an cdv ct):=⟨⟨oc,od,kV,doc,pm,an,cdv,ct,osl,rfl,l,c⟩,k⟩
end
section
variable {X:Cx}
theorem pv (i:Nat) {x:Str} {pos:Pos} (hN:autoParam (X.N[i]?=some x) Au.h1._auto_1) (hv:Vis X.env.scope x) (hd:autoParam ((x == ("__debug__":Str))=false) Au.h2._auto_1)
  (hcd:autoParam ((x == ("__classdict__":Str))=false) Au.h2._auto_1):PE X (.Name x pos) (tVar i):=pe_var hN hv hd hcd
end
theorem iteF {A B:Prop} (h:B):if false=true then A else B:=by
 rw [if_neg Bool.false_ne_true]
 exact h
theorem iteT {A B:Prop} (h:A):if true=true then A else B:=by
 rw [if_pos rfl]
 exact h
end L2
namespace L2
open PySem PySem.Spec PyProof.Rows
section
variable {X:Cx}
theorem call_lenD:CallR X (.builtin "len") (fun xs H Q=>∃ a kvs,xs=[V.ref a]∧H a=some (.dK kvs)∧Q (.int kvs.length) H):=by
 intro pins s σ H xs us Q I r h
 obtain ⟨a,kvs,rfl,ha,q⟩:=h
 obtain ⟨u,rfl,ru⟩:=vals1 r
 cases ru
 exact d_len I (.inl ha) fun t s' I'=>⟨.int kvs.length,H,I',⟨t,rfl⟩,q⟩
end
section
variable {κ:Type} [DecidableEq κ]
end
end L2
end
set_option autoImplicit false
namespace PD
open PySem
inductive D where
 | non | bl (b:Bool) | int (i:Int) | str (x:Str)
 | tup (xs:List D) | lst (xs:List D) | fz (xs:List D) | dic (kvs:List (Sum Int Str × D)) | ref (n:Nat) | ty (n:String)
 /-- a caught exception of an own class; an own class -/
 | exc (c:Str) | cls (c:Str)
 deriving Inhabited
inductive SO where
 | lst (xs:List D) | dic (kvs:List (Sum Int Str × D)) | ins (c:Str) (fs:List (Str × D))
 /-- a dict that has been walked: read,changed no more -/
 | fdic (kvs:List (Sum Int Str × D))
 /-- a list that has been walked: read,changed no more -/
 | flst (xs:List D)
 deriving Inhabited
abbrev Sto:=List SO
set_option genInjectivity false in
structure XD where
 cls:Str
 arg:D
 deriving Inhabited
inductive R (A:Type) where
 | ok (a:A) (S:Sto) | err (x:XD) (S:Sto) | bad
def R.bind {A B:Type} (r:R A) (f:A→Sto→R B):R B:=match r with
 | .ok a S=>f a S | .err x S=>.err x S | .bad=>.bad
theorem R.bind_ok {A B:Type} (a:A) (S:Sto) (f:A→Sto→R B):(R.ok a S).bind f=f a S:=rfl
theorem R.bind_err {A B:Type} (x:XD) (S:Sto) (f:A→Sto→R B):(R.err (A:=A) x S).bind f=.err x S:=rfl
theorem R.bind_bad {A B:Type} (f:A→Sto→R B):(R.bad (A:=A)).bind f=.bad:=rfl
def R.of {A:Type} (S:Sto):Option A→R A
 | some a=>.ok a S | none=>.bad
theorem R.of_some {A:Type} (S:Sto) (a:A):R.of S (some a)=.ok a S:=rfl
abbrev Rho:=List (Option D)
abbrev EM:=Rho→Sto→R D
abbrev TM:=Rho→Sto→R Bool
abbrev AM:=Rho→Sto→R (List D)
set_option genInjectivity false in
inductive F where
 | nx (r:Rho) | rt (d:D) | bk (r:Rho) | ct (r:Rho)
abbrev SM:=Rho→Sto→R F
abbrev FM:=List D→Sto→R D
def eVar (i:Nat):EM:=fun r S=>match r[i]? with
 | some (some d)=>.ok d S
 | _=>.bad
def eC (d:D):EM:=fun _ S=>.ok d S
def eUn (f:Sto→D→Option D) (a:EM):EM:=fun r S=>(a r S).bind fun x S1=>R.of S1 (f S1 x)
def eOp (f:Sto→D→D→Option D) (a b:EM):EM:=fun r S=>(a r S).bind fun x S1=>(b r S1).bind fun y S2=>R.of S2 (f S2 x y)
def eChain (f g:Sto→D→D→Option D) (a b c:EM):EM:=fun r S=>(a r S).bind fun x S1=>(b r S1).bind fun y S2=>match f S2 x y with
 | some (.bl true)=>(c r S2).bind fun z S3=>R.of S3 (g S3 y z)
 | some (.bl false)=>.ok (.bl false) S2
 | _=>.bad
def eAnd (a b:EM):EM:=fun r S=>(a r S).bind fun x S1=>match x with
 | .bl true=>b r S1
 | .bl false=>.ok (.bl false) S1
 | _=>.bad
def eOr (a b:EM):EM:=fun r S=>(a r S).bind fun x S1=>match x with
 | .bl true=>.ok (.bl true) S1
 | .bl false=>b r S1
 | _=>.bad
def eNot (a:EM):EM:=fun r S=>(a r S).bind fun x S1=>match x with
 | .bl b=>.ok (.bl (!b)) S1
 | _=>.bad
def eIf (t:TM) (a b:EM):EM:=fun r S=>(t r S).bind fun c S1=>if c=true then a r S1 else b r S1
def aNil:AM:=fun _ S=>.ok [] S
def aCons (a:EM) (t:AM):AM:=fun r S=>(a r S).bind fun x S1=>(t r S1).bind fun xs S2=>.ok (x :: xs) S2
def eTup (t:AM):EM:=fun r S=>(t r S).bind fun xs S1=>if xs.length≤sizeLine then .ok (.tup xs) S1 else .bad
def eLst (t:AM):EM:=fun r S=>(t r S).bind fun xs S1=>if xs.length≤sizeLine then .ok (.lst xs) S1 else .bad
def eNew (t:AM):EM:=fun r S=>(t r S).bind fun xs S1=>if xs.length≤sizeLine then .ok (.ref S1.length) (S1 ++ [.lst xs]) else .bad
def eCall (f:FM) (t:AM):EM:=fun r S=>(t r S).bind fun xs S1=>f xs S1
def eB (f:Sto→List D→Option D) (t:AM):EM:=fun r S=>(t r S).bind fun xs S1=>R.of S1 (f S1 xs)
def eBN (f:Sto→List D→Option SO) (t:AM):EM:=fun r S=>(t r S).bind fun xs S1=>match f S1 xs with
 | some o=>.ok (.ref S1.length) (S1 ++ [o])
 | none=>.bad
def tV (a:EM):TM:=fun r S=>(a r S).bind fun x S1=>match x with
 | .bl b=>.ok b S1
 | _=>.bad
def tAnd (a b:TM):TM:=fun r S=>(a r S).bind fun c S1=>if c=true then b r S1 else .ok false S1
def tOr (a b:TM):TM:=fun r S=>(a r S).bind fun c S1=>if c=true then .ok true S1 else b r S1
def tNot (a:TM):TM:=fun r S=>(a r S).bind fun c S1=>.ok (!c) S1
def R.nx {A:Type}:R A→R A
 | .err _ _=>.bad
 | r=>r
def eNx (a:EM):EM:=fun r S=>(a r S).nx
def tNx (a:TM):TM:=fun r S=>(a r S).nx
def aNx (a:AM):AM:=fun r S=>(a r S).nx
def sSkip:SM:=fun r S=>.ok (.nx r) S
def sBad:SM:=fun _ _=>.bad
def sSeq (a b:SM):SM:=fun r S=>(a r S).bind fun f S1=>match f with
 | .nx r1=>b r1 S1
 | g=>.ok g S1
def sRet (a:EM):SM:=fun r S=>(a r S).bind fun x S1=>.ok (.rt x) S1
def sRetN:SM:=fun _ S=>.ok (.rt .non) S
def sDrop (a:EM):SM:=fun r S=>(a r S).bind fun _ S1=>.ok (.nx r) S1
def sIf (t:TM) (a b:SM):SM:=fun r S=>(t r S).bind fun c S1=>if c=true then a r S1 else b r S1
def sBreak:SM:=fun r S=>.ok (.bk r) S
def sCont:SM:=fun r S=>.ok (.ct r) S
set_option genInjectivity false in
inductive G where
 | nm (i:Nat) | tp (gs:List G)
mutual
def G.put:G→D→Rho→Option Rho
 | .nm i,d,r=>some (r.set i (some d))
 | .tp gs,d,r=>match d with
  | .tup xs=>G.puts gs xs r
  | _=>none
def G.puts:List G→List D→Rho→Option Rho
 | [],[],r=>some r
 | g :: gs,x :: xs,r=>match G.put g x r with
  | some r1=>G.puts gs xs r1
  | none=>none
 | _,_,_=>none
end
def sSet (i:Nat) (a:EM):SM:=fun r S=>(a r S).bind fun x S1=>.ok (.nx (r.set i (some x))) S1
def sAsg (g:G) (a:EM):SM:=fun r S=>(a r S).bind fun x S1=>match g.put x r with
 | some r1=>.ok (.nx r1) S1
 | none=>.bad
def sPar (i j:Nat) (t:AM):SM:=fun r S=>(t r S).bind fun xs S1=>match xs with
 | [x,y]=>.ok (.nx ((r.set i (some x)).set j (some y))) S1
 | _=>.bad
def sPut (f:Sto→D→D→D→Option Sto) (e o i:EM):SM:=fun r S=>(e r S).bind fun v S1=>(o r S1).bind fun x S2=>(i r S2).bind fun y S3=>match f S3 x y v with
 | some S4=>.ok (.nx r) S4
 | none=>.bad
def sMut (f:Sto→D→List D→Option Sto) (o:EM) (t:AM):SM:=fun r S=>(o r S).bind fun x S1=>(t r S1).bind fun ys S2=>match f S2 x ys with
 | some S3=>.ok (.nx r) S3
 | none=>.bad
def sNx (a:SM):SM:=fun r S=>(a r S).nx
def sRaise (c:Str) (t:AM):SM:=fun r S=>(t r S).bind fun xs S1=>if xs.length≤sizeLine then .err ⟨c,.tup xs⟩ S1 else .bad
def sTry (cs:List Str) (i n:Nat) (b h:SM):SM:=fun r S=>match b r S with
 | .err x S1=>if cs.contains x.cls=true then (h ((List.replicate n none).set i (some (.exc x.cls))) S1).nx.bind fun f S2=>match f with
   | .rt d=>.ok (.rt d) S2
   | _=>.bad
  else .bad
 | .ok f S1=>.ok f S1
 | .bad=>.bad
def forL (g:G) (b:SM):List D→SM
 | []=>fun r S=>.ok (.nx r) S
 | x :: xs=>fun r S=>match g.put x r with
  | none=>.bad
  | some r1=>(b r1 S).bind fun f S1=>match f with
   | .nx r2=>forL g b xs r2 S1
   | .ct r2=>forL g b xs r2 S1
   | .bk r2=>.ok (.nx r2) S1
   | .rt d=>.ok (.rt d) S1
def sFor (it:AM) (g:G) (b:SM):SM:=fun r S=>(it r S).bind fun xs S1=>forL g b xs r S1
def whileL (t:TM) (b:SM):Nat→SM
 | 0=>fun _ _=>.bad
 | n + 1=>fun r S=>(t r S).bind fun c S1=>if c=true then (b r S1).bind fun f S2=>match f with
   | .nx r2=>whileL t b n r2 S2
   | .ct r2=>whileL t b n r2 S2
   | .bk r2=>.ok (.nx r2) S2
   | .rt d=>.ok (.rt d) S2
  else .ok (.nx r) S1
def capOf (k:Nat) (caps:List Nat) (r:Rho):Rho:=List.replicate k none ++ caps.map fun i=>(r[i]?).join
def compL (g:G) (t:TM) (e:EM):List D→Rho→Sto→R (List D)
 | [],_,S=>.ok [] S
 | x :: xs,r,S=>match g.put x r with
  | none=>.bad
  | some r1=>(t r1 S).bind fun c S1=>if c=true then (e r1 S1).bind fun y S2=>(compL g t e xs r1 S2).bind fun ys S3=>.ok (y :: ys) S3
    else compL g t e xs r1 S1
def eComp (it:AM) (k:Nat) (caps:List Nat) (g:G) (t:TM) (e:EM):EM:=fun r S=>(it r S).bind fun xs S1=>
 if xs.length≤sizeLine then (compL g t e xs (capOf k caps r) S1).bind fun ys S2=>.ok (.lst ys) S2 else .bad
def tTrue:TM:=fun _ S=>.ok true S
def fnM (n:Nat) (b:SM):FM:=fun ds S=>(b (ds.map some ++ List.replicate (n - ds.length) none) S).bind fun f S1=>match f with
 | .rt d=>.ok d S1
 | .nx _=>.ok .non S1
 | _=>.bad
end PD
namespace PD
open PySem PySem.Spec PyProof.Rows L2
set_option genInjectivity false in
structure Wd where
 st:List Addr
 hid:List Addr
def Wd.no (w:Wd) (a:Addr):Prop:=a ∉ w.st∧a ∉ w.hid
def Wd.add (w:Wd) (p:Addr):Wd:=⟨w.st ++ [p],w.hid⟩
def Wd.hide (w:Wd) (p:Addr):Wd:=⟨w.st,p :: w.hid⟩
def At (w:Wd) (H:Hp) (a:Addr) (o:HO):Prop:=H a=some o∧w.no a
def KTup (K:PySem.W.Frag) (a:Addr) (vs:List V):Prop:=
 ∃ (o:Obj) (its:Array Value) (n:Nat),K.lookup a=some o∧o.cls=.type "tuple"∧o.data=.seq its n∧its.size≤sizeLine∧Vals vs its.toList
def KLst (K:PySem.W.Frag) (a:Addr) (vs:List V):Prop:=
 ∃ (o:Obj) (its:Array Value) (n:Nat),K.lookup a=some o∧o.cls=.type "list"∧o.dict=none∧o.data=.seq its n∧its.size≤sizeLine∧Vals vs its.toList
def FzAt (K:PySem.W.Frag) (w:Wd) (H:Hp) (a:Addr) (vs:List V):Prop:=(∃ o,At w H a (.frz o (.lst vs))) ∨ KLst K a vs
theorem FzAt.sq {K:PySem.W.Frag} {w:Wd} {H:Hp} {a:Addr} {vs:List V} (h:FzAt K w H a vs):SqL K H a vs:=h.elim (fun ⟨o,z⟩=>.inl (.inr ⟨o,z.1⟩)) .inr
def ExcAt (a:Addr) (C:Value):Heap→Prop:=fun h=>∃ o,h.get? a=some o∧o.cls=C
mutual
def RD (K:PySem.W.Frag) (w:Wd) (H:Hp):D→V→Prop
 | .non,v=>v=.non
 | .bl b,v=>v=.bl b
 | .int i,v=>v=.int i
 | .str x,v=>v=.str x
 | .tup ds,v=>∃ a vs,v=.ref a∧(At w H a (.tup vs) ∨ KTup K a vs)∧RDs K w H ds vs
 | .lst ds,v=>∃ a vs,v=.ref a∧At w H a (.lst vs)∧RDs K w H ds vs
 | .fz ds,v=>∃ a vs,v=.ref a∧FzAt K w H a vs∧RDs K w H ds vs
 | .dic kvs,v=>∃ a us,v=.ref a∧At w H a (.dK us)∧RDk K w H kvs us
 | .ref n,v=>∃ a,v=.ref a∧w.st[n]?=some a
 | .ty n,v=>v=.ty n
 | .exc c,v=>∃ a C,v=.ref a∧PySem.W.nsIn K mainGlobals c=some (some C)∧At w H a (.ext (ExcAt a C))
 | .cls c,v=>∃ C,PySem.W.nsIn K mainGlobals c=some (some (.ref C))∧v=.ref C
def RDs (K:PySem.W.Frag) (w:Wd) (H:Hp):List D→List V→Prop
 | [],vs=>vs=[]
 | d :: ds,vs=>∃ v r,vs=v :: r∧RD K w H d v∧RDs K w H ds r
def RDk (K:PySem.W.Frag) (w:Wd) (H:Hp):List (Sum Int Str × D)→List (Key × V)→Prop
 | [],us=>us=[]
 | (k,d) :: ds,us=>∃ v r,us=(k,v) :: r∧RD K w H d v∧RDk K w H ds r
end
structure Ext (w:Wd) (H:Hp) (w':Wd) (H':Hp):Prop where
 keep:∀ a o,H a=some o→a ∉ w.st→H' a=some o
 sub:∃ l,w'.st=w.st ++ l∧∀ a ∈ l,H a=none
 hid:∀ a,a ∈ w.hid→a ∈ w'.hid
 hnew:∀ a,a ∈ w'.hid→a ∈ w.hid ∨ H a=none
 frz:∀ a o u,H a=some (.frz o u)→H' a=some (.frz o u)
theorem Ext.refl (w:Wd) (H:Hp):Ext w H w H:=⟨fun _ _ h _=>h,⟨[],by simp,fun _ h=>nomatch h⟩,fun _ h=>h,fun _ h=>.inl h,fun _ _ _ h=>h⟩
theorem Ext.out {w w':Wd} {H H':Hp} (x:Ext w H w' H') {a:Addr} {o:HO} (h:H a=some o) (n:a ∉ w.st):a ∉ w'.st:=by
 obtain ⟨l,e,f⟩:=x.sub
 rw [e]
 intro z
 rcases List.mem_append.mp z with z | z
 ·exact n z
 ·rw [f a z] at h; cases h
theorem Ext.at {w w':Wd} {H H':Hp} (x:Ext w H w' H') {a:Addr} {o:HO} (h:At w H a o):At w' H' a o:=⟨x.keep a o h.1 h.2.1,x.out h.1 h.2.1,fun z=>(x.hnew a z).elim h.2.2 fun e=>by rw [h.1] at e; cases e⟩
theorem Ext.get {w w':Wd} {H H':Hp} (x:Ext w H w' H') {n:Nat} {a:Addr} (h:w.st[n]?=some a):w'.st[n]?=some a:=by
 obtain ⟨l,e,f⟩:=x.sub
 rw [e,List.getElem?_append_left (List.getElem?_eq_some_iff.mp h).1]
 exact h
theorem Ext.trans {w w1 w2:Wd} {H H1 H2:Hp} (x:Ext w H w1 H1) (y:Ext w1 H1 w2 H2) (fr:∀ a ∈ w.st,∃ o,H a=some o∧∃ o',H1 a=some o'):Ext w H w2 H2:=by
 have hno:∀ a,H1 a=none→H a=none:=fun a z=>by
  cases e:H a with
  | none=>rfl
  | some o=>
   by_cases hw:a ∈ w.st
   ·obtain ⟨_,_,o',e'⟩:=fr a hw
    rw [z] at e'; cases e'
   ·have:=x.keep a o e hw
    rw [z] at this; cases this
 refine ⟨fun a o h n=>y.keep a o (x.keep a o h n) (x.out h n),?_,fun a h=>y.hid a (x.hid a h),fun a h=>(y.hnew a h).elim (x.hnew a) fun z=>.inr (hno a z),fun a o u h=>y.frz a o u (x.frz a o u h)⟩
 obtain ⟨l,e1,f⟩:=x.sub
 obtain ⟨l2,e2,f2⟩:=y.sub
 refine ⟨l ++ l2,by rw [e2,e1]; simp,fun a ha=>?_⟩
 rcases List.mem_append.mp ha with z | z
 ·exact f a z
 ·exact hno a (f2 a z)
section
variable {K:PySem.W.Frag} {w w':Wd} {H H':Hp}
mutual
theorem RD.ext (x:Ext w H w' H'):∀ (d:D) (v:V),RD K w H d v→RD K w' H' d v
 | .non,_,h=>h
 | .bl _,_,h=>h
 | .int _,_,h=>h
 | .str _,_,h=>h
 | .tup ds,v,h=>by
  unfold RD at h ⊢
  obtain ⟨a,vs,e,p,r⟩:=h
  exact ⟨a,vs,e,p.imp x.at id,RDs.ext x ds vs r⟩
 | .lst ds,v,h=>by
  unfold RD at h ⊢
  obtain ⟨a,vs,e,p,r⟩:=h
  exact ⟨a,vs,e,x.at p,RDs.ext x ds vs r⟩
 | .fz ds,v,h=>by
  unfold RD at h ⊢
  obtain ⟨a,vs,e,p,r⟩:=h
  exact ⟨a,vs,e,p.imp (fun ⟨o,z⟩=>⟨o,x.at z⟩) id,RDs.ext x ds vs r⟩
 | .dic kvs,v,h=>by
  unfold RD at h ⊢
  obtain ⟨a,us,e,p,r⟩:=h
  exact ⟨a,us,e,x.at p,RDk.ext x kvs us r⟩
 | .ref n,v,h=>by
  unfold RD at h ⊢
  obtain ⟨a,e,p⟩:=h
  exact ⟨a,e,x.get p⟩
 | .ty _,_,h=>h
 | .exc c,v,h=>by
  unfold RD at h ⊢
  obtain ⟨a,C,e,q,p⟩:=h
  exact ⟨a,C,e,q,x.at p⟩
 | .cls _,_,h=>h
theorem RDs.ext (x:Ext w H w' H'):∀ (ds:List D) (vs:List V),RDs K w H ds vs→RDs K w' H' ds vs
 | [],_,h=>h
 | d :: ds,vs,h=>by
  unfold RDs at h ⊢
  obtain ⟨v,r,e,p,q⟩:=h
  exact ⟨v,r,e,RD.ext x d v p,RDs.ext x ds r q⟩
theorem RDk.ext (x:Ext w H w' H'):∀ (ds:List (Sum Int Str × D)) (vs:List (Key × V)),RDk K w H ds vs→RDk K w' H' ds vs
 | [],_,h=>h
 | (k,d) :: ds,vs,h=>by
  unfold RDk at h ⊢
  obtain ⟨v,r,e,p,q⟩:=h
  exact ⟨v,r,e,RD.ext x d v p,RDk.ext x ds r q⟩
end
end
def RO (K:PySem.W.Frag) (w:Wd) (H:Hp) (a:Addr):SO→Prop
 | .lst ds=>∃ vs,H a=some (.lst vs)∧RDs K w H ds vs
 | .dic kvs=>∃ us,H a=some (.dK us)∧RDk K w H kvs us
 | .fdic kvs=>∃ o us,H a=some (.frz o (.dK us))∧RDk K w H kvs us
 | .ins _ _=>False
 | .flst ds=>∃ o vs,H a=some (.frz o (.lst vs))∧RDs K w H ds vs
structure RS (K:PySem.W.Frag) (w:Wd) (H:Hp) (S:Sto):Prop where
 nd:w.st.Nodup
 len:w.st.length=S.length
 obj:∀ (n:Nat) (o:SO),S[n]?=some o→∃ a:Addr,w.st[n]?=some a∧RO K w H a o
 hid:∀ a ∈ w.hid,a ∉ w.st∧∃ o,H a=some o
section
variable {K:PySem.W.Frag} {w w':Wd} {H H':Hp} {S:Sto}
theorem RS.there (s:RS K w H S) {a:Addr} (ha:a ∈ w.st):∃ o,H a=some o:=by
 obtain ⟨n,hn⟩:=List.mem_iff_getElem?.mp ha
 have hl:n < S.length:=by rw [← s.len]; exact (List.getElem?_eq_some_iff.mp hn).1
 obtain ⟨b,hb,r⟩:=s.obj n S[n] (List.getElem?_eq_getElem hl)
 rw [hn] at hb; cases hb
 revert r
 cases S[n] with
 | lst ds=>rintro ⟨vs,e,_⟩; exact ⟨_,e⟩
 | dic kvs=>rintro ⟨vs,e,_⟩; exact ⟨_,e⟩
 | fdic kvs=>rintro ⟨o,vs,e,_⟩; exact ⟨_,e⟩
 | ins c fs=>rintro ⟨⟩
 | flst ds=>rintro ⟨o,vs,e,_⟩; exact ⟨_,e⟩
theorem RS.freshS (s:RS K w H S) {a:Addr} (h:H a=none):a ∉ w.st:=fun z=>by
 obtain ⟨o,e⟩:=s.there z
 rw [h] at e; cases e
theorem RS.fresh (s:RS K w H S) {a:Addr} (h:H a=none):w.no a:=⟨s.freshS h,fun z=>by
 obtain ⟨_,o,e⟩:=s.hid a z
 rw [h] at e; cases e⟩
theorem Ext.trans' {w1 w2:Wd} {H1 H2:Hp} {S1:Sto} (x:Ext w H w1 H1) (y:Ext w1 H1 w2 H2) (s:RS K w H S) (s1:RS K w1 H1 S1):Ext w H w2 H2:=
 x.trans y fun a ha=>by
  obtain ⟨o,e⟩:=s.there ha
  obtain ⟨l,el,_⟩:=x.sub
  obtain ⟨o',e'⟩:=s1.there (a:=a) (by rw [el]; exact List.mem_append_left _ ha)
  exact ⟨o,e,o',e'⟩
theorem Ext.new {p:Addr} {o:HO} (hp:H p=none):Ext w H w (upd H p o):=
 ⟨fun a u e _=>by rw [upd_ne (ne_of_none e hp)]; exact e,⟨[],by simp,fun _ z=>nomatch z⟩,fun _ h=>h,fun _ h=>.inl h,fun a o u e=>by rw [upd_ne (ne_of_none e hp)]; exact e⟩
theorem RO.ext (x:Ext w H w' H') {a:Addr} {o:SO} (hk:∀ u,H a=some u→H' a=some u) (r:RO K w H a o):RO K w' H' a o:=by
 cases o with
 | lst ds=>obtain ⟨vs,e,q⟩:=r; exact ⟨vs,hk _ e,RDs.ext x _ _ q⟩
 | dic kvs=>obtain ⟨vs,e,q⟩:=r; exact ⟨vs,hk _ e,RDk.ext x _ _ q⟩
 | fdic kvs=>obtain ⟨o,vs,e,q⟩:=r; exact ⟨o,vs,hk _ e,RDk.ext x _ _ q⟩
 | ins c fs=>exact r
 | flst ds=>obtain ⟨o,vs,e,q⟩:=r; exact ⟨o,vs,hk _ e,RDs.ext x _ _ q⟩
theorem RS.new {p:Addr} {o:HO} (s:RS K w H S) (hp:H p=none):RS K w (upd H p o) S:=
  ⟨s.nd,s.len,fun n so e=>by
    obtain ⟨a,ha,r⟩:=s.obj n so e
    exact ⟨a,ha,r.ext (Ext.new hp) fun u q=>by rw [upd_ne (ne_of_none q hp)]; exact q⟩,
   fun a ha=>by
    obtain ⟨h1,u,e⟩:=s.hid a ha
    exact ⟨h1,u,by rw [upd_ne (ne_of_none e hp)]; exact e⟩⟩
theorem Ext.alloc {p:Addr} {o:HO} (hp:H p=none):Ext w H (w.add p) (upd H p o):=
 ⟨fun a u e _=>by rw [upd_ne (ne_of_none e hp)]; exact e,⟨[p],rfl,fun a ha=>by
  have:a=p:=by simpa using ha
  subst this; exact hp⟩,fun _ h=>h,fun _ h=>.inl h,fun a o u e=>by rw [upd_ne (ne_of_none e hp)]; exact e⟩
theorem RS.alloc {p:Addr} {o:HO} {so:SO} (s:RS K w H S) (hp:H p=none) (r:RO K (w.add p) (upd H p o) p so):RS K (w.add p) (upd H p o) (S ++ [so]):=by
 have np:=s.freshS hp
 refine ⟨?_,by simp [Wd.add,s.len],fun n so' e=>?_,fun a ha=>?_⟩
 ·show (w.st ++ [p]).Nodup
  rw [List.nodup_append]
  exact ⟨s.nd,by simp,fun a ha b hb=>by
   have:b=p:=by simpa using hb
   subst this
   rintro rfl
   exact np ha⟩
 ·by_cases hn:n < S.length
  ·rw [List.getElem?_append_left hn] at e
   obtain ⟨a,ha,q⟩:=s.obj n so' e
   exact ⟨a,(Ext.alloc (o:=o) hp).get ha,q.ext (Ext.alloc hp) fun u z=>by rw [upd_ne (ne_of_none z hp)]; exact z⟩
  ·have hn':n=S.length:=by
    have:=(List.getElem?_eq_some_iff.mp e).1
    simp at this; omega
   subst hn'
   simp at e; subst e
   exact ⟨p,by show (w.st ++ [p])[S.length]?=some p; rw [← s.len]; simp,r⟩
 ·obtain ⟨h1,u,e⟩:=s.hid a ha
  refine ⟨?_,u,by rw [upd_ne (ne_of_none e hp)]; exact e⟩
  show a ∉ w.st ++ [p]
  intro z
  rcases List.mem_append.mp z with z | z
  ·exact h1 z
  ·have:a=p:=by simpa using z
   subst this
   rw [hp] at e; cases e
theorem Ext.mut {p:Addr} {o u0:HO} (hp:p ∈ w.st) (h0:H p=some u0) (hu:autoParam (∀ o u,u0 ≠ .frz o u) Au.h8._auto_1):Ext w H w (upd H p o):=
 ⟨fun a u e n=>by rw [upd_ne (fun z:a=p=>n (z ▸ hp))]; exact e,⟨[],by simp,fun _ z=>nomatch z⟩,fun _ h=>h,fun _ h=>.inl h,fun a o u e=>by
  rw [upd_ne (fun z:a=p=>by rw [z,h0] at e; exact hu o u (Option.some.inj e))]; exact e⟩
theorem RS.mut {p:Addr} {o:HO} {so:SO} {n:Nat} (s:RS K w H S) (hp:w.st[n]?=some p) {u0:HO} (h0:H p=some u0) (r:RO K w (upd H p o) p so) (hu:autoParam (∀ o u,u0 ≠ .frz o u) Au.h8._auto_1):RS K w (upd H p o) (S.set n so):=by
 have hm:p ∈ w.st:=List.mem_of_getElem? hp
 refine ⟨s.nd,by simp [s.len],fun m so' e=>?_,fun a ha=>?_⟩
 ·by_cases hn:m=n
  ·subst hn
   have hl:m < S.length:=by rw [← s.len]; exact (List.getElem?_eq_some_iff.mp hp).1
   rw [List.getElem?_set_self hl] at e
   cases e
   exact ⟨p,hp,r⟩
  ·rw [List.getElem?_set_ne (Ne.symm hn)] at e
   obtain ⟨a,ha,q⟩:=s.obj m so' e
   refine ⟨a,ha,q.ext (Ext.mut hm h0 hu) fun u z=>?_⟩
   have:a ≠ p:=fun z=>by
    subst z
    obtain ⟨h1,e1⟩:=List.getElem?_eq_some_iff.mp ha
    obtain ⟨h2,e2⟩:=List.getElem?_eq_some_iff.mp hp
    exact hn ((List.getElem_inj s.nd).mp (e1.trans e2.symm))
   rw [upd_ne this]; exact z
 ·obtain ⟨h1,u,e⟩:=s.hid a ha
  exact ⟨h1,u,by rw [upd_ne (fun z:a=p=>h1 (z ▸ hm))]; exact e⟩
end
def RSt (K:PySem.W.Frag) (w:Wd) (H:Hp) (r:Rho) (s:L2.St):Prop:=
 s.length=r.length∧∀ (i:Nat) (d:D),r[i]?=some (some d)→∃ v,s[i]?=some (some v)∧RD K w H d v
theorem RSt.ext {K:PySem.W.Frag} {w w':Wd} {H H':Hp} {r:Rho} {s:L2.St} (h:RSt K w H r s) (x:Ext w H w' H'):RSt K w' H' r s:=
 ⟨h.1,fun i d e=>let ⟨v,e1,q⟩:=h.2 i d e; ⟨v,e1,RD.ext x d v q⟩⟩
theorem RSt.set {K:PySem.W.Frag} {w:Wd} {H:Hp} {r:Rho} {s:L2.St} (h:RSt K w H r s) (i:Nat) {d:D} {v:V} (q:RD K w H d v):RSt K w H (r.set i (some d)) (s.set i (some v)):=by
 refine ⟨by simp [h.1],fun j d' e=>?_⟩
 by_cases hj:j=i
 ·subst hj
  have hl:j < r.length:=by
   have:=(List.getElem?_eq_some_iff.mp e).1
   simpa using this
  rw [List.getElem?_set_self hl] at e
  cases e
  exact ⟨v,List.getElem?_set_self (by rw [h.1]; exact hl),q⟩
 ·rw [List.getElem?_set_ne (Ne.symm hj)] at e
  obtain ⟨v',e',q'⟩:=h.2 j d' e
  exact ⟨v',by rw [List.getElem?_set_ne (Ne.symm hj)]; exact e',q'⟩
section
variable {K:PySem.W.Frag} {w:Wd} {H:Hp}
theorem RDs.nil:RDs K w H [] []:=by unfold RDs; rfl
theorem RDs.cons {d:D} {v:V} {ds:List D} {vs:List V} (r:RD K w H d v) (q:RDs K w H ds vs):RDs K w H (d :: ds) (v :: vs):=by unfold RDs; exact ⟨v,vs,rfl,r,q⟩
theorem RDs.nil_inv {vs:List V} (h:RDs K w H [] vs):vs=[]:=by unfold RDs at h; exact h
theorem RDs.cons_inv {d:D} {ds:List D} {vs:List V} (h:RDs K w H (d :: ds) vs):∃ v r,vs=v :: r∧RD K w H d v∧RDs K w H ds r:=by unfold RDs at h; exact h
theorem RDs.one_inv {d:D} {vs:List V} (h:RDs K w H [d] vs):∃ v,vs=[v]∧RD K w H d v:=by
 obtain ⟨v,r,rfl,h1,h2⟩:=h.cons_inv
 rw [h2.nil_inv]
 exact ⟨v,rfl,h1⟩
theorem RDs.two_inv {d e:D} {vs:List V} (h:RDs K w H [d,e] vs):∃ v u,vs=[v,u]∧RD K w H d v∧RD K w H e u:=by
 obtain ⟨v,r,rfl,h1,h2⟩:=h.cons_inv
 obtain ⟨u,rfl,h3⟩:=h2.one_inv
 exact ⟨v,u,rfl,h1,h3⟩
theorem RDs.length:∀ {ds:List D} {vs:List V},RDs K w H ds vs→vs.length=ds.length
 | [],_,h=>by rw [h.nil_inv]; rfl
 | _ :: _,_,h=>by
  obtain ⟨v,r,rfl,_,q⟩:=h.cons_inv
  simp [q.length]
theorem RDs.get:∀ {ds:List D} {vs:List V} {i:Nat} {d:D},RDs K w H ds vs→ds[i]?=some d→∃ v,vs[i]?=some v∧RD K w H d v
 | [],_,_,_,_,e=>by simp at e
 | _ :: _,_,0,_,h,e=>by
  obtain ⟨v,r,rfl,p,_⟩:=h.cons_inv
  simp at e; subst e
  exact ⟨v,rfl,p⟩
 | _ :: ds,_,i + 1,d,h,e=>by
  obtain ⟨v,r,rfl,_,q⟩:=h.cons_inv
  obtain ⟨u,e1,q1⟩:=q.get (i:=i) (d:=d) (by simpa using e)
  exact ⟨u,by simpa using e1,q1⟩
theorem RDs.append:∀ {ds es:List D} {vs us:List V},RDs K w H ds vs→RDs K w H es us→RDs K w H (ds ++ es) (vs ++ us)
 | [],_,_,_,h,q=>by rw [h.nil_inv]; exact q
 | _ :: _,_,_,_,h,q=>by
  obtain ⟨v,r,rfl,p,t⟩:=h.cons_inv
  exact .cons p (t.append q)
theorem RDs.take:∀ {ds:List D} {vs:List V} (n:Nat),RDs K w H ds vs→RDs K w H (ds.take n) (vs.take n)
 | _,_,0,_=>by simp; exact .nil
 | [],_,_ + 1,h=>by rw [h.nil_inv]; simp; exact .nil
 | _ :: _,_,n + 1,h=>by
  obtain ⟨v,r,rfl,p,t⟩:=h.cons_inv
  exact .cons p (t.take n)
theorem RDs.drop:∀ {ds:List D} {vs:List V} (n:Nat),RDs K w H ds vs→RDs K w H (ds.drop n) (vs.drop n)
 | _,_,0,h=>h
 | [],_,_ + 1,h=>by rw [h.nil_inv]; simp; exact .nil
 | _ :: _,_,n + 1,h=>by
  obtain ⟨v,r,rfl,_,t⟩:=h.cons_inv
  exact t.drop n
theorem RDs.set {d:D} {v:V} (r:RD K w H d v):∀ {ds:List D} {vs:List V} (i:Nat),RDs K w H ds vs→RDs K w H (ds.set i d) (vs.set i v)
 | [],_,_,h=>by rw [h.nil_inv]; exact .nil
 | _ :: _,_,0,h=>by
  obtain ⟨_,_,rfl,_,t⟩:=h.cons_inv
  exact .cons r t
 | _ :: _,_,i + 1,h=>by
  obtain ⟨_,_,rfl,p,t⟩:=h.cons_inv
  exact .cons p (RDs.set r i t)
end
end PD
namespace PD
open PySem PySem.Spec PyProof.Rows L2
def RX (K:PySem.W.Frag) (w:Wd) (H:Hp) (x:XD) (c:Value) (da:Option Addr):Prop:=PySem.W.nsIn K mainGlobals x.cls=some (some c)
def Post {A B:Type} (K:PySem.W.Frag) (E:XK) (rel:Wd→Hp→A→B→Prop) (w:Wd) (H:Hp) (r:R A) (Q:B→Hp→Prop):Prop:=match r with
 | .ok a S'=>∀ w' H' b,Ext w H w' H'→rel w' H' a b→RS K w' H' S'→Q b H'
 | .err x S'=>∀ w' H' c da,Ext w H w' H'→RS K w' H' S'→RX K w' H' x c da→E c da H'
 | .bad=>False
section
variable {A B A2 B2:Type} {K:PySem.W.Frag} {E:XK} {rel:Wd→Hp→A→B→Prop} {rel2:Wd→Hp→A2→B2→Prop} {w w1:Wd} {H H1:Hp} {S S1:Sto}
theorem Post.ext {r:R A} {Q:B→Hp→Prop} (h:Post K E rel w H r Q) (x:Ext w H w1 H1) (s:RS K w H S) (s1:RS K w1 H1 S1):Post K E rel w1 H1 r Q:=by
 cases r with
 | ok a S'=>exact fun w' H' b y q t=>h w' H' b (x.trans' y s s1) q t
 | err e S'=>exact fun w' H' c da y t q=>h w' H' c da (x.trans' y s s1) t q
 | bad=>exact h
theorem Post.bind {r:R A} {f:A→Sto→R A2} {Q':B→Hp→Prop} {Q:B2→Hp→Prop} (h:Post K E rel2 w H (r.bind f) Q) (s:RS K w H S)
  (k:∀ a S1 w1 H1 b,Ext w H w1 H1→rel w1 H1 a b→RS K w1 H1 S1→Post K E rel2 w1 H1 (f a S1) Q→Q' b H1):Post K E rel w H r Q':=by
 cases r with
 | ok a S'=>exact fun w1 H1 b x q s1=>k a S' w1 H1 b x q s1 (Post.ext (r:=f a S') h x s s1)
 | err e S'=>exact h
 | bad=>exact h
theorem Post.bindAt {w0:Wd} {H0:Hp} {S0:Sto} {r:R A} {f:A→Sto→R A2} {Q':B→Hp→Prop} {Q:B2→Hp→Prop} (h:Post K E rel2 w0 H0 (r.bind f) Q) (x:Ext w0 H0 w H) (s0:RS K w0 H0 S0) (s:RS K w H S)
  (k:∀ a S1 w1 H1 b,Ext w H w1 H1→rel w1 H1 a b→RS K w1 H1 S1→Post K E rel2 w0 H0 (f a S1) Q→Q' b H1):Post K E rel w H r Q':=by
 cases r with
 | ok a S'=>exact fun w1 H1 b y q s1=>k a S' w1 H1 b y q s1 h
 | err e S'=>exact fun w' H' c da y t q=>h w' H' c da (x.trans' y s0 s) t q
 | bad=>exact h
theorem Post.ret {a:A} {b:B} {Q:B→Hp→Prop} (h:Post K E rel w H (.ok a S) Q) (q:rel w H a b) (s:RS K w H S):Q b H:=h w H b (Ext.refl w H) q s
theorem Post.at {a:A} {b:B} {Q:B→Hp→Prop} (h:Post K E rel w H (.ok a S) Q) (x:Ext w H w1 H1) (q:rel w1 H1 a b) (s:RS K w1 H1 S):Q b H1:=h w1 H1 b x q s
theorem Post.of {o:Option A} {Q:B→Hp→Prop} (h:Post K E rel w H (R.of S o) Q):∃ a,o=some a∧Post K E rel w H (.ok a S) Q:=by
 cases o with
 | some a=>exact ⟨a,rfl,h⟩
 | none=>exact h.elim
end
set_option genInjectivity false in
inductive FV where
 | nx (s:L2.St) | rt (v:V) | bk (s:L2.St) | ct (s:L2.St)
def FV.to (D:Ends):FV→Hp→Prop
 | .nx s,H=>D.nx s H
 | .rt v,H=>D.rt v H
 | .bk s,H=>D.bk s H
 | .ct s,H=>D.ct s H
def RF (K:PySem.W.Frag) (w:Wd) (H:Hp):F→FV→Prop
 | .nx r,f=>∃ s,f=.nx s∧RSt K w H r s
 | .rt d,f=>∃ v,f=.rt v∧RD K w H d v
 | .bk r,f=>∃ s,f=.bk s∧RSt K w H r s
 | .ct r,f=>∃ s,f=.ct s∧RSt K w H r s
def RB (w:Wd) (H:Hp) (a b:Bool):Prop:=b=a
def uE (K:PySem.W.Frag) (E:XK) (m:EM):TE:=fun s H Q=>∃ w r S,RSt K w H r s∧RS K w H S∧Post K E (RD K) w H (m r S) Q
def uT (K:PySem.W.Frag) (E:XK) (m:TM):TT:=fun s H Q=>∃ w r S,RSt K w H r s∧RS K w H S∧Post K E RB w H (m r S) Q
def uA (K:PySem.W.Frag) (E:XK) (m:AM):TA:=fun s H Q=>∃ w r S,RSt K w H r s∧RS K w H S∧Post K E (RDs K) w H (m r S) Q
def uS (K:PySem.W.Frag) (E:XK) (m:SM):TS:=fun D s H=>∃ w r S,RSt K w H r s∧RS K w H S∧Post K E (RF K) w H (m r S) (FV.to D)
theorem ex6 {K:PySem.W.Frag} {H:Hp} {s:L2.St} {c:Wd→Rho→Sto→Prop} {P:Prop} (z:∃ w r S,RSt K w H r s∧RS K w H S∧c w r S) (f:∀ w r S,RSt K w H r s→RS K w H S→c w r S→P):P:=by
 obtain ⟨w,r,S,x,y,z⟩:=z
 exact f w r S x y z
theorem ex8.{u} {α:Type u} {a:Wd→Rho→Prop} {b:Wd→Rho→α→Rho→Prop} {c:Wd→Rho→α→Rho→Prop} {d:Wd→Rho→α→Rho→Prop} {P:Prop} (z:∃ w r e r',a w r∧b w r e r'∧c w r e r'∧d w r e r') (f:∀ w r e r',a w r→b w r e r'→c w r e r'→d w r e r'→P):P:=by
 obtain ⟨w,r,e,r',x,y,z,t⟩:=z
 exact f w r e r' x y z t
structure Bx (p:Prop):Prop where
 out:p
abbrev SE (X:Cx) (E:XK) (e:Expr) (m:EM):Prop:=Bx (PE X e (uE X.K E m))
abbrev ST (X:Cx) (E:XK) (e:Expr) (m:TM):Prop:=Bx (PT X e (uT X.K E m))
abbrev SW (X:Cx) (E:XK) (e:Expr) (m:TM):Prop:=Bx (PW X e (uT X.K E m))
abbrev SA (X:Cx) (E:XK) (es:List Expr) (m:AM):Prop:=Bx (PA X es (uA X.K E m))
abbrev SS (X:Cx) (E:XK) (st:Stmt) (m:SM):Prop:=Bx (PS X st (uS X.K E m))
abbrev SSs (X:Cx) (E:XK) (st:List Stmt) (m:SM):Prop:=Bx (PSs X st (uS X.K E m))
theorem pe_weak {X:Cx} {e:Expr} {t t':TE} (h:PE X e t) (k:∀ s H Q,t' s H Q→t s H Q):PE X e t':=fun pins s σ H Q I q=>h pins s σ H Q I (k σ H Q q)
theorem pt_weak {X:Cx} {e:Expr} {t t':TT} (h:PT X e t) (k:∀ s H Q,t' s H Q→t s H Q):PT X e t':=fun pins s σ H Q I q=>h pins s σ H Q I (k σ H Q q)
theorem pw_weak {X:Cx} {e:Expr} {t t':TT} (h:PW X e t) (k:∀ s H Q,t' s H Q→t s H Q):PW X e t':=fun wh pins s σ H Q I q=>h wh pins s σ H Q I (k σ H Q q)
theorem pa_weak {X:Cx} {e:List Expr} {t t':TA} (h:PA X e t) (k:∀ s H Q,t' s H Q→t s H Q):PA X e t':=fun p pins s σ H Q I q=>h p pins s σ H Q I (k σ H Q q)
theorem ps_weak {X:Cx} {e:Stmt} {t t':TS} (h:PS X e t) (k:∀ D s H,t' D s H→t D s H):PS X e t':=fun pins s σ H Q I q=>h pins s σ H Q I (k Q σ H q)
theorem pss_weak {X:Cx} {e:List Stmt} {t t':TS} (h:PSs X e t) (k:∀ D s H,t' D s H→t D s H):PSs X e t':=fun pins s σ H Q I q=>h pins s σ H Q I (k Q σ H q)
section
variable {X:Cx} {E:XK} {a b c:Expr} {ma mb mc:EM} {pos:Pos}
theorem se_var (i:Nat) {x:Str} {pos:Pos} (hN:autoParam (X.N[i]?=some x) Au.h0._auto_1) (hv:Vis X.env.scope x) (hd:autoParam ((x == ("__debug__":Str))=false) Au.h3._auto_1)
  (hcd:autoParam ((x == ("__classdict__":Str))=false) Au.h3._auto_1):SE X E (.Name x pos) (eVar i):=⟨
 pe_weak (pv i hN hv hd hcd) fun s H Q zq=>ex6 zq fun w r S hr hS hp=>by
  unfold eVar at hp
  split at hp
  ·rename_i d e
   obtain ⟨v,e',q⟩:=hr.2 i d e
   exact ⟨v,e',hp.ret q hS⟩
  ·exact hp.elim⟩
theorem se_c {e:Expr} {v:V} {d:D} (h:PE X e (tC v)) (q:∀ w H,RD X.K w H d v):SE X E e (eC d):=⟨
 pe_weak h fun s H Q zq=>ex6 zq fun w r S hr hS hp=>hp.ret (q w H) hS⟩
theorem se_int {i j pos}:SE X E (.Constant (.int i) j pos) (eC (.int i)):=se_c pe_int fun _ _=>by unfold RD; rfl
theorem se_bl {i j pos}:SE X E (.Constant (.bool i) j pos) (eC (.bl i)):=se_c pe_bl fun _ _=>by unfold RD; rfl
theorem se_non {j pos}:SE X E (.Constant .none j pos) (eC .non):=se_c pe_non fun _ _=>by unfold RD; rfl
theorem se_str {i j pos}:SE X E (.Constant (.str i) j pos) (eC (.str i)):=se_c pe_str fun _ _=>by unfold RD; rfl
theorem se_gint {x:Str} {i:Int} {t:Tok} {pos:Pos} (hg:Gl X x) (hm:X.mg x=some (.int i t)) (hd:autoParam ((x == ("__debug__":Str))=false) Au.h3._auto_1):SE X E (.Name x pos) (eC (.int i)):=
 se_c (pe_glob hg hm (v:=.int i) ⟨t,rfl⟩ hd) fun _ _=>by unfold RD; rfl
theorem se_ty {x:Str} {T:String} {pos:Pos} (hg:Gl X x) (hm:X.mg x=none) (hv:bootBuiltins x=some (.type T)) (hn:autoParam (x ≠ "__name__") Au.h3._auto_1) (hd:autoParam ((x == ("__debug__":Str))=false) Au.h3._auto_1):SE X E (.Name x pos) (eC (.ty T)):=
 se_c (pe_bltn hg hm hv (v:=.ty T) rfl hn hd) fun _ _=>by unfold RD; rfl
def xO (K:PySem.W.Frag) (E:XK) (f:Sto→D→D→Option D):R2:=fun x y H Q=>∃ w S d e,RS K w H S∧RD K w H d x∧RD K w H e y∧Post K E (RD K) w H (R.of S (f S d e)) Q
def xU (K:PySem.W.Frag) (E:XK) (f:Sto→D→Option D):V→Hp→VK→Prop:=fun x H Q=>∃ w S d,RS K w H S∧RD K w H d x∧Post K E (RD K) w H (R.of S (f S d)) Q
def xC (K:PySem.W.Frag) (E:XK) (f:Sto→List D→Option D):List V→Hp→VK→Prop:=fun xs H Q=>∃ w S ds,RS K w H S∧RDs K w H ds xs∧Post K E (RD K) w H (R.of S (f S ds)) Q
theorem se_op {op:Operator} {f:Sto→D→D→Option D} (ho:OpR X (binaryOp op) (xO X.K E f)) (ha:SE X E a ma) (hb:SE X E b mb):SE X E (.BinOp a op b pos) (eOp f ma mb):=⟨
 pe_weak (pe_op ho ha.out hb.out) fun s H Q zq=>ex6 zq fun w r S hr hS hp=>⟨w,r,S,hr,hS,hp.bind hS fun d S1 w1 H1 v x1 q1 s1 p1=>
  ⟨w1,r,S1,hr.ext x1,s1,p1.bind s1 fun e S2 w2 H2 u x2 q2 s2 p2=>⟨w2,S2,d,e,s2,RD.ext x2 d v q1,q2,p2⟩⟩⟩⟩
theorem se_un {op:UnaryOp} {f:Sto→D→Option D} (ho:UnR X (unaryOp op) (xU X.K E f)) (ha:SE X E a ma):SE X E (.UnaryOp op a pos) (eUn f ma):=⟨
 pe_weak (pe_un ho ha.out) fun s H Q zq=>ex6 zq fun w r S hr hS hp=>⟨w,r,S,hr,hS,hp.bind hS fun d S1 w1 H1 v x1 q1 s1 p1=>⟨w1,S1,d,s1,q1,p1⟩⟩⟩
theorem se_cmp {op:CmpOp} {f:Sto→D→D→Option D} (ho:OpR X (compareOp op) (xO X.K E f)) (ha:SE X E a ma) (hb:SE X E b mb) (hm:autoParam (behindInMarks op b=false) Au.h9._auto_1):
  SE X E (.Compare a [op] [b] pos) (eOp f ma mb):=⟨
 pe_weak (pe_cmpR ho ha.out hb.out hm) fun s H Q zq=>ex6 zq fun w r S hr hS hp=>⟨w,r,S,hr,hS,hp.bind hS fun d S1 w1 H1 v x1 q1 s1 p1=>
  ⟨w1,r,S1,hr.ext x1,s1,p1.bind s1 fun e S2 w2 H2 u x2 q2 s2 p2=>⟨w2,S2,d,e,s2,RD.ext x2 d v q1,q2,p2⟩⟩⟩⟩
theorem se_one {op} (h:SE X E a ma):SE X E (.BoolOp op [a] pos) ma:=⟨pe_one h.out⟩
theorem se_and {rest:List Expr} (ha:SE X E a ma) (hb:SE X E (.BoolOp .And (b :: rest) pos) mb):SE X E (.BoolOp .And (a :: b :: rest) pos) (eAnd ma mb):=⟨
 pe_weak (pe_and ha.out hb.out) fun s H Q zq=>ex6 zq fun w r S hr hS hp=>⟨w,r,S,hr,hS,hp.bind hS fun d S1 w1 H1 v x1 q1 s1 p1=>by
  cases d with
  | bl k=>
   unfold RD at q1
   subst q1
   refine ⟨k,rfl,?_⟩
   cases k with
   | true=>exact iteT ⟨w1,r,S1,hr.ext x1,s1,p1⟩
   | false=>exact iteF (Post.ret p1 (by unfold RD; rfl) s1)
  | _=>exact p1.elim⟩⟩
theorem se_not (ha:SE X E a ma):SE X E (.UnaryOp .Not a pos) (eNot ma):=⟨
 pe_weak (pe_not ha.out) fun s H Q zq=>ex6 zq fun w r S hr hS hp=>⟨w,r,S,hr,hS,hp.bind hS fun d S1 w1 H1 v x1 q1 s1 p1=>by
  cases d with
  | bl k=>
   unfold RD at q1
   subst q1
   exact ⟨k,rfl,Post.ret p1 (by unfold RD; rfl) s1⟩
  | _=>exact p1.elim⟩⟩
theorem uT_of {s:L2.St} {H:Hp} {Q:Bool→Hp→Prop} (h:uT X.K E (tV ma) s H Q):uE X.K E ma s H fun x H1=>∃ k,x=.bl k∧Q k H1:=by
 obtain ⟨w,r,S,hr,hS,hp⟩:=h
 exact ⟨w,r,S,hr,hS,hp.bind hS fun d S1 w1 H1 v x1 q1 s1 p1=>by
  cases d with
  | bl k=>
   unfold RD at q1
   exact ⟨k,q1,Post.ret p1 rfl s1⟩
  | _=>exact p1.elim⟩
theorem st_val (h:SE X E a ma) (he:autoParam (∀ whole,isTrue a X.env whole=(do let v ← whole; standAt a.pos; holding [v] (truthy v))) Au.h4._auto_1):ST X E a (tV ma):=⟨
 pt_weak (pt_val h.out he) fun s H Q q=>uT_of q⟩
theorem st_cmp {op:CmpOp} {f:Sto→D→D→Option D} (ho:OpR X (compareOp op) (xO X.K E f)) (ha:SE X E a ma) (hb:SE X E b mb) (hm:autoParam (behindInMarks op b=false) Au.h9._auto_1):
  ST X E (.Compare a [op] [b] pos) (tV (eOp f ma mb)):=⟨
 pt_weak (pt_cmpR ho ha.out hb.out hm) fun s H Q q=>by
  obtain ⟨w,r,S,hr,hS,hp⟩:=uT_of q
  exact ⟨w,r,S,hr,hS,hp.bind hS fun d S1 w1 H1 v x1 q1 s1 p1=>
   ⟨w1,r,S1,hr.ext x1,s1,p1.bind s1 fun e S2 w2 H2 u x2 q2 s2 p2=>⟨w2,S2,d,e,s2,RD.ext x2 d v q1,q2,p2⟩⟩⟩⟩
theorem sw_and1 {mt:TM} (ha:ST X E a mt):SW X E (.BoolOp .And [a] pos) mt:=⟨pw_and1 ha.out⟩
theorem sw_or1 {mt:TM} (ha:ST X E a mt):SW X E (.BoolOp .Or [a] pos) mt:=⟨pw_or1 ha.out⟩
theorem sw_and {mt mu:TM} {rest:List Expr} (ha:ST X E a mt) (hb:SW X E (.BoolOp .And (b :: rest) pos) mu):SW X E (.BoolOp .And (a :: b :: rest) pos) (PD.tAnd mt mu):=⟨
 pw_weak (pw_and ha.out hb.out) fun s H Q zq=>ex6 zq fun w r S hr hS hp=>⟨w,r,S,hr,hS,hp.bind hS fun k S1 w1 H1 v x1 q1 s1 p1=>by
  have e:v=k:=q1
  subst e
  cases v with
  | true=>exact iteT ⟨w1,r,S1,hr.ext x1,s1,p1⟩
  | false=>exact iteF (Post.ret p1 rfl s1)⟩⟩
theorem sw_or {mt mu:TM} {rest:List Expr} (ha:ST X E a mt) (hb:SW X E (.BoolOp .Or (b :: rest) pos) mu):SW X E (.BoolOp .Or (a :: b :: rest) pos) (PD.tOr mt mu):=⟨
 pw_weak (pw_or ha.out hb.out) fun s H Q zq=>ex6 zq fun w r S hr hS hp=>⟨w,r,S,hr,hS,hp.bind hS fun k S1 w1 H1 v x1 q1 s1 p1=>by
  have e:v=k:=q1
  subst e
  cases v with
  | false=>exact iteF ⟨w1,r,S1,hr.ext x1,s1,p1⟩
  | true=>exact iteT (Post.ret p1 rfl s1)⟩⟩
theorem sw_st {mt:TM} (h:SW X E a mt):ST X E a mt:=⟨PW.pt h.out⟩
theorem st_not {mt:TM} (ha:ST X E a mt):ST X E (.UnaryOp .Not a pos) (PD.tNot mt):=⟨
 pt_weak (pt_not ha.out) fun s H Q zq=>ex6 zq fun w r S hr hS hp=>⟨w,r,S,hr,hS,hp.bind hS fun k S1 w1 H1 v x1 q1 s1 p1=>by
  have e:v=k:=q1
  subst e
  exact Post.ret p1 rfl s1⟩⟩
theorem sa_nil:SA X E [] aNil:=⟨pa_weak pa_nil fun s H Q zq=>ex6 zq fun w r S hr hS hp=>Post.ret hp RDs.nil hS⟩
theorem sa_cons {es:List Expr} {ms:AM} (ha:SE X E a ma) (hrr:SA X E es ms) (hs:autoParam (starEach (a :: es) X.env=(false,eval a X.env) :: starEach es X.env) Au.h0._auto_1):SA X E (a :: es) (aCons ma ms):=⟨
 pa_weak (pa_cons ha.out hrr.out hs) fun s H Q zq=>ex6 zq fun w r S hr hS hp=>⟨w,r,S,hr,hS,hp.bind hS fun d S1 w1 H1 v x1 q1 s1 p1=>
  ⟨w1,r,S1,hr.ext x1,s1,p1.bind s1 fun e S2 w2 H2 u x2 q2 s2 p2=>Post.ret p2 (RDs.cons (RD.ext x2 d v q1) q2) s2⟩⟩⟩
theorem se_tup {es:List Expr} {ms:AM} {k} (h:SA X E es ms):SE X E (.Tuple es k pos) (eTup ms):=⟨
 pe_weak (pe_tup h.out) fun s H Q zq=>ex6 zq fun w r S hr hS hp=>⟨w,r,S,hr,hS,hp.bind hS fun ds S1 w1 H1 vs x1 q1 s1 p1=>by
  by_cases hl:ds.length≤sizeLine
  ·rw [if_pos hl] at p1
   refine ⟨by rw [q1.length]; exact hl,fun p hp=>?_⟩
   exact Post.at p1 (Ext.new hp) (by unfold RD; exact ⟨p,vs,rfl,.inl ⟨upd_same,s1.fresh hp⟩,RDs.ext (Ext.new hp) _ _ q1⟩) (s1.new hp)
  ·rw [if_neg hl] at p1; exact p1.elim⟩⟩
theorem se_lst {es:List Expr} {ms:AM} (h:SA X E es ms):SE X E (.List es pos) (eLst ms):=⟨
 pe_weak (pe_lst h.out) fun s H Q zq=>ex6 zq fun w r S hr hS hp=>⟨w,r,S,hr,hS,hp.bind hS fun ds S1 w1 H1 vs x1 q1 s1 p1=>by
  by_cases hl:ds.length≤sizeLine
  ·rw [if_pos hl] at p1
   refine ⟨by rw [q1.length]; exact hl,fun p hp=>?_⟩
   exact Post.at p1 (Ext.new hp) (by unfold RD; exact ⟨p,vs,rfl,⟨upd_same,s1.fresh hp⟩,RDs.ext (Ext.new hp) _ _ q1⟩) (s1.new hp)
  ·rw [if_neg hl] at p1; exact p1.elim⟩⟩
theorem RS.lastRef {K:PySem.W.Frag} {w:Wd} {H:Hp} {S:Sto} (s:RS K w H S) {p:Addr} {H':Hp}:RD K (w.add p) H' (.ref S.length) (.ref p):=by
 unfold RD
 exact ⟨p,rfl,by show (w.st ++ [p])[S.length]?=some p; rw [← s.len]; simp⟩
theorem se_new {es:List Expr} {ms:AM} (h:SA X E es ms):SE X E (.List es pos) (eNew ms):=⟨
 pe_weak (pe_lst h.out) fun s H Q zq=>ex6 zq fun w r S hr hS hp=>⟨w,r,S,hr,hS,hp.bind hS fun ds S1 w1 H1 vs x1 q1 s1 p1=>by
  by_cases hl:ds.length≤sizeLine
  ·rw [if_pos hl] at p1
   refine ⟨by rw [q1.length]; exact hl,fun p hp=>?_⟩
   exact Post.at p1 (Ext.alloc hp) s1.lastRef (s1.alloc hp ⟨vs,upd_same,RDs.ext (Ext.alloc hp) _ _ q1⟩)
  ·rw [if_neg hl] at p1; exact p1.elim⟩⟩
def spM (K:PySem.W.Frag) (n:Nat) (f:FM):Sp:=fun vs H Q E=>vs.length=n∧∃ w S ds,RS K w H S∧RDs K w H ds vs∧Post K E (RD K) w H (f ds S) Q
variable {CX:CXT} {k n:Nat} {fa:Addr} {fd:FuncData} {ps:List Str} {f:FM} {x:Str} {p:Pos} {es:List Expr} {ms:AM}
theorem se_call (F:FnOk X.prog X.w X.K X.mg X.base CX k fa fd ps (spM X.K n f)) (hr:Room k X.A) (hg:Gl X x) (hm:X.mg x=some (.ref fa)) (hk:PySem.W.keepIn X.K (.ref fa)=true) (hb:Binds X.K fd ps []) (hx:Passes CX X E)
  (ha:SA X E (a :: es) ms) (hn:∀ r S ds S',ms r S=.ok ds S'→ds.length=n) (hdb:autoParam ((x == ("__debug__":Str))=false) Au.h3._auto_1) (he:autoParam (starEach (a :: es) X.env=(false,eval a X.env) :: starEach es X.env) Au.h0._auto_1) (hpl:autoParam ((backTo pos (starEach es X.env)).any (·.1)=false) Au.h0._auto_1):
  SE X E (.Call (.Name x p) (a :: es) [] pos) (eCall f ms):=⟨
 pe_weak (pe_call F hr hg hm hk hb (dvs:=[]) .nil hx ha.out hdb he hpl) fun s H Q zq=>ex6 zq fun w r S hr hS hp=>by
  refine ⟨w,r,S,hr,hS,?_⟩
  have hp':Post X.K E (RD X.K) w H ((ms r S).bind fun xs S1=>f xs S1) Q:=hp
  cases e:ms r S with
  | bad=>rw [e] at hp'; exact hp'.elim
  | err y S'=>rw [e] at hp'; exact hp'
  | ok ds S'=>
   rw [e] at hp'
   intro w1 H1 vs x1 q1 s1
   rw [List.append_nil]
   exact ⟨by rw [q1.length]; exact hn r S ds S' e,w1,S',ds,s1,q1,Post.ext (r:=f ds S') hp' x1 hS s1⟩⟩
theorem se_callB {id:String} {f:Sto→List D→Option D} (hc:CallR X (.builtin id) (xC X.K E f)) (hg:Gl X x) (hm:X.mg x=none) (hv:bootBuiltins x=some (.builtin id)) (ha:SA X E (a :: es) ms) (hn:autoParam (x ≠ "__name__") Au.h3._auto_1) (hdb:autoParam ((x == ("__debug__":Str))=false) Au.h3._auto_1)
  (he:autoParam (starEach (a :: es) X.env=(false,eval a X.env) :: starEach es X.env) Au.h0._auto_1) (hpl:autoParam ((backTo pos (starEach es X.env)).any (·.1)=false) Au.h0._auto_1):SE X E (.Call (.Name x p) (a :: es) [] pos) (eB f ms):=⟨
 pe_weak (pe_callB hc hg hm hv ha.out hn hdb he hpl) fun s H Q zq=>ex6 zq fun w r S hr hS hp=>⟨w,r,S,hr,hS,hp.bind hS fun ds S1 w1 H1 vs x1 q1 s1 p1=>⟨w1,S1,ds,s1,q1,p1⟩⟩⟩
theorem se_callTy {T:String} {f:Sto→List D→Option D} (hc:CallR X (.type T) (xC X.K E f)) (hg:Gl X x) (hm:X.mg x=none) (hv:bootBuiltins x=some (.type T)) (ha:SA X E (a :: es) ms) (hn:autoParam (x ≠ "__name__") Au.h3._auto_1) (hdb:autoParam ((x == ("__debug__":Str))=false) Au.h3._auto_1)
  (he:autoParam (starEach (a :: es) X.env=(false,eval a X.env) :: starEach es X.env) Au.h0._auto_1) (hpl:autoParam ((backTo pos (starEach es X.env)).any (·.1)=false) Au.h0._auto_1):SE X E (.Call (.Name x p) (a :: es) [] pos) (eB f ms):=⟨
 pe_weak (pe_callTy hc hg hm hv ha.out hn hdb he hpl) fun s H Q zq=>ex6 zq fun w r S hr hS hp=>⟨w,r,S,hr,hS,hp.bind hS fun ds S1 w1 H1 vs x1 q1 s1 p1=>⟨w1,S1,ds,s1,q1,p1⟩⟩⟩
variable {st:Stmt} {rest:List Stmt} {m m':SM}
theorem ss_nil:SSs X E [] sSkip:=⟨pss_weak pss_nil fun D s H zq=>ex6 zq fun w r S hr hS hp=>Post.ret (b:=FV.nx s) hp ⟨s,rfl,hr⟩ hS⟩
theorem ss_cons (h1:SS X E st m) (h2:SSs X E rest m'):SSs X E (st :: rest) (sSeq m m'):=⟨
 pss_weak (pss_cons h1.out h2.out) fun D s H zq=>ex6 zq fun w r S hr hS hp=>⟨w,r,S,hr,hS,hp.bind hS fun f S1 w1 H1 fv x1 q1 s1 p1=>by
  cases f with
  | nx r1=>obtain ⟨s',rfl,q⟩:=q1; exact ⟨w1,r1,S1,q,s1,p1⟩
  | rt d=>obtain ⟨v,rfl,q⟩:=q1; have z:=Post.ret (Q:=FV.to D) (rel:=RF X.K) (a:=F.rt d) (b:=FV.rt v) p1 ⟨v,rfl,q⟩ s1; exact z
  | bk r1=>obtain ⟨s',rfl,q⟩:=q1; have z:=Post.ret (Q:=FV.to D) (rel:=RF X.K) (a:=F.bk r1) (b:=FV.bk s') p1 ⟨s',rfl,q⟩ s1; exact z
  | ct r1=>obtain ⟨s',rfl,q⟩:=q1; have z:=Post.ret (Q:=FV.to D) (rel:=RF X.K) (a:=F.ct r1) (b:=FV.ct s') p1 ⟨s',rfl,q⟩ s1; exact z⟩⟩
theorem ss_one (h1:SS X E st m):SSs X E [st] m:=⟨pss_one h1.out⟩
theorem ss_never:SS X E st sBad:=⟨ps_weak ps_never fun D s H zq=>ex6 zq fun w r S hr hS hp=>hp.elim⟩
theorem ss_expr (ha:SE X E a ma) (hs:autoParam (swapsWith a none pos.line X.env=pure false) Au.h0._auto_1):SS X E (.Expr a pos) (sDrop ma):=⟨
 ps_weak (ps_expr ha.out hs) fun D s H zq=>ex6 zq fun w r S hr hS hp=>⟨w,r,S,hr,hS,hp.bind hS fun d S1 w1 H1 v x1 q1 s1 p1=>Post.ret (b:=FV.nx s) p1 ⟨s,rfl,hr.ext x1⟩ s1⟩⟩
theorem ss_ret (ha:SE X E a ma):SS X E (.Return (some a) pos) (sRet ma):=⟨
 ps_weak (ps_ret ha.out) fun D s H zq=>ex6 zq fun w r S hr hS hp=>⟨w,r,S,hr,hS,hp.bind hS fun d S1 w1 H1 v x1 q1 s1 p1=>Post.ret (b:=FV.rt v) p1 ⟨v,rfl,q1⟩ s1⟩⟩
theorem ss_if {mt:TM} {sa sb:List Stmt} (hc:ST X E c mt) (ha:SSs X E sa m) (hb:SSs X E sb m'):SS X E (.If c sa sb pos) (sIf mt m m'):=⟨
 ps_weak (ps_if hc.out ha.out hb.out) fun D s H zq=>ex6 zq fun w r S hr hS hp=>⟨w,r,S,hr,hS,hp.bind hS fun k S1 w1 H1 v x1 q1 s1 p1=>by
  have e:v=k:=q1
  subst e
  cases v with
  | true=>exact iteT ⟨w1,r,S1,hr.ext x1,s1,p1⟩
  | false=>exact iteF ⟨w1,r,S1,hr.ext x1,s1,p1⟩⟩⟩
theorem ss_set {i:Nat} {x:Str} {pos':Pos} (hN:X.N.Nodup) (hi:X.N[i]?=some x) (hx:Loc X.env.scope x) (ha:SE X E a ma) (hs:autoParam (swapsWith a (some (.Name x pos')) pos.line X.env=pure false) Au.h0._auto_1) (hf:autoParam (X.fn x=true ∨ X.env.scope.names.lookup x=some .local) Au.h7._auto_1):
  SS X E (.Assign [.Name x pos'] a pos) (sSet i ma):=⟨
 ps_weak (ps_set hN hi hx ha.out hs hf) fun D s H zq=>ex6 zq fun w r S hr hS hp=>⟨w,r,S,hr,hS,hp.bind hS fun d S1 w1 H1 v x1 q1 s1 p1=>
  Post.ret (b:=FV.nx (s.set i (some v))) p1 ⟨_,rfl,(hr.ext x1).set i q1⟩ s1⟩⟩
end
end PD
namespace PD
open PySem PySem.Spec PyProof.Rows L2
def uG (K:PySem.W.Frag) (g:G):TG:=fun v s H Q=>∃ w r d r',RSt K w H r s∧RD K w H d v∧g.put d r=some r'∧∀ s',RSt K w H r' s'→Q s' H
def uGs (K:PySem.W.Frag) (gs:List G):TGs:=fun vs s H Q=>∃ w r ds r',RSt K w H r s∧RDs K w H ds vs∧G.puts gs ds r=some r'∧∀ s',RSt K w H r' s'→Q s' H
abbrev SG (X:Cx) (e:Expr) (g:G):Prop:=Bx (PG X e (uG X.K g))
abbrev SGs (X:Cx) (es:List Expr) (gs:List G):Prop:=Bx (PGs X es (uGs X.K gs))
theorem pg_weak {X:Cx} {e:Expr} {t t':TG} (h:PG X e t) (k:∀ v s H Q,t' v s H Q→t v s H Q):PG X e t':=fun pins s σ H v u Q I r q=>h pins s σ H v u Q I r (k v σ H Q q)
theorem pgs_weak {X:Cx} {e:List Expr} {t t':TGs} (h:PGs X e t) (k:∀ v s H Q,t' v s H Q→t v s H Q):PGs X e t':=fun pins s σ H v u Q I r q=>h pins s σ H v u Q I r (k v σ H Q q)
theorem puts_len:∀ {gs:List G} {ds:List D} {r r':Rho},G.puts gs ds r=some r'→ds.length=gs.length
 | [],[],_,_,_=>rfl
 | [],_ :: _,_,_,h=>by simp [G.puts] at h
 | _ :: _,[],_,_,h=>by simp [G.puts] at h
 | g :: gs,d :: ds,r,r',h=>by
  unfold G.puts at h
  cases e:G.put g d r with
  | none=>rw [e] at h; cases h
  | some r1=>
   rw [e] at h
   have:=puts_len h
   simp [this]
section
variable {X:Cx} {E:XK} {a b c:Expr} {ma mb mc:EM} {pos:Pos}
theorem sg_name {i:Nat} {x:Str} (hN:X.N.Nodup) (hi:X.N[i]?=some x) (hx:Loc X.env.scope x) (hf:autoParam (X.fn x=true ∨ X.env.scope.names.lookup x=some .local) Au.h7._auto_1):SG X (.Name x pos) (.nm i):=⟨
 pg_weak (pg_name hN hi hx hf) fun v s H Q zq=>ex8 zq fun w r d r' hr q e k=>by
  unfold G.put at e
  cases e
  exact k _ (hr.set i q)⟩
theorem sgs_nil:SGs X [] []:=⟨
 pgs_weak pgs_nil fun v s H Q zq=>ex8 zq fun w r ds r' hr q e k=>by
  cases ds with
  | nil=>
   unfold G.puts at e
   cases e
   exact ⟨q.nil_inv,k s hr⟩
  | cons d ds=>simp [G.puts] at e⟩
theorem sgs_cons {e:Expr} {es:List Expr} {g:G} {gs:List G} (h1:SG X e g) (h2:SGs X es gs)
  (hs:autoParam ((assignEach (e :: es) X.env).map (·.2)=assign e X.env :: (assignEach es X.env).map (·.2)) Au.h0._auto_1):SGs X (e :: es) (g :: gs):=⟨
 pgs_weak (pgs_cons h1.out h2.out hs) fun v s H Q zq=>ex8 zq fun w r ds r' hr q e k=>by
  cases ds with
  | nil=>simp [G.puts] at e
  | cons d ds=>
   obtain ⟨v1,vs,rfl,q1,q2⟩:=q.cons_inv
   unfold G.puts at e
   cases e1:G.put g d r with
   | none=>rw [e1] at e; cases e
   | some r1=>
    rw [e1] at e
    exact ⟨v1,vs,rfl,w,r,d,r1,hr,q1,e1,fun s' hs'=>⟨w,r1,ds,r',hs',q2,e,k⟩⟩⟩
theorem SqT_of {K:PySem.W.Frag} {w:Wd} {H:Hp} {p:Addr} {vs:List V} (h:At w H p (.tup vs) ∨ KTup K p vs):SqT K H p vs:=h.elim (fun z=>SqT.of z.1) .inr
theorem sg_tup {es:List Expr} {k:Nat} {gs:List G} (hc:X.calm=true) (h:SGs X es gs)
  (hn:autoParam ((assignEach es X.env).length=gs.length) Au.h0._auto_1) (hst:autoParam ((assignEach es X.env).findIdx? (·.1)=none) Au.h0._auto_1):SG X (.Tuple es k pos) (.tp gs):=⟨
 pg_weak (pg_tup hc h.out hn hst) fun v s H Q zq=>ex8 zq fun w r d r' hr q e k=>by
  cases d with
  | tup ds=>
   unfold RD at q
   obtain ⟨p,vs,rfl,h1,q1⟩:=q
   unfold G.put at e
   exact ⟨p,vs,rfl,SqT_of h1,by rw [q1.length]; exact puts_len e,w,r,ds,r',hr,q1,e,k⟩
  | _=>simp [G.put] at e⟩
theorem ss_asg {tg:Expr} {g:G} (ha:SE X E a ma) (hg:SG X tg g) (hs:autoParam (swapsWithSole [tg] a pos.line X.env=pure false) Au.h0._auto_1) (hw:autoParam (swappedStores [tg] a X.env=pure none) Au.h0._auto_1)
  (h1:autoParam ((assignEach [tg] X.env).map (·.2)=[assign tg X.env]) Au.h0._auto_1):SS X E (.Assign [tg] a pos) (sAsg g ma):=⟨
 ps_weak (ps_asg ha.out hg.out hs hw h1) fun D s H zq=>ex6 zq fun w r S hr hS hp=>⟨w,r,S,hr,hS,hp.bind hS fun d S1 w1 H1 v x1 q1 s1 p1=>by
  cases e:g.put d r with
  | none=>rw [e] at p1; exact p1.elim
  | some r'=>
   rw [e] at p1
   exact ⟨w1,r,d,r',hr.ext x1,q1,e,fun s' hs'=>Post.ret (b:=FV.nx s') p1 ⟨s',rfl,hs'⟩ s1⟩⟩⟩
theorem ss_par {i j:Nat} {x y:Str} {ms:AM} {px py pt:Pos} {kt k2 pt2} (hc:X.calm=true) (hN:X.N.Nodup) (hi:X.N[i]?=some x) (hj:X.N[j]?=some y) (hij:i ≠ j)
  (hx:X.env.scope.names.lookup x=some .local) (hy:X.env.scope.names.lookup y=some .local) (ha:SA X E [a,b] ms)
  (hw:autoParam (swappedStores [.Tuple [.Name x px,.Name y py] kt pt] (.Tuple [a,b] k2 pt2) X.env=pure (some [x,y])) Au.h0._auto_1)
  (hs:autoParam (swapsWithSole [.Tuple [.Name x px,.Name y py] kt pt] (.Tuple [a,b] k2 pt2) pos.line X.env=pure false) Au.h0._auto_1):
  SS X E (.Assign [.Tuple [.Name x px,.Name y py] kt pt] (.Tuple [a,b] k2 pt2) pos) (sPar i j ms):=⟨
 ps_weak (ps_par hc hN hi hj hij hx hy ha.out hw hs) fun D s H zq=>ex6 zq fun w r S hr hS hp=>⟨w,r,S,hr,hS,hp.bind hS fun ds S1 w1 H1 vs x1 q1 s1 p1=>by
  match ds,q1,p1 with
  | [d,e],q1,p1=>
   obtain ⟨v,u,rfl,q2,q3⟩:=q1.two_inv
   exact ⟨v,u,rfl,Post.ret (b:=FV.nx _) p1 ⟨_,rfl,((hr.ext x1).set i q2).set j q3⟩ s1⟩
  | [],_,p1=>exact p1.elim
  | [_],_,p1=>exact p1.elim
  | _ :: _ :: _ :: _,_,p1=>exact p1.elim⟩⟩
def xS (K:PySem.W.Frag) (f:Sto→D→D→D→Option Sto):TSet:=fun o i v H Q=>∃ w S x y z S',RS K w H S∧RD K w H x o∧RD K w H y i∧RD K w H z v∧f S x y z=some S'∧∀ w' H',Ext w H w' H'→RS K w' H' S'→Q H'
theorem ss_put {f:Sto→D→D→D→Option Sto} {tpos:Pos} (hf:PSet X (xS X.K f)) (ha:SE X E a ma) (ho:SE X E b mb) (hi:SE X E c mc) (hs:autoParam (swapsWithSole [.Subscript b c tpos] a pos.line X.env=pure false) Au.h0._auto_1) (hw:autoParam (swappedStores [.Subscript b c tpos] a X.env=pure none) Au.h0._auto_1)
  (h1:autoParam ((assignEach [.Subscript b c tpos] X.env).map (·.2)=[assign (.Subscript b c tpos) X.env]) Au.h0._auto_1)
  (hz:autoParam (∀ v,assign (.Subscript b c tpos) X.env v=(do
   let ov ← holding [v] (eval b X.env)
   let iv ← holding [v,ov] (eval c X.env)
   standAt tpos
   holding [v,ov,iv] (setItem ov iv v)
   release [v,ov,iv] [])) Au.h4._auto_1):SS X E (.Assign [.Subscript b c tpos] a pos) (sPut f ma mb mc):=⟨
 ps_weak (ps_asg ha.out (pg_sub ho.out hi.out hf hz) hs hw h1) fun D s H zq=>ex6 zq fun w r S hr hS hp=>⟨w,r,S,hr,hS,hp.bind hS fun d S1 w1 H1 v x1 q1 s1 p1=>
  ⟨w1,r,S1,hr.ext x1,s1,p1.bind s1 fun e S2 w2 H2 u x2 q2 s2 p2=>⟨w2,r,S2,(hr.ext x1).ext x2,s2,p2.bind s2 fun t S3 w3 H3 y x3 q3 s3 p3=>by
   cases hf:f S3 e t d with
   | none=>rw [hf] at p3; exact p3.elim
   | some S4=>
    rw [hf] at p3
    exact ⟨w3,S3,e,t,d,S4,s3,RD.ext x3 _ _ q2,q3,RD.ext x3 _ _ (RD.ext x2 _ _ q1),hf,fun w' H' x4 s4=>Post.at (b:=FV.nx s) p3 x4 ⟨s,rfl,(((hr.ext x1).ext x2).ext x3).ext x4⟩ s4⟩⟩⟩⟩⟩
def RI (K:PySem.W.Frag) (w:Wd) (H:Hp) (ds:List D) (J:It):Prop:=∀ (i:Nat) (w':Wd) (H':Hp),Ext w H w' H'→
 (i < ds.length→J.go i H'∧∀ x H'',J.yld i H' x H''→(H''=H' ∨ ∃ p o,H' p=none∧H''=upd H' p o)∧∀ S,RS K w' H' S→∃ d,ds[i]?=some d∧RD K w' H'' d x)∧(ds.length≤i→J.stop i H')
def uI (K:PySem.W.Frag) (E:XK) (m:AM):TI:=fun s H Q=>∃ w r S,RSt K w H r s∧RS K w H S∧Post K E (RI K) w H (m r S) Q
abbrev SI (X:Cx) (E:XK) (tg iter:Expr) (m:AM):Prop:=Bx (PI X tg iter (uI X.K E m))
theorem grown_ok {K:PySem.W.Frag} {w:Wd} {H H':Hp} {S:Sto} (h:H'=H ∨ ∃ p o,H p=none∧H'=upd H p o) (s:RS K w H S):Ext w H w H'∧RS K w H' S:=by
 rcases h with rfl | ⟨p,o,hp,rfl⟩
 ·exact ⟨Ext.refl _ _,s⟩
 ·exact ⟨Ext.new hp,s.new hp⟩
theorem ss_for {tg iter:Expr} {body:List Stmt} {it:AM} {g:G} {m:SM} (hp:PassesOwn (model X.prog X.w) X.A X.env X.xe) (hc:X.calm=true) (hi:SI X E tg iter it) (hg:SG X tg g) (hb:SSs X E body m)
  (hs:autoParam (∀ x,foldedSetIterable iter X.env x=pure x) Au.h4._auto_1):SS X E (.For tg iter body [] pos) (sFor it g m):=⟨
 ps_weak (ps_for hp hc hi.out hg.out hb.out hs) fun D s H zq=>ex6 zq fun w r S hr hS hp=>⟨w,r,S,hr,hS,hp.bind hS fun ds S1 w1 H1 J x1 q1 s1 p1=>by
  refine ⟨fun i n s' H'=>n=ds.length - i∧i≤ds.length∧∃ w' r' S',Ext w1 H1 w' H'∧RSt X.K w' H' r' s'∧RS X.K w' H' S'∧Post X.K E (RF X.K) w' H' (forL g m (ds.drop i) r' S') (FV.to D),
   ⟨ds.length,by simp,Nat.zero_le _,w1,r,S1,Ext.refl _ _,hr.ext x1,s1,p1⟩,?_⟩
  rintro i n s2 H2 ⟨rfl,hi.out,w2,r2,S2,x2,hr2,hS2,hp2⟩
  by_cases hlt:i < ds.length
  ·obtain ⟨go,yld⟩:=(q1 i w2 H2 x2).1 hlt
   refine .inr ⟨go,fun s' H'=>∃ w' r' S',Ext w1 H1 w' H'∧RSt X.K w' H' r' s'∧RS X.K w' H' S'∧Post X.K E (RF X.K) w' H' (forL g m (ds.drop (i + 1)) r' S') (FV.to D),
    fun s' H' hN=>⟨ds.length - (i + 1),by omega,rfl,hlt,hN⟩,fun x H3 hy=>?_⟩
   obtain ⟨gr,rd⟩:=yld x H3 hy
   obtain ⟨d,ed,qd⟩:=rd S2 hS2
   obtain ⟨x3,s3⟩:=grown_ok gr hS2
   have x13:Ext w1 H1 w2 H3:=x2.trans' x3 s1 hS2
   have hdrop:ds.drop i=d :: ds.drop (i + 1):=by
    rw [List.drop_eq_getElem_cons hlt]
    rw [List.getElem?_eq_getElem hlt] at ed
    cases ed; rfl
   rw [hdrop] at hp2
   have hp3:=Post.ext hp2 x3 hS2 s3
   unfold forL at hp3
   cases e:g.put d r2 with
   | none=>rw [e] at hp3; exact hp3.elim
   | some r3=>
    rw [e] at hp3
    refine ⟨w2,r2,d,r3,hr2.ext x3,qd,e,fun s4 hr4=>⟨w2,r3,S2,hr4,s3,?_⟩⟩
    refine Post.bind (rel:=RF X.K) hp3 s3 fun f S5 w5 H5 fv x5 q5 s5 p5=>?_
    cases f with
    | nx r6=>obtain ⟨s6,rfl,q6⟩:=q5; exact ⟨w5,r6,S5,x13.trans' x5 s1 s3,q6,s5,p5⟩
    | ct r6=>obtain ⟨s6,rfl,q6⟩:=q5; exact ⟨w5,r6,S5,x13.trans' x5 s1 s3,q6,s5,p5⟩
    | bk r6=>obtain ⟨s6,rfl,q6⟩:=q5; have z:=Post.ret (Q:=FV.to D) (rel:=RF X.K) (a:=F.nx r6) (b:=FV.nx s6) p5 ⟨s6,rfl,q6⟩ s5; exact z
    | rt d6=>obtain ⟨v6,rfl,q6⟩:=q5; have z:=Post.ret (Q:=FV.to D) (rel:=RF X.K) (a:=F.rt d6) (b:=FV.rt v6) p5 ⟨v6,rfl,q6⟩ s5; exact z
  ·have e:i=ds.length:=by omega
   subst e
   rw [List.drop_length] at hp2
   exact .inl ⟨(q1 _ w2 H2 x2).2 (Nat.le_refl _),Post.ret (b:=FV.nx s2) hp2 ⟨s2,rfl,hr2⟩ hS2⟩⟩⟩
def aSeq (m:EM) (f:Sto→D→Option (List D)):AM:=fun r S=>(m r S).bind fun d S1=>R.of S1 (f S1 d)
def itTup:Sto→D→Option (List D)
 | _,.tup ds=>some ds
 | _,_=>none
def itLst:Sto→D→Option (List D)
 | _,.lst ds=>some ds
 | _,.fz ds=>some ds
 | _,_=>none
def aRange1 (t:AM):AM:=fun r S=>(t r S).bind fun xs S1=>match xs with
 | [.int n]=>if n < 2 ^ 62∧-(2 ^ 62)≤n then .ok ((List.range n.toNat).map fun (i:Nat)=>D.int i) S1 else .bad
 | _=>.bad
theorem pi_weak {X:Cx} {tg e:Expr} {t t':TI} (h:PI X tg e t) (k:∀ s H Q,t' s H Q→t s H Q):PI X tg e t':=fun pins s σ H Q I q=>h pins s σ H Q I (k σ H Q q)
theorem si_tup {tg:Expr} (ha:SE X E a ma):SI X E tg a (aSeq ma itTup):=⟨
 pi_weak (pi_tup ha.out) fun s H Q zq=>ex6 zq fun w r S hr hS hp=>⟨w,r,S,hr,hS,hp.bind hS fun d S1 w1 H1 v x1 q1 s1 p1=>by
  cases d with
  | tup ds=>
   unfold RD at q1
   obtain ⟨p,vs,rfl,h1,q⟩:=q1
   refine ⟨p,rfl,⟨vs,SqT_of h1⟩,Post.ret p1 ?_ s1⟩
   intro i w' H' x'
   have h1':At w' H' p (.tup vs) ∨ KTup X.K p vs:=h1.imp x'.at id
   have q':=RDs.ext x' _ _ q
   refine ⟨fun hi=>⟨⟨vs,vs[i]'(by rw [q.length]; exact hi),SqT_of h1',List.getElem?_eq_getElem _⟩,fun x H'' y=>?_⟩,fun hi=>⟨vs,SqT_of h1',by rw [q.length]; exact hi⟩⟩
   obtain ⟨rfl,y⟩:=y
   refine ⟨.inl rfl,fun S _=>⟨ds[i],List.getElem?_eq_getElem hi,?_⟩⟩
   obtain ⟨v,e,rv⟩:=q'.get (List.getElem?_eq_getElem hi)
   rw [y vs (SqT_of h1')] at e
   cases e
   exact rv
  | _=>exact p1.elim⟩⟩
theorem si_lst {tg:Expr} (ha:SE X E a ma):SI X E tg a (aSeq ma itLst):=⟨
 pi_weak (pi_list ha.out) fun s H Q zq=>ex6 zq fun w r S hr hS hp=>⟨w,r,S,hr,hS,hp.bind hS fun d S1 w1 H1 v x1 q1 s1 p1=>by
  have main:∀ (ds:List D) (p:Addr) (vs:List V),RDs X.K w1 H1 ds vs→(∀ w' H',Ext w1 H1 w' H'→SqL X.K H' p vs)→RI X.K w1 H1 ds (Itl X.K p):=by
   intro ds p vs q sq i w' H' x'
   have q':=RDs.ext x' _ _ q
   refine ⟨fun hi=>⟨⟨vs,vs[i]'(by rw [q.length]; exact hi),sq _ _ x',List.getElem?_eq_getElem _⟩,fun x H'' y=>?_⟩,fun hi=>⟨vs,sq _ _ x',by rw [q.length]; exact hi⟩⟩
   obtain ⟨rfl,y⟩:=y
   refine ⟨.inl rfl,fun S _=>⟨ds[i],List.getElem?_eq_getElem hi,?_⟩⟩
   obtain ⟨v,e,rv⟩:=q'.get (List.getElem?_eq_getElem hi)
   rw [y vs (sq _ _ x')] at e
   cases e
   exact rv
  cases d with
  | lst ds=>
   unfold RD at q1
   obtain ⟨p,vs,rfl,h1,q⟩:=q1
   exact ⟨p,rfl,⟨vs,SqL.of h1.1⟩,Post.ret p1 (main ds p vs q fun w' H' x'=>SqL.of (x'.at h1).1) s1⟩
  | fz ds=>
   unfold RD at q1
   obtain ⟨p,vs,rfl,h1,q⟩:=q1
   exact ⟨p,rfl,⟨vs,h1.sq⟩,Post.ret p1 (main ds p vs q fun w' H' x'=>FzAt.sq (w:=w') (h1.imp (fun ⟨o,z⟩=>⟨o,x'.at z⟩) id)) s1⟩
  | _=>exact p1.elim⟩⟩
def itSeq:Sto→D→Option (List D)
 | _,.tup ds=>some ds
 | _,.lst ds=>some ds
 | _,.fz ds=>some ds
 | _,_=>none
theorem pi_or {tg e:Expr} {t u:TI} (h1:PI X tg e t) (h2:PI X tg e u):PI X tg e (fun s H Q=>t s H Q ∨ u s H Q):=fun pins s σ H Q I q=>q.elim (h1 pins s σ H Q I) (h2 pins s σ H Q I)
theorem si_seq {tg:Expr} (ha:SE X E a ma):SI X E tg a (aSeq ma itSeq):=⟨
 pi_weak (pi_or (si_tup ha).out (si_lst ha).out) fun s H Q zq=>ex6 zq fun w r S hr hS hp=>by
  unfold aSeq at hp
  cases e:ma r S with
  | bad=>rw [e] at hp; exact hp.elim
  | err y S'=>rw [e] at hp; exact .inl ⟨w,r,S,hr,hS,by unfold aSeq; rw [e]; exact hp⟩
  | ok d S'=>
   rw [e] at hp
   cases d with
   | tup ds=>exact .inl ⟨w,r,S,hr,hS,by unfold aSeq; rw [e]; exact hp⟩
   | lst ds=>exact .inr ⟨w,r,S,hr,hS,by unfold aSeq; rw [e]; exact hp⟩
   | fz ds=>exact .inr ⟨w,r,S,hr,hS,by unfold aSeq; rw [e]; exact hp⟩
   | _=>exact hp.elim⟩
theorem si_range1 {tg:Expr} {ms:AM} {p:Pos} (hg:Gl X "range") (hm:X.mg "range" = none) (ha:SA X E [a] ms) (hs:autoParam (starEach [a] X.env=[(false,eval a X.env)]) Au.h0._auto_1):SI X E tg (.Call (.Name "range" p) [a] [] pos) (aRange1 ms):=⟨
 pi_weak (pi_range1 hg hm ha.out hs) fun s H Q zq=>ex6 zq fun w r S hr hS hp=>⟨w,r,S,hr,hS,hp.bind hS fun ds S1 w1 H1 vs x1 q1 s1 p1=>by
  rcases ds with _ | ⟨d,_ | ⟨d',ds⟩⟩
  ·exact p1.elim
  ·cases d with
   | int n=>
    obtain ⟨v,rfl,q2⟩:=q1.one_inv
    unfold RD at q2
    subst q2
    by_cases hn:n < 2 ^ 62∧-(2 ^ 62)≤n
    ·have p2:Post X.K E (RI X.K) w1 H1 (if n < 2 ^ 62∧-(2 ^ 62)≤n then R.ok ((List.range n.toNat).map fun (i:Nat)=>D.int i) S1 else R.bad) Q:=p1
     rw [if_pos hn] at p2
     refine ⟨n,rfl,hn.2,hn.1,Post.ret p2 ?_ s1⟩
     intro i w' H' x'
     refine ⟨fun hi=>⟨show i < n.toNat by simpa using hi,fun x H'' y=>?_⟩,fun hi=>show n.toNat≤i by simpa using hi⟩
     obtain ⟨rfl,rfl⟩:=y
     refine ⟨.inl rfl,fun S _=>⟨.int i,?_,?_⟩⟩
     ·have:i < n.toNat:=by simpa using hi
      simp [this]
     ·unfold RD; simp
    ·have p2:Post X.K E (RI X.K) w1 H1 (if n < 2 ^ 62∧-(2 ^ 62)≤n then R.ok ((List.range n.toNat).map fun (i:Nat)=>D.int i) S1 else R.bad) Q:=p1
     rw [if_neg hn] at p2
     exact p2.elim
   | _=>exact p1.elim
  ·cases d <;> exact p1.elim⟩⟩
end
section
variable {P:Program} {w:World} {K:PySem.W.Frag} {mg:Str→Option Value} {base:Heap}
theorem start_rel {K:PySem.W.Frag} {w:Wd} {H:Hp} {N:List Str} {ds:List D} {vs:List V} (q:RDs K w H ds vs):RSt K w H (ds.map some ++ List.replicate (N.length - ds.length) none) (L2.start N vs):=by
 unfold L2.start
 refine ⟨by simp [q.length],fun i d e=>?_⟩
 by_cases hi:i < ds.length
 ·rw [List.getElem?_append_left (by simpa using hi),List.getElem?_map] at e
  rw [List.getElem?_append_left (by rw [List.length_map,q.length]; exact hi),List.getElem?_map]
  cases e1:ds[i]? with
  | none=>rw [e1] at e; cases e
  | some d'=>
   rw [e1] at e; cases e
   obtain ⟨v,ev,rv⟩:=q.get e1
   exact ⟨v,by rw [ev]; rfl,rv⟩
 ·rw [List.getElem?_append_right (by simpa using hi),List.getElem?_replicate] at e
  split at e <;> cases e
end
end PD
namespace PD
open PySem PySem.Spec PyProof.Rows L2
section
variable {prog:Program} {w:World} {A:Around} {R:Result→Shared→Prop} {s:Shared}
theorem compLoop_all {elt target iter:Expr} {ifs:List Expr} {scope:Scope} {pos:Pos} {it acc:Value} {env:Env} (I:Nat→Shared→Prop)
  (turn:∀ n s,I n s→wpAny (model prog w) A (pyNext it) (fun r s1=>match r with
   | none=>R (.ok .next) s1
   | some v=>wpAny (model prog w) A (letOwnedTupleGo target it v) (fun _ s1'=>wpAny (model prog w) A (assign target env v) (fun _ s2=>
     wpAny (model prog w) A (forIn ifs true fun c r=>if r=true then do let ok ← isTrue c env (eval c env); pure (ForInStep.yield ok) else pure (ForInStep.yield r)) (fun ok s3=>
      if ok=true then wpAny (model prog w) A (eval elt env) (fun x s4=>
       wpAny (model prog w) A (call (.builtin "list.append") [acc,x]) (fun _ s5=>∃ m,m < n∧I m s5) (fun _ _=>False) s4) (fun _ _=>False) s3
      else ∃ m,m < n∧I m s3) (fun _ _=>False) s2) (fun _ _=>False) s1') (fun _ _=>False) s1) (fun _ _=>False) s)
  (n:Nat) (h:I n s):
  codeAny (model prog w) A (.compLoop (.ListComp elt [⟨target,iter,ifs,0⟩] scope pos) 0 it acc env) R s:=by
 refine codeAny_loop rfl I (fun n s hI=>?_) n h
 show wpAny _ A ((compTurn (.ListComp elt [⟨target,iter,ifs,0⟩] scope pos) 0 it acc env).onRaise (fun x=>do noteFrame x env; theTreesLotGoes x)) _ _ s
 refine wpAny_noted ?_
 rw [compTurn_list]
 refine wpAny_bind (wpAny_standAt (wpAny_bind (wpAny_mono (turn n s hI) (fun r s1 h1=>?_) fun _ _ h'=>h'.elim)))
 cases r with
 | none=>exact wpAny_pure h1
 | some v=>
  refine wpAny_bind (wpAny_mono h1 (fun _ s1' h1'=>?_) fun _ _ h'=>h'.elim)
  refine wpAny_bind (wpAny_mono h1' (fun _ s2 h2=>wpAny_bind (wpAny_mono h2 (fun ok s3 h3=>?_) fun _ _ h'=>h'.elim)) fun _ _ h'=>h'.elim)
  cases ok with
  | false=>exact wpAny_pure ⟨rfl,h3⟩
  | true=>
   exact wpAny_bind (wpAny_bind (wpAny_mono h3 (fun x s4 h4=>wpAny_bind (wpAny_mono h4 (fun _ s5 h5=>wpAny_pure (wpAny_pure ⟨rfl,h5⟩)) fun _ _ h'=>h'.elim)) fun _ _ h'=>h'.elim))
end
def PIfs (X:Cx) (ifs:List Expr) (t:TT):Prop:=
 ∀ (pins:List (Addr × Obj)) (s:Shared) (σ:L2.St) (H:Hp) (Q:Bool→Hp→Prop),Inv X pins σ H s→t σ H Q→
  wpAny (model X.prog X.w) X.A (forIn ifs true fun c r=>if r=true then do let ok ← isTrue c X.env (eval c X.env); pure (ForInStep.yield ok) else pure (ForInStep.yield r)) (TP X pins σ Q) X.xe s
theorem pifs_nil {X:Cx}:PIfs X [] (fun _ H Q=>Q true H):=fun pins s σ H Q I h=>wpAny_tests_nil ⟨H,I,h⟩
theorem pifs_one {X:Cx} {c:Expr} {t:TT} (h:PT X c t):PIfs X [c] t:=fun pins s σ H Q I q=>wpAny_tests_one (h pins s σ H Q I q)
def cxC (X:Cx) (N:List Str) (scope:Scope) (cl:List (Str × Addr)) (s0:Shared) (H0:Hp) (ex:List Addr):Cx:=
 { X with N:=N,s₀:=s0,H₀:=H0,env:=compEnvC scope cl s0.heap.objs.size X.env,outer:=X.stack,ex:=ex,fn:=fun _=>false }
def capSt (k:Nat) (caps:List Nat) (s:L2.St):L2.St:=List.replicate k none ++ caps.map fun i=>(s[i]?).join
structure CompScope (X:Cx) (N:List Str) (k:Nat) (caps:List Nat) (scope:Scope):Prop where
 kind:scope.kind=.function
 nocell:∀ x ∈ scope.names,x.2 ≠ .cell
 names:∀ x ∈ scope.names,x.2=.local→scope.names.lookup x.1=some .local
 free:∀ x ∈ scope.names,x.2=.free→X.env.kindOf x.1=some .cell ∨ X.env.kindOf x.1=some .free
 len:N.length=k + caps.length
 cap:∀ t i,caps[t]?=some i→∃ x,X.N[i]?=some x∧N[k + t]?=some x∧scope.names.lookup x=some .free
theorem mem_of_lookup' {A B:Type} [BEq A] [LawfulBEq A]:∀ {l:List (A × B)} {x:A} {b:B},l.lookup x=some b→(x,b) ∈ l
 | [],_,_,h=>by simp at h
 | (y,c) :: r,x,b,h=>by
  rw [List.lookup_cons] at h
  cases e:x == y with
  | true=>
   rw [e] at h
   have:=eq_of_beq e
   subst this
   cases h
   exact List.mem_cons_self
  | false=>
   rw [e] at h
   exact List.mem_cons_of_mem _ (mem_of_lookup' h)
theorem closure_ok {env:Env}:∀ (names:List (Str × NameKind)) (cs:List (Str × Addr)),(∀ x ∈ names,x.2=.free→∃ c,env.cells.lookup x.1=some c)→
  ∃ cl,(forIn names cs fun (x:Str × NameKind) (r:List (Str × Addr))=>(if x.2 == NameKind.free then do let a ← cellOf env x.1; pure (ForInStep.yield ((x.1,a) :: r)) else pure (ForInStep.yield r):Sem (ForInStep (List (Str × Addr)))))=pure cl∧
   (∀ p ∈ cl,p ∈ cs ∨ env.cells.lookup p.1=some p.2)∧(∀ p ∈ cs,p ∈ cl)∧∀ x ∈ names,x.2=.free→∃ c,(x.1,c) ∈ cl
 | [],cs,_=>⟨cs,rfl,fun p h=>.inl h,fun p h=>h,fun x h=>nomatch h⟩
 | (n,k) :: r,cs,h=>by
  by_cases hk:k=.free
  ·subst hk
   obtain ⟨c,hc⟩:=h (n,.free) List.mem_cons_self rfl
   obtain ⟨cl,e,h1,h2,h3⟩:=closure_ok r ((n,c) :: cs) fun x hx=>h x (List.mem_cons_of_mem _ hx)
   refine ⟨cl,?_,fun p hp=>?_,fun p hp=>h2 p (List.mem_cons_of_mem _ hp),fun x hx hf=>?_⟩
   ·rw [List.forIn_cons]
    have hco:cellOf env n=pure c:=by unfold cellOf; rw [hc]
    simp only [beq_self_eq_true,if_true,hco,pure_bind]
    exact e
   ·rcases h1 p hp with z | z
    ·rcases List.mem_cons.mp z with z | z
     ·subst z; exact .inr hc
     ·exact .inl z
    ·exact .inr z
   ·rcases List.mem_cons.mp hx with z | z
    ·subst z; exact ⟨c,h2 _ List.mem_cons_self⟩
    ·exact h3 x z hf
  ·obtain ⟨cl,e,h1,h2,h3⟩:=closure_ok r cs fun x hx=>h x (List.mem_cons_of_mem _ hx)
   have hb:(k == NameKind.free)=false:=by simpa using hk
   refine ⟨cl,?_,h1,h2,fun x hx hf=>?_⟩
   ·rw [List.forIn_cons]
    simp only [hb,Bool.false_eq_true,if_false,pure_bind]
    exact e
   ·rcases List.mem_cons.mp hx with z | z
    ·subst z; exact absurd hf hk
    ·exact h3 x z hf
theorem closure_for {scope:Scope} {env:Env} (h:∀ x ∈ scope.names,x.2=.free→∃ c,env.cells.lookup x.1=some c):
  ∃ cl,closureFor scope env=pure cl∧(∀ x c,cl.lookup x=some c→env.cells.lookup x=some c)∧∀ x ∈ scope.names,x.2=.free→∃ c,cl.lookup x.1=some c:=by
 obtain ⟨cl,e,h1,h2,h3⟩:=closure_ok (env:=env) scope.names [] h
 refine ⟨cl,?_,fun x c hx=>?_,fun x hx hf=>?_⟩
 ·unfold closureFor
  show ((forIn scope.names [] fun (x:Str × NameKind) (r:List (Str × Addr))=>(if x.2 == NameKind.free then do let a ← cellOf env x.1; pure (ForInStep.yield ((x.1,a) :: r)) else pure (ForInStep.yield r):Sem (ForInStep (List (Str × Addr))))) >>= fun l=>pure l)=pure cl
  rw [e,pure_bind]
 ·rcases h1 _ (mem_of_lookup' hx) with z | z
  ·exact nomatch z
  ·exact z
 ·obtain ⟨c,hc⟩:=h3 x hx hf
  cases e2:cl.lookup x.1 with
  | some c'=>exact ⟨c',rfl⟩
  | none=>
   rw [List.lookup_eq_none_iff] at e2
   have:=e2 _ hc
   simp at this
theorem relabel_mem {scope:Scope} {env:Env} {x:Str} {k:NameKind} (h:(relabel scope env).names.lookup x=some k):(x,k) ∈ scope.names ∨ (k=.cell∧(x,NameKind.free) ∈ scope.names):=by
 have m:=mem_of_lookup' h
 obtain ⟨⟨n,j⟩,hn,e⟩:=List.mem_map.mp m
 dsimp only at e
 split at e
 ·rename_i hc
  cases e
  have:j=NameKind.free:=by
   have:=(Bool.and_eq_true _ _ |>.mp (Bool.and_eq_true _ _ |>.mp hc).1).1
   simpa using this
  subst this
  exact .inr ⟨rfl,hn⟩
 ·cases e
  exact .inl hn
theorem relabel_free {scope:Scope} {env:Env} {x:Str}:∀ {names:List (Str × NameKind)},names.lookup x=some .free→
  ((names.map fun (n,k)=>if (k == NameKind.free && env.scope.kind == .function && env.kindOf n == some .cell) then (n,NameKind.cell) else (n,k)).lookup x=some .cell) ∨
  ((names.map fun (n,k)=>if (k == NameKind.free && env.scope.kind == .function && env.kindOf n == some .cell) then (n,NameKind.cell) else (n,k)).lookup x=some .free)
 | [],h=>by simp at h
 | (n,k) :: r,h=>by
  have ih:=@relabel_free scope env x r
  simp only [List.map_cons]
  cases hx:x == n with
  | true=>
   simp only [List.lookup_cons,hx] at h
   cases h
   by_cases hc:(NameKind.free == NameKind.free && env.scope.kind == .function && env.kindOf n == some .cell)=true
   ·left; rw [if_pos hc]; simp [List.lookup_cons,hx]
   ·right; rw [if_neg hc]; simp [List.lookup_cons,hx]
  | false=>
   simp only [List.lookup_cons,hx] at h
   by_cases hc:(k == NameKind.free && env.scope.kind == .function && env.kindOf n == some .cell)=true
   ·rw [if_pos hc]; simp only [List.lookup_cons,hx]; exact ih h
   ·rw [if_neg hc]; simp only [List.lookup_cons,hx]; exact ih h
section
variable {X:Cx} {pins:List (Addr × Obj)} {σ:L2.St} {H:Hp} {s:Shared}
theorem comp_start {N:List Str} {k:Nat} {caps:List Nat} {scope:Scope} {cl:List (Str × Addr)} {fp:List Addr} {h':Heap} {m:Str→Option Value} {t:Nat} (I:Inv X pins σ H s) (hX:X.calm=true) (C:CompScope X N k caps scope)
  (hcl:∀ x c,cl.lookup x=some c→X.env.cells.lookup x=some c) (hcf:∀ x ∈ scope.names,x.2=.free→∃ c,cl.lookup x.1=some c)
  (hfp:∀ b ∈ fp,FpOk X pins H b∧b < s.heap.objs.size) (hn:h'.Ns s.heap.objs.size m) (hk:∀ b o,s.heap.get? b=some o→h'.get? b=some o):
  Inv (cxC X N scope cl s H fp) pins (capSt k caps σ) H { s with heap:=h',toks:=t }:=by
 have hfs:∀ b,b ∈ frs X.stack→b < s.heap.objs.size:=fun b hb=>by
  obtain ⟨_,o,ho,_⟩:=I.stack.mem hb
  exact Heap.lt_size ho
 refine ⟨⟨I.ok.mod,C.kind,I.ok.glob,I.ok.blt,Nat.le_refl _,fun x y c h1 h2=>I.ok.inj x y c (hcl x c h1) (hcl y c h2),fun x hx=>?_,(fun x c h=>nomatch h),I.ok.hd,I.ok.frames,.inl rfl,fun b hb=>?_,fun b o e=>?_,?_,fun b o e hb=>?_,fun b hb=>?_,I.stack,fun b hb=>I.stkFree b hb⟩,
  rfl,I.bare,Un.kept hk,?_,fun x c e=>?_,I.hok.fresh (Nat.le_refl _),fun x c e=>I.freeC x c (hcl x c e),fun p hp=>?_,I.hok.kept hk,?_⟩
 ·-- has
  have key:∀ kk,(kk=NameKind.cell ∨ kk=NameKind.free)→(relabel scope X.env).names.lookup x=some kk→∃ c,cl.lookup x=some c:=fun kk hkk hl=>by
   rcases relabel_mem hl with z | ⟨_,z⟩
   ·rcases hkk with q | q
    ·subst q; exact absurd rfl (C.nocell _ z)
    ·subst q; exact hcf _ z rfl
   ·exact hcf _ z rfl
  rcases hx with z | z
  ·exact key _ (.inl rfl) z
  ·exact key _ (.inr rfl) z
 ·obtain ⟨f,lt⟩:=hfp b hb
  exact ⟨Nat.ne_of_lt lt,fun x c e=>f.2.2.2.2.1 x c (hcl x c e)⟩
 ·exact I.bs b o e
 ·exact Nat.le_trans I.ok.bsz I.sz
 ·obtain ⟨f,lt⟩:=hfp b hb
  rcases f.2.2.2.1 with z | z
  ·exact I.ok.noex b o e z
  ·exact absurd (Nat.lt_of_lt_of_le (Heap.lt_size e) (Nat.le_trans I.ok.bsz z)) (Nat.lt_irrefl _)
 ·obtain ⟨f,lt⟩:=hfp b hb
  intro z
  rcases List.mem_cons.mp (I.stkSub b z) with q | q
  ·exact f.2.1 q
  ·exact f.2.2.1 q
 ·obtain ⟨m0,hn0,hl0⟩:=I.loc
  refine ⟨m,hn,fun i x v e1 e2 e3=>?_⟩
  unfold capSt at e2
  by_cases hi:i < k
  ·rw [List.getElem?_append_left (by simpa using hi),List.getElem?_replicate] at e2
   split at e2 <;> cases e2
  ·rw [List.getElem?_append_right (by simpa using hi),List.getElem?_map,List.length_replicate] at e2
   cases ec:caps[i - k]? with
   | none=>rw [ec] at e2; cases e2
   | some j=>
    rw [ec] at e2
    have e2':(σ[j]?).join=some v:=Option.some.inj e2
    obtain ⟨y,hy1,hy2,hy3⟩:=C.cap _ _ ec
    have e1':N[i]?=some x:=e1
    rw [show k + (i - k)=i by omega] at hy2
    rw [hy2] at e1'
    have exy:y=x:=Option.some.inj e1'
    subst exy
    have hfr:(y,NameKind.free) ∈ scope.names:=mem_of_lookup' hy3
    have hsj:σ[j]?=some (some v):=by
     cases q:σ[j]? with
     | none=>rw [q] at e2'; cases e2'
     | some o=>rw [q] at e2'; rw [show o=some v from e2']
    have kinds:=C.free _ hfr rfl
    have hvis:Vis X.env.scope y:=by
     rcases kinds with z | z
     ·exact .inr (.inl z)
     ·exact .inr (.inr z)
    obtain ⟨u,ru,lk⟩:=hl0 j y v hy1 hsj hvis
    refine ⟨u,ru,?_⟩
    rcases lk with ⟨z,_⟩ | ⟨_,c,hc,hcell⟩
    ·rcases kinds with q | q <;> (rw [q] at z; cases z)
    ·obtain ⟨c',hc'⟩:=hcf _ hfr rfl
     have:=hcl _ _ hc'
     rw [hc] at this
     cases this
     refine .inr ⟨?_,c,hc',hcell.keeps hk⟩
     exact relabel_free (scope:=scope) (env:=X.env) hy3
 ·obtain ⟨v,z⟩:=I.cell x c (hcl x c e)
  exact ⟨v,z.keeps hk⟩
 ·obtain ⟨e,n,ne,nf,d⟩:=I.pin p hp
  refine ⟨hk _ _ e,n,Nat.ne_of_lt (Heap.lt_size e),fun z=>?_,d⟩
  rcases List.mem_cons.mp (I.stkSub _ z) with q | q
  ·exact ne q
  ·exact nf q
 ·unfold capSt
  show _=N.length
  rw [C.len]
  simp
end
def tComp (wi:TI) (k:Nat) (caps:List Nat) (g:TG) (tt:TT) (te:TE):TE:=fun σ H Q=>wi σ H fun J H1=>∀ p,H1 p=none→∃ W:Nat→Nat→L2.St→Hp→Prop,(∃ m,W 0 m (capSt k caps σ) (upd H1 p (.lst [])))∧∀ i m σ' H',W i m σ' H'→
 (J.stop i H'∧Q (.ref p) H') ∨ (J.go i H'∧∃ N:L2.St→Hp→Prop,(∀ σ2 H2,N σ2 H2→∃ m',m' < m∧W (i + 1) m' σ2 H2)∧
  ∀ x H3,J.yld i H' x H3→g x σ' H3 fun σ4 H4=>tt σ4 H4 fun b H5=>if b=true then te σ4 H5 fun y H6=>∃ ys,H6 p=some (.lst ys)∧ys.length < sizeLine∧N σ4 (upd H6 p (.lst (ys ++ [y]))) else N σ4 H5)
theorem pe_comp {X:Cx} {elt tg iter:Expr} {ifs:List Expr} {scope:Scope} {pos:Pos} {N:List Str} {k:Nat} {caps:List Nat} {wi:TI} {g:TG} {tt:TT} {te:TE} (hX:X.calm=true) (hxe:∀ e s,¬ X.xe e s) (C:CompScope X N k caps scope)
  (hi:PI X tg iter wi) (hg:∀ cl s0 H0 ex,PG (cxC X N scope cl s0 H0 ex) tg g) (ht:∀ cl s0 H0 ex,PIfs (cxC X N scope cl s0 H0 ex) ifs tt) (he:∀ cl s0 H0 ex,PE (cxC X N scope cl s0 H0 ex) elt te)
  (hs:autoParam (∀ x,foldedSetIterable iter X.env x=pure x) Au.h4._auto_1):PE X (.ListComp elt [⟨tg,iter,ifs,0⟩] scope pos) (tComp wi k caps g tt te):=by
 intro pins s σ H Q I h
 have noX:∀ {α:Type} {t:Sem α} {Q':α→Shared→Prop} {s':Shared},wpAny (model X.prog X.w) X.A t Q' X.xe s'→wpAny (model X.prog X.w) X.A t Q' (fun _ _=>False) s':=fun h=>wpAny_mono h (fun _ _ x=>x) fun e s z=>hxe e s z
 obtain ⟨cl,hclos,hcl,hcf⟩:=closure_for (scope:=scope) (env:=X.env) fun x hx hf=>I.ok.has _ (C.free x hx hf)
 rw [eval_ListComp]
 refine wpAny_comprehension_free (use:=none) (cl:=cl) rfl hs hclos C.kind C.names ?_
 refine thn (hi pins s σ H _ I h) fun v s1 h1=>thn h1 fun itv s2 h2=>?_
 obtain ⟨it,fp,tn,J,H2,e,I2,T,st2,f2,q⟩:=h2
 subst e
 refine wpAny_newList (items:=[]) ?_ (by show 0≤sizeLine; exact Nat.zero_le _)
 have hp:H2 s2.heap.objs.size=none:=I2.hok.fresh (Nat.le_refl _)
 obtain ⟨W,⟨m0,w0⟩,turn⟩:=q _ hp
 have I3:Inv X pins σ (upd H2 s2.heap.objs.size (.lst [])) { s2 with heap:=s2.heap.push { cls:=.type "list",data:=.seq ([]:List Value).toArray } }:=
  I2.laid (t':=s2.toks) (fun b u e=>Heap.get?_push_of_some _ e) (Nat.le_refl _) ⟨Nat.zero_le _,[],0,.nil,Heap.get?_push_size _ rfl⟩
 refine wpAny_newFunctionEnv C.nocell (fun x hx=>nomatch hx) (fun h4 hn4 hs4=>?_) C.kind
 have ltfp:∀ b ∈ fp,b < s2.heap.objs.size:=fun b hb=>by
  obtain ⟨o,ho,_⟩:=T.obj _ _ st2 b hb
  exact Heap.lt_size ho
 have hk4:∀ b o,(s2.heap.push { cls:=.type "list",data:=.seq ([]:List Value).toArray }).get? b=some o→h4.get? b=some o:=fun b o e=>by
  have ne:b ≠ (s2.heap.push { cls:=.type "list",data:=.seq ([]:List Value).toArray }).objs.size:=Nat.ne_of_lt (Heap.lt_size e)
  rw [hs4.2 b ne]
  exact Heap.get?_push_of_some _ e
 have f3:∀ b ∈ fp,FpOk X pins (upd H2 s2.heap.objs.size (.lst [])) b:=fun b hb=>by
  obtain ⟨a1,a2⟩:=f2 b hb
  exact ⟨by rw [upd_ne (Nat.ne_of_lt (ltfp b hb))]; exact a1,a2⟩
 have I4:=comp_start (N:=N) (k:=k) (caps:=caps) (scope:=scope) (cl:=cl) (fp:=fp) (t:=s2.toks + 0) I3 hX C hcl hcf (fun b hb=>⟨f3 b hb,by rw [show ({ s2 with heap:=s2.heap.push { cls:=.type "list",data:=.seq ([]:List Value).toArray } }:Shared).heap.objs.size=s2.heap.objs.size + 1 from Heap.size_push ..]; exact Nat.lt_succ_of_lt (ltfp b hb)⟩) hn4 hk4
 have tn4:tn 0 h4:=T.keep _ _ _ st2 fun b hb o e=>hk4 b o (Heap.get?_push_of_some _ e)
 have loop:codeAny (model X.prog X.w) X.A (.compLoop (.ListComp elt [⟨tg,iter,ifs,0⟩] scope pos) 0 (.ref it) (.ref s2.heap.objs.size) (compEnvC scope cl ({ s2 with heap:=s2.heap.push { cls:=.type "list",data:=.seq ([]:List Value).toArray } }:Shared).heap.objs.size X.env))
   (compPost (model X.prog X.w) X.A X.xe none (EP X pins σ Q) (.ref s2.heap.objs.size) ({ s2 with heap:=s2.heap.push { cls:=.type "list",data:=.seq ([]:List Value).toArray } }:Shared).heap.objs.size) { s2 with heap:=h4,toks:=s2.toks + 0 }:=by
  generalize hs3:({ s2 with heap:=s2.heap.push { cls:=.type "list",data:=.seq ([]:List Value).toArray } }:Shared)=s3 at *
  have sz3:s2.heap.objs.size≤s3.heap.objs.size:=by rw [← hs3]; show _≤(s2.heap.push _).objs.size; rw [Heap.size_push]; exact Nat.le_succ _
  have k23:∀ b o,s2.heap.get? b=some o→s3.heap.get? b=some o:=fun b o e=>by rw [← hs3]; exact Heap.get?_push_of_some _ e
  have hos:s3.os=s2.os:=by rw [← hs3]
  have stat:∀ {H':Hp},(∀ b ∈ fp,H' b=none)→∀ b ∈ fp,FpOk (cxC X N scope cl s3 (upd H2 s2.heap.objs.size (.lst [])) fp) pins H' b:=fun {H'} hn b hb=>by
   obtain ⟨a1,a2,a3,a4,a5,a6⟩:=f3 b hb
   refine ⟨hn b hb,Nat.ne_of_lt (Nat.lt_of_lt_of_le (ltfp b hb) sz3),fun z=>?_,.inl hb,fun x c e=>a5 x c (hcl x c e),a6⟩
   rcases List.mem_cons.mp (I2.stkSub b z) with q | q
   ·exact a2 q
   ·exact a3 q
  have I4':Inv (cxC X N scope cl s3 (upd H2 s2.heap.objs.size (.lst [])) fp) pins (capSt k caps σ) (upd H2 s2.heap.objs.size (.lst [])) { s2 with heap:=h4,toks:=s2.toks + 0 }:=by subst hs3; exact I4
  refine compLoop_all (fun n s'=>∃ i σ' H',Inv (cxC X N scope cl s3 (upd H2 s2.heap.objs.size (.lst [])) fp) pins σ' H' s'∧tn i s'.heap∧(∀ b ∈ fp,H' b=none)∧W i n σ' H') ?_ m0 ⟨0,_,_,I4',tn4,fun b hb=>(f3 b hb).1,w0⟩
  rintro n s5 ⟨i,σ5,H5,I5,st5,fr5,w5⟩
  rcases turn i n σ5 H5 w5 with ⟨stop,qn⟩ | ⟨go,Nn,hN,step⟩
  ·refine thn (T.done (cxC X N scope cl s3 (upd H2 s2.heap.objs.size (.lst [])) fp) rfl rfl rfl hX i pins s5 σ5 H5 _ I5 (stat fr5) st5 stop) fun r s6 zq=>?_
   obtain ⟨hr,I6⟩:=zq
   subst hr
   obtain ⟨m6,hn6,_⟩:=I6.loc
   refine ⟨m6,hn6,fun h7 hs7=>⟨.ref s2.heap.objs.size,H5,?_,rfl,qn⟩⟩
   have u1:Un (frs X.stack) fp H2 (upd H2 s2.heap.objs.size (.lst [])) s2.heap s3.heap:=Un.laid k23 (Nat.le_refl _) hp
   have u2:Un (frs X.stack) fp H2 H5 s2.heap s6.heap:=u1.trans I6.base
   have neC:∀ b o,s2.heap.get? b=some o→b ≠ s3.heap.objs.size:=fun b o e=>Nat.ne_of_lt (Nat.lt_of_lt_of_le (Heap.lt_size e) sz3)
   have hfree:H5 s3.heap.objs.size=none:=I6.free
   refine I2.call' (s':={ s6 with heap:=h7 }) (ch:=fp) (by rw [← hos]; exact I6.os) ⟨fun b o e n hb hx=>?_,fun b o e n hb hx=>?_,u2.free,fun b o e hx=>?_,u2.tups,u2.frzs,u2.tbls⟩ (fun b ob e=>?_) I6.bare fun b hb=>?_
   ·exact (hs7.2 b (neC b o e)).trans (u2.keep b o e n hb hx)
   ·obtain ⟨sl,e1⟩:=u2.slot b o e n hb hx
    exact ⟨sl,(hs7.2 b (neC b o e)).trans e1⟩
   ·obtain ⟨o',e1⟩:=u2.there b o e hx
    exact ⟨o',(hs7.2 b (neC b o e)).trans e1⟩
   ·refine (I6.hok b ob e).stay (fun c v hc z=>(hs7.2 c ?_).trans z) (fun _ z=>z) fun _ _ z=>z
    intro y
    rcases hc with z | z
    ·rw [← z,y,hfree] at e; cases e
    ·rw [y,hfree] at z; cases z
   ·obtain ⟨a1,a2,a3,a4,a5,a6⟩:=f2 b hb
    exact ⟨a4,a2,a5,a6⟩
  ·refine thn (T.item (cxC X N scope cl s3 (upd H2 s2.heap.objs.size (.lst [])) fp) rfl rfl rfl hX i pins s5 σ5 H5 _ I5 (stat fr5) st5 go) fun r s6 zq=>?_
   obtain ⟨u,hr,h6⟩:=zq
   subst hr
   refine thn h6 fun _ s7 zq=>?_
   obtain ⟨x,H7,I7,r7,y7,st7,fr7⟩:=zq
   have I7':=I7.pinned (stat fr7) (T.obj _ _ st7)
   refine noX (thn (hg cl s3 _ fp _ s7 σ5 H7 x u _ I7' r7 (step x H7 y7)) fun _ s8 zq=>?_)
   obtain ⟨σ8,H8,I8,q8⟩:=zq
   refine noX (thn (ht cl s3 _ fp _ s8 σ8 H8 _ I8 q8) fun ok s9 zq=>?_)
   obtain ⟨H9,I9,q9⟩:=zq
   have again:∀ {s':Shared} {σ':L2.St} {H':Hp},Inv (cxC X N scope cl s3 (upd H2 s2.heap.objs.size (.lst [])) fp) (pins ++ pinsAt fp s7.heap) σ' H' s'→Nn σ' H'→
     ∃ m,m < n∧∃ i σ' H',Inv (cxC X N scope cl s3 (upd H2 s2.heap.objs.size (.lst [])) fp) pins σ' H' s'∧tn i s'.heap∧(∀ b ∈ fp,H' b=none)∧W i m σ' H':=fun {s' σ' H'} I' n'=>by
    obtain ⟨m',hm,w'⟩:=hN σ' H' n'
    refine ⟨m',hm,i + 1,σ',H',I'.unpinned,T.keep _ _ _ st7 fun b hb o e=>(I'.pin (b,o) (List.mem_append_right _ (List.mem_append_right _ (mem_pinsAt hb e)))).1,fun b hb=>?_,w'⟩
    obtain ⟨o,e,d⟩:=T.obj _ _ st7 b hb
    exact (I'.pin (b,o) (List.mem_append_right _ (List.mem_append_right _ (mem_pinsAt hb e)))).2.1
   cases ok with
   | false=>exact again I9 q9
   | true=>
    refine noX (thn (he cl s3 _ fp _ s9 σ8 H9 _ I9 q9) fun y s10 zq=>?_)
    obtain ⟨yv,H10,I10,r10,ys,hys,hlt,q10⟩:=zq
    refine noX (thn (mt_append (X:=cxC X N scope cl s3 (upd H2 s2.heap.objs.size (.lst [])) fp) _ s10 σ8 H10 (.ref s2.heap.objs.size) [yv] _ [y] (fun _ H'=>Nn σ8 H') I10 rfl (.cons r10 .nil) ⟨_,ys,yv,rfl,rfl,hys,hlt,q10⟩) fun _ s11 zq=>?_)
    obtain ⟨_,H11,I11,_,q11⟩:=zq
    exact again I11 q11
 exact codeAny_compStart_list loop (T.self X.A 0 _ _ _ tn4 loop)
end PD
namespace PD
open PySem PySem.Spec PyProof.Rows L2
def smallI (i:Int):Prop:=-(2 ^ 64) < i∧i < 2 ^ 64
noncomputable instance (i:Int):Decidable (smallI i):=by unfold smallI; infer_instance
def oAdd:Sto→D→D→Option D
 | _,.int i,.int j=>some (.int (i + j))
 | _,.str a,.str b=>if a.length + b.length≤sizeLine then some (.str (a ++ b)) else none
 | _,.tup a,.tup b=>if a.length + b.length≤sizeLine then some (.tup (a ++ b)) else none
 | _,.lst a,.lst b=>if a.length + b.length≤sizeLine then some (.lst (a ++ b)) else none
 | _,_,_=>none
def oSub:Sto→D→D→Option D
 | _,.int i,.int j=>some (.int (i - j))
 | _,_,_=>none
def oMul:Sto→D→D→Option D
 | _,.int i,.int j=>if smallI i ∨ smallI j then some (.int (i * j)) else none
 | _,.tup a,.int k=>if -(2 ^ 63)≤k∧k < 2 ^ 63∧a.length * k.toNat≤sizeLine then some (.tup (List.replicate k.toNat a).flatten) else none
 | _,.lst a,.int k=>if -(2 ^ 63)≤k∧k < 2 ^ 63∧a.length * k.toNat≤sizeLine then some (.lst (List.replicate k.toNat a).flatten) else none
 | _,_,_=>none
def oFdiv:Sto→D→D→Option D
 | _,.int i,.int j=>if 0 < j∧j < 1073741824 then some (.int (i / j)) else none
 | _,_,_=>none
def oMod:Sto→D→D→Option D
 | _,.int i,.int j=>if 0 < j then some (.int (i % j)) else none
 | _,_,_=>none
def oPow:Sto→D→D→Option D
 | _,.int i,.int j=>if 0≤j∧j≤1000000∧i.natAbs < 2 ^ 64 then some (.int (i ^ j.toNat)) else none
 | _,_,_=>none
def oShl:Sto→D→D→Option D
 | _,.int i,.int j=>if 0≤j∧j≤1000000∧i.natAbs < 2 ^ 64 then some (.int (i * 2 ^ j.toNat)) else none
 | _,_,_=>none
def oNeg:Sto→D→Option D
 | _,.int i=>some (.int (-i))
 | _,_=>none
def oCmp (p:Int→Int→Bool):Sto→D→D→Option D
 | _,.int i,.int j=>some (.bl (p i j))
 | _,_,_=>none
abbrev oLt:=oCmp fun i j=>decide (i < j)
abbrev oLe:=oCmp fun i j=>decide (i≤j)
abbrev oGt:=oCmp fun i j=>decide (j < i)
abbrev oGe:=oCmp fun i j=>decide (j≤i)
def eqS:D→D→Option Bool
 | .int i,.int j=>some (decide (i=j))
 | .bl i,.bl j=>some (decide (i=j))
 | .str i,.str j=>some (decide (i=j))
 | .non,.non=>some true
 | .non,.int _=>some false
 | .int _,.non=>some false
 | .non,.bl _=>some false
 | .bl _,.non=>some false
 | .non,.str _=>some false
 | .str _,.non=>some false
 | .int _,.str _=>some false
 | .str _,.int _=>some false
 | .bl _,.str _=>some false
 | .str _,.bl _=>some false
 | _,_=>none
def oEq:Sto→D→D→Option D:=fun _ a b=>(eqS a b).map .bl
def oNe:Sto→D→D→Option D:=fun _ a b=>(eqS a b).map fun c=>.bl (!c)
def flatD:D→Bool
 | .non=>true
 | .bl _=>true
 | .int _=>true
 | .str _=>true
 | _=>false
def eqF:D→D→Bool
 | .non,.non=>true
 | .bl a,.bl b=>a == b
 | .bl a,.int b=>(if a then 1 else 0) == b
 | .int a,.bl b=>a == (if b then 1 else 0)
 | .int a,.int b=>a == b
 | .str a,.str b=>a == b
 | _,_=>false
def seqOf (S:Sto):D→Option (List D)
 | .tup a=>some a
 | .lst a=>some a
 | .fz a=>some a
 | .ref n=>match S[n]? with
  | some (.lst a)=>some a
  | some (.flst a)=>some a
  | _=>none
 | _=>none
def oIx:Sto→D→D→Option D:=fun S x y=>match seqOf S x,y with
 | some a,.int i=>atI a i
 | _,_=>none
def cutD (xs:List D) (lo hi:Option Int):List D:=(xs.drop (HT.sIx xs.length 0 lo)).take (HT.sIx xs.length xs.length hi - HT.sIx xs.length 0 lo)
section
variable {X:Cx} {E:XK}
theorem RD.int {K:PySem.W.Frag} {w:Wd} {H:Hp} {i:Int} {v:V} (q:RD K w H (.int i) v):v=.int i:=by unfold RD at q; exact q
theorem RD.bl {K:PySem.W.Frag} {w:Wd} {H:Hp} {i:Bool} {v:V} (q:RD K w H (.bl i) v):v=.bl i:=by unfold RD at q; exact q
theorem RD.str {K:PySem.W.Frag} {w:Wd} {H:Hp} {i:Str} {v:V} (q:RD K w H (.str i) v):v=.str i:=by unfold RD at q; exact q
theorem RD.non {K:PySem.W.Frag} {w:Wd} {H:Hp} {v:V} (q:RD K w H .non v):v=.non:=by unfold RD at q; exact q
theorem RD.mkI {K:PySem.W.Frag} {w:Wd} {H:Hp} {i:Int}:RD K w H (.int i) (.int i):=by unfold RD; rfl
theorem RD.mkB {K:PySem.W.Frag} {w:Wd} {H:Hp} {i:Bool}:RD K w H (.bl i) (.bl i):=by unfold RD; rfl
theorem RD.mkS {K:PySem.W.Frag} {w:Wd} {H:Hp} {i:Str}:RD K w H (.str i) (.str i):=by unfold RD; rfl
theorem RD.tupI {K:PySem.W.Frag} {w:Wd} {H:Hp} {ds:List D} {v:V} (q:RD K w H (.tup ds) v):∃ a vs,v=.ref a∧(At w H a (.tup vs) ∨ KTup K a vs)∧RDs K w H ds vs:=by unfold RD at q; exact q
theorem RD.lstI {K:PySem.W.Frag} {w:Wd} {H:Hp} {ds:List D} {v:V} (q:RD K w H (.lst ds) v):∃ a vs,v=.ref a∧At w H a (.lst vs)∧RDs K w H ds vs:=by unfold RD at q; exact q
theorem RD.fzI {K:PySem.W.Frag} {w:Wd} {H:Hp} {ds:List D} {v:V} (q:RD K w H (.fz ds) v):∃ a vs,v=.ref a∧FzAt K w H a vs∧RDs K w H ds vs:=by unfold RD at q; exact q
theorem RD.refI {K:PySem.W.Frag} {w:Wd} {H:Hp} {n:Nat} {v:V} (q:RD K w H (.ref n) v):∃ a,v=.ref a∧w.st[n]?=some a:=by unfold RD at q; exact q
theorem RD.newTup {K:PySem.W.Frag} {w:Wd} {H:Hp} {S:Sto} {ds:List D} {vs:List V} {p:Addr} (s:RS K w H S) (hp:H p=none) (q:RDs K w H ds vs):RD K w (upd H p (.tup vs)) (.tup ds) (.ref p):=by
 unfold RD
 exact ⟨p,vs,rfl,.inl ⟨upd_same,s.fresh hp⟩,RDs.ext (Ext.new hp) _ _ q⟩
theorem RD.newLst {K:PySem.W.Frag} {w:Wd} {H:Hp} {S:Sto} {ds:List D} {vs:List V} {p:Addr} (s:RS K w H S) (hp:H p=none) (q:RDs K w H ds vs):RD K w (upd H p (.lst vs)) (.lst ds) (.ref p):=by
 unfold RD
 exact ⟨p,vs,rfl,⟨upd_same,s.fresh hp⟩,RDs.ext (Ext.new hp) _ _ q⟩
theorem opII {f:Value→Value→Sem Value} {C:Int→Int→Prop} {g:Int→Int→D} {gv:Int→Int→V} {o:Sto→D→D→Option D} (h:OpR X f (rI C gv)) (hg:∀ K w H i j,RD K w H (g i j) (gv i j))
  (ho:∀ S d e z,o S d e=some z→∃ i j,d=.int i∧e=.int j∧C i j∧z=g i j):OpR X f (xO X.K E o):=by
 rintro pins s σ H x y v u Q I rx ry ⟨w,S,d,e,hS,qd,qe,p⟩
 obtain ⟨z,hz,p⟩:=p.of
 obtain ⟨i,j,rfl,rfl,c,rfl⟩:=ho _ _ _ _ hz
 cases qd.int
 cases qe.int
 exact h pins s σ H _ _ v u Q I rx ry ⟨i,j,rfl,rfl,c,p.ret (hg _ _ _ _ _) hS⟩
theorem opII0 {f:Value→Value→Sem Value} {g:Int→Int→D} {gv:Int→Int→V} {o:Sto→D→D→Option D} (h:OpR X f (rI0 gv)) (hg:∀ K w H i j,RD K w H (g i j) (gv i j))
  (ho:∀ S d e z,o S d e=some z→∃ i j,d=.int i∧e=.int j∧z=g i j):OpR X f (xO X.K E o):=by
 rintro pins s σ H x y v u Q I rx ry ⟨w,S,d,e,hS,qd,qe,p⟩
 obtain ⟨z,hz,p⟩:=p.of
 obtain ⟨i,j,rfl,rfl,rfl⟩:=ho _ _ _ _ hz
 cases qd.int
 cases qe.int
 exact h pins s σ H _ _ v u Q I rx ry ⟨i,j,rfl,rfl,p.ret (hg _ _ _ _ _) hS⟩
theorem xo_sub:OpR X (binaryOp .Sub) (xO X.K E oSub):=opII0 (g:=fun i j=>.int (i - j)) op_sub (fun _ _ _ _ _=>RD.mkI) fun S d e z h=>by
 unfold oSub at h; split at h
 ·cases h; exact ⟨_,_,rfl,rfl,rfl⟩
 ·cases h
theorem xo_fdiv:OpR X (binaryOp .FloorDiv) (xO X.K E oFdiv):=opII (g:=fun i j=>.int (i / j)) op_fdiv (fun _ _ _ _ _=>RD.mkI) fun S d e z h=>by
 unfold oFdiv at h; split at h
 ·split at h
  ·cases h; exact ⟨_,_,rfl,rfl,by assumption,rfl⟩
  ·cases h
 ·cases h
theorem xo_mod:OpR X (binaryOp .Mod) (xO X.K E oMod):=opII (g:=fun i j=>.int (i % j)) op_mod (fun _ _ _ _ _=>RD.mkI) fun S d e z h=>by
 unfold oMod at h; split at h
 ·split at h
  ·cases h; exact ⟨_,_,rfl,rfl,by assumption,rfl⟩
  ·cases h
 ·cases h
theorem xo_pow:OpR X (binaryOp .Pow) (xO X.K E oPow):=opII (g:=fun i j=>.int (i ^ j.toNat)) op_pow (fun _ _ _ _ _=>RD.mkI) fun S d e z h=>by
 unfold oPow at h; split at h
 ·split at h
  ·cases h; exact ⟨_,_,rfl,rfl,by assumption,rfl⟩
  ·cases h
 ·cases h
theorem xo_shl:OpR X (binaryOp .LShift) (xO X.K E oShl):=opII (g:=fun i j=>.int (i * 2 ^ j.toNat)) op_shl (fun _ _ _ _ _=>RD.mkI) fun S d e z h=>by
 unfold oShl at h; split at h
 ·split at h
  ·cases h; exact ⟨_,_,rfl,rfl,by assumption,rfl⟩
  ·cases h
 ·cases h
theorem oCmp_inv {p:Int→Int→Bool} {S:Sto} {d e z:D} (h:oCmp p S d e=some z):∃ i j,d=.int i∧e=.int j∧z=.bl (p i j):=by
 unfold oCmp at h; split at h
 ·cases h; exact ⟨_,_,rfl,rfl,rfl⟩
 ·cases h
theorem xo_lt:OpR X (compareOp .Lt) (xO X.K E oLt):=opII0 (g:=fun i j=>.bl (decide (i < j))) op_lt (fun _ _ _ _ _=>RD.mkB) fun S d e z h=>oCmp_inv h
theorem xo_le:OpR X (compareOp .LtE) (xO X.K E oLe):=opII0 (g:=fun i j=>.bl (decide (i≤j))) op_le (fun _ _ _ _ _=>RD.mkB) fun S d e z h=>oCmp_inv h
theorem xo_gt:OpR X (compareOp .Gt) (xO X.K E oGt):=opII0 (g:=fun i j=>.bl (decide (j < i))) op_gt (fun _ _ _ _ _=>RD.mkB) fun S d e z h=>oCmp_inv h
theorem xo_ge:OpR X (compareOp .GtE) (xO X.K E oGe):=opII0 (g:=fun i j=>.bl (decide (j≤i))) op_ge (fun _ _ _ _ _=>RD.mkB) fun S d e z h=>oCmp_inv h
theorem xu_neg:UnR X (unaryOp .USub) (xU X.K E oNeg):=by
 rintro pins s σ H x v Q I rx ⟨w,S,d,hS,qd,p⟩
 obtain ⟨z,hz,p⟩:=p.of
 unfold oNeg at hz; split at hz
 ·cases hz
  cases qd.int
  exact un_neg pins s σ H _ v Q I rx ⟨_,rfl,p.ret RD.mkI hS⟩
 ·cases hz
theorem eqS_ok {K:PySem.W.Frag} {w:Wd} {H:Hp} {d e:D} {x y:V} {c:Bool} (qd:RD K w H d x) (qe:RD K w H e y) (h:eqS d e=some c):scal x y=true∧decide (x=y)=c:=by
 unfold eqS at h
 split at h <;> (try (cases h; done)) <;> (unfold RD at qd qe; subst qd; subst qe; cases h; refine ⟨rfl,?_⟩; simp)
theorem xo_eq:OpR X (compareOp .Eq) (xO X.K E oEq):=by
 rintro pins s σ H x y v u Q I rx ry ⟨w,S,d,e,hS,qd,qe,p⟩
 obtain ⟨z,hz,p⟩:=p.of
 unfold oEq at hz
 cases h:eqS d e with
 | none=>rw [h] at hz; cases hz
 | some c=>
  rw [h] at hz; cases hz
  obtain ⟨h1,h2⟩:=eqS_ok qd qe h
  exact op_eq pins s σ H _ _ v u Q I rx ry ⟨h1,by rw [h2]; exact p.ret RD.mkB hS⟩
theorem xo_ne:OpR X (compareOp .NotEq) (xO X.K E oNe):=by
 rintro pins s σ H x y v u Q I rx ry ⟨w,S,d,e,hS,qd,qe,p⟩
 obtain ⟨z,hz,p⟩:=p.of
 unfold oNe at hz
 cases h:eqS d e with
 | none=>rw [h] at hz; cases hz
 | some c=>
  rw [h] at hz; cases hz
  obtain ⟨h1,h2⟩:=eqS_ok qd qe h
  exact op_ne pins s σ H _ _ v u Q I rx ry ⟨h1,by rw [h2]; exact p.ret RD.mkB hS⟩
theorem seq_ok {K:PySem.W.Frag} {w:Wd} {H:Hp} {S:Sto} {d:D} {v:V} {a:List D} (s:RS K w H S) (q:RD K w H d v) (h:seqOf S d=some a):∃ p vs,v=.ref p∧(SqL K H p vs ∨ SqT K H p vs)∧RDs K w H a vs:=by
 unfold seqOf at h
 split at h
 ·cases h; obtain ⟨p,vs,e,z,r⟩:=q.tupI; exact ⟨p,vs,e,.inr (SqT_of z),r⟩
 ·cases h; obtain ⟨p,vs,e,z,r⟩:=q.lstI; exact ⟨p,vs,e,.inl (SqL.of z.1),r⟩
 ·cases h; obtain ⟨p,vs,e,z,r⟩:=q.fzI; exact ⟨p,vs,e,.inl z.sq,r⟩
 ·split at h
  ·rename_i n b hn
   cases h
   obtain ⟨p,e,hp⟩:=q.refI
   obtain ⟨p',hp',vs,hv,r⟩:=s.obj _ _ hn
   rw [hp] at hp'; cases hp'
   exact ⟨p,vs,e,.inl (SqL.of hv),r⟩
  ·rename_i n b hn
   cases h
   obtain ⟨p,e,hp⟩:=q.refI
   obtain ⟨p',hp',o,vs,hv,r⟩:=s.obj _ _ hn
   rw [hp] at hp'; cases hp'
   exact ⟨p,vs,e,.inl (.inl (.inr ⟨o,hv⟩)),r⟩
  ·cases h
 ·cases h
theorem RDs.atI {K:PySem.W.Frag} {w:Wd} {H:Hp} {a:List D} {vs:List V} {i:Int} {d:D} (r:RDs K w H a vs) (h:atI a i=some d):∃ v,L2.atI vs i=some v∧RD K w H d v:=by
 unfold L2.atI at h ⊢
 rw [r.length]
 cases e:ixN a.length i with
 | none=>rw [e] at h; cases h
 | some j=>
  rw [e] at h
  obtain ⟨v,ev,rv⟩:=r.get (show a[j]?=some d from h)
  exact ⟨v,ev,rv⟩
theorem xi_ix:IxR X (xO X.K E oIx):=by
 rintro va sl pins s σ H x y v u Q I rx ry ⟨w,S,d,e,hS,qd,qe,p⟩ hsub
 obtain ⟨z,hz,p'⟩:=p.of
 clear p
 unfold oIx at hz
 split at hz
 ·rename_i a i ha
  obtain ⟨q,vs,rfl,sq,r⟩:=seq_ok hS qd ha
  cases qe.int
  obtain ⟨v',ev,rv⟩:=r.atI hz
  exact ix_seq va sl pins s σ H _ _ v u Q I rx ry (sq.elim (fun z=>.inl ⟨q,vs,i,v',rfl,rfl,z,ev,p'.ret rv hS⟩) fun z=>.inr (.inl ⟨q,vs,i,v',rfl,rfl,z,ev,p'.ret rv hS⟩)) hsub
 ·cases hz
theorem flat_ok {K:PySem.W.Frag} {w:Wd} {H:Hp} {d:D} {v:V} (q:RD K w H d v) (h:flatD d=true):flatV v=true:=by
 unfold flatD at h
 split at h
 ·cases q.non; rfl
 ·cases q.bl; rfl
 ·cases q.int; rfl
 ·cases q.str; rfl
 ·cases h
theorem flats_ok {K:PySem.W.Frag} {w:Wd} {H:Hp}:∀ {ds:List D} {vs:List V},RDs K w H ds vs→ds.all flatD=true→vs.all flatV=true
 | [],_,q,_=>by rw [q.nil_inv]; rfl
 | d :: ds,_,q,h=>by
  obtain ⟨v,r,rfl,p,t⟩:=q.cons_inv
  rw [List.all_cons,Bool.and_eq_true] at h ⊢
  exact ⟨flat_ok p h.1,flats_ok t h.2⟩
theorem eqF_ok {K:PySem.W.Frag} {w:Wd} {H:Hp} {d e:D} {x y:V} (qd:RD K w H d x) (qe:RD K w H e y) (h1:flatD d=true) (h2:flatD e=true):eqV x y=eqF d e:=by
 unfold flatD at h1 h2
 split at h1 <;> (try (cases h1; done)) <;> split at h2 <;> (try (cases h2; done)) <;> (unfold RD at qd qe; subst qd; subst qe; rfl)
end
end PD
namespace PD
open PySem PySem.Spec PyProof.Rows L2
section
open PySem.SeqAt
open PySem.AutoSeq1 (wpAny_loadPart')
open PySem.MeetsSeq PySem.MeetsSeq2 PySem.MeetsSeq3
theorem int_rmul_tup (a:Int) (t:Tok) (l:Addr) (items:Array Value) (n:Nat) (dd:Option Addr) (sl:Array (Option Value)):
  Meets (Builtin.«int.__rmul__» ⟨[.int a t,.ref l],[]⟩) (fun _ R s=>s.heap.get? l=some { cls:=.type "tuple",dict:=dd,data:=.seq items n,slots:=sl }∧R (.ok (.ret Value.notImplemented)) s):=
 .of_wp fun prog w A R s h=>by obtain ⟨hp,g,d,tk,os⟩:=s; obtain ⟨hl,h⟩:=h; wp_walk using wpAny_loadPart' hl; exact ⟨_,rfl,h⟩
theorem tup_mul_same (l:Addr) (items:Array Value) (n:Nat) (k:Int) (t:Tok) (dd:Option Addr) (sl:Array (Option Value)) (h1:¬ (decide (k < -(2 ^ 63)) || decide (k ≥ 2 ^ 63))=true) (h2:(items.isEmpty || k == 1)=true):
  Meets (Builtin.«tuple.__mul__» ⟨[.ref l,.int k t],[]⟩) (fun _ R s=>s.heap.get? l=some { cls:=.type "tuple",dict:=dd,data:=.seq items n,slots:=sl }∧R (.ok (.ret (.ref l))) s):=
 .of_wp fun prog w A R s h=>by obtain ⟨hp,g,d,tk,os⟩:=s; obtain ⟨hl,h⟩:=h; have f1:=AutoSeq1.idx_int; wp_walk using wpAny_loadPart' hl; rw [if_neg h1]; wp_walk using wpAny_loadPart' hl; exact ⟨_,rfl,h⟩
theorem tup_mul_none (l:Addr) (items:Array Value) (n:Nat) (k:Int) (t:Tok) (dd:Option Addr) (sl:Array (Option Value)) (h1:¬ (decide (k < -(2 ^ 63)) || decide (k ≥ 2 ^ 63))=true) (h2:¬ (items.isEmpty || k == 1)=true) (h3:(decide (k≤0) || items.isEmpty)=true):
  Meets (Builtin.«tuple.__mul__» ⟨[.ref l,.int k t],[]⟩) (fun _ R s=>s.heap.get? l=some { cls:=.type "tuple",dict:=dd,data:=.seq items n,slots:=sl }∧R (.ok (.ret (Value.ref s.heap.objs.size))) { s with heap:=s.heap.push { cls:=Value.type "tuple",data:=Data.seq #[] },toks:=s.toks }):=
 .of_wp fun prog w A R s h=>by obtain ⟨hp,g,d,tk,os⟩:=s; obtain ⟨hl,h⟩:=h; have f1:=AutoSeq1.idx_int; wp_walk using wpAny_loadPart' hl; rw [if_neg h1]; wp_walk using wpAny_loadPart' hl; exact ⟨_,rfl,h⟩
theorem tup_mul_more (l:Addr) (items:Array Value) (n:Nat) (k:Int) (t:Tok) (dd:Option Addr) (sl:Array (Option Value)) (h1:¬ (decide (k < -(2 ^ 63)) || decide (k ≥ 2 ^ 63))=true) (h2:¬ (items.isEmpty || k == 1)=true) (h3:¬ (decide (k≤0) || items.isEmpty)=true)
  (h4:¬ (items.size:Int) * k > (2 ^ 63 - 1) / 8) (h5:¬ Builtin.Tuple.tupleTooMany ((items.size:Int) * k)=true) (hsz:(List.foldl (fun x1 x2=>x1 ++ x2) #[] (List.replicate k.toNat items)).size≤sizeLine):
  Meets (Builtin.«tuple.__mul__» ⟨[.ref l,.int k t],[]⟩) (fun _ R s=>s.heap.get? l=some { cls:=.type "tuple",dict:=dd,data:=.seq items n,slots:=sl }∧R (.ok (.ret (Value.ref s.heap.objs.size))) { s with heap:=s.heap.push { cls:=Value.type "tuple",data:=Data.seq (List.foldl (fun x1 x2=>x1 ++ x2) #[] (List.replicate k.toNat items)) },toks:=s.toks }):=
 .of_wp fun prog w A R s h=>by obtain ⟨hp,g,d,tk,os⟩:=s; obtain ⟨hl,h⟩:=h; have f1:=AutoSeq1.idx_int; wp_walk using wpAny_loadPart' hl; rw [if_neg h1]; wp_walk using wpAny_loadPart' hl; rw [if_neg h4]; wp_walk using wpAny_loadPart' hl; exact ⟨_,rfl,h⟩
end
section
variable {prog:Program} {w:World} {A:Around} {E:Value→Shared→Prop} {s:Shared}
theorem noFill_tuple_mul:fillsNumberSlot (.type "tuple") "mul" = pure false:=
 PySem.fillsNumberSlot_seq (id:="tuple.__mul__") (r:=some (.builtin "tuple.__rmul__")) F.slot_tuple_mul.lookup (by decide +kernel) F.slot_tuple_rmul.lookup (by decide +kernel)
theorem repeat_tuple:seqRepeat? (.type "tuple")=pure (some (.builtin "tuple.__mul__")):=by
 unfold seqRepeat?
 rw [PySem.seqSlot_of (T:="tuple") (name:="__mul__") (id:="tuple.__mul__") F.slot_tuple_mul.lookup (by decide +kernel),PySem.seqSlot_of (T:="tuple") (name:="__rmul__") (id:="tuple.__rmul__") F.slot_tuple_rmul.lookup (by decide +kernel)]
 rfl
theorem rep_tup {t:Addr} {vs:List Value} {k:Int} {tk:Tok} {Q:Value→Shared→Prop} (ht:IsTup s.heap t vs.toArray) (h1:-(2 ^ 63)≤k) (h2:k < 2 ^ 63) (hz:vs.length * k.toNat≤sizeLine)
  (q1:(vs=[] ∨ k=1)→Q (.ref t) s) (q2:¬ (vs=[] ∨ k=1)→Q (.ref s.heap.objs.size) { s with heap:=s.heap.push { cls:=.type "tuple",data:=.seq (List.replicate k.toNat vs).flatten.toArray } }):
  wpAny (model prog w) A (binaryOp .Mult (.ref t) (.int k tk)) Q E s:=by
 obtain ⟨⟨cls,dd,data,sl⟩,ho,hc,n,hd⟩:=id ht
 simp only at hc hd
 subst hc hd
 have hk:¬ (decide (k < -(2 ^ 63)) || decide (k ≥ 2 ^ 63))=true:=by simp; omega
 refine wpAny_binaryOp_repeat_ref (T:="tuple") (U:="int") (by decide) ⟨_,ho,rfl⟩ (fun s'=>typeIs_int s' k tk) noFill_tuple_mul F.fills_int_mul F.slot_int_rmul repeat_tuple F.slot_int_index.lookup
  (call_meets F.slot_int_rmul (typeIs_int s k tk) F.entry_int_rmul (F.args_int_rmul_2 _ _) (int_rmul_tup k tk t vs.toArray n dd sl) ⟨ho,rfl,⟨_,ho,rfl⟩,?_⟩)
 have hfold:∀ m:Nat,List.foldl (fun x1 x2=>x1 ++ x2) #[] (List.replicate m vs.toArray)=(List.replicate m vs).flatten.toArray:=fun m=>by
  have:=foldl_rep vs m []
  rw [List.nil_append] at this
  exact this
 by_cases c1:vs=[] ∨ k=1
 ·refine call_meets F.slot_tuple_mul ⟨_,ho,rfl⟩ F.entry_tuple_mul (F.args_tuple_mul_2 _ _) (tup_mul_same t vs.toArray n k tk dd sl hk ?_) ⟨ho,q1 c1⟩
  rcases c1 with rfl | rfl
  ·rfl
  ·simp
 ·have c2:¬ (vs.toArray.isEmpty || k == 1)=true:=by
   intro z
   rw [Bool.or_eq_true] at z
   rcases z with z | z
   ·exact c1 (.inl (by simpa using z))
   ·exact c1 (.inr (by simpa using z))
  by_cases c3:k≤0
  ·refine call_meets F.slot_tuple_mul ⟨_,ho,rfl⟩ F.entry_tuple_mul (F.args_tuple_mul_2 _ _) (tup_mul_none t vs.toArray n k tk dd sl hk c2 (by simp [c3])) ⟨ho,?_⟩
   have:=q2 c1
   rw [show k.toNat=0 by omega] at this
   exact this
  ·have c4:¬ (decide (k≤0) || vs.toArray.isEmpty)=true:=by
    intro z
    rw [Bool.or_eq_true] at z
    rcases z with z | z
    ·exact c3 (of_decide_eq_true z)
    ·exact c1 (.inl (by simpa using z))
   have hmul:((vs.toArray.size:Nat):Int) * k=((vs.length * k.toNat:Nat):Int):=by
    rw [List.size_toArray,Int.natCast_mul,Int.toNat_of_nonneg (by omega)]
   have hs0:(sizeLine:Nat)=2 ^ 24:=rfl
   refine call_meets F.slot_tuple_mul ⟨_,ho,rfl⟩ F.entry_tuple_mul (F.args_tuple_mul_2 _ _) (tup_mul_more t vs.toArray n k tk dd sl hk c2 c4 ?_ ?_ ?_) ⟨ho,?_⟩
   ·rw [hmul]
    intro z
    have:((2:Int) ^ 63 - 1) / 8 ≥ 2 ^ 24:=by decide
    omega
   ·rw [hmul]
    unfold Builtin.Tuple.tupleTooMany
    simp only [decide_eq_true_eq]
    intro z
    have z':((sizeLine:Nat):Int) < ((vs.length * k.toNat:Nat):Int):=z
    omega
   ·rw [hfold,List.size_toArray,len_rep,Nat.mul_comm]; exact hz
   ·rw [hfold]; exact q2 c1
end
end PD
namespace PD
open PySem PySem.Spec PyProof.Rows L2
section
variable {prog:Program} {w:World} {A:Around} {E:Value→Shared→Prop} {s:Shared}
theorem cat_tup0 {t b:Addr} {ws:List Value} {Q:Value→Shared→Prop} (ht:IsTup s.heap t ([]:List Value).toArray) (hb:IsTup s.heap b ws.toArray) (h:Q (.ref b) s):wpAny (model prog w) A (binaryOp .Add (.ref t) (.ref b)) Q E s:=by
 obtain ⟨⟨cls,dd,data,sl⟩,ho,hc,n,hd⟩:=id ht
 obtain ⟨⟨cls2,dd2,data2,sl2⟩,ho2,hc2,n2,hd2⟩:=id hb
 simp only at hc hd hc2 hd2
 subst hc hd hc2 hd2
 exact concat_meets ⟨_,ho,rfl⟩ ⟨_,ho2,rfl⟩ noFill_tuple_add seq_tuple_add PySem.F.slot_tuple_add PySem.F.entry_tuple_add (PySem.F.args_tuple_add_2 _ _) (tuple_addW0 t b _ ws.toArray n n2 dd dd2 sl sl2 rfl) ⟨ho,ho2,h⟩
open HT in
theorem getItem_tuple_whole {t sl:Addr} {items:Array Value} {vl vu:Value} {lo hi:Option Int} {Q:Value→Shared→Prop} (ht:IsTup s.heap t items) (hs:s.heap.IsSliceOf sl vl vu .none) (pl:IsPart vl lo) (pu:IsPart vu hi)
  (hw:sIx items.size 0 lo=0∧sIx items.size items.size hi=items.size) (h:Q (.ref t) s):wpAny (model prog w) A (getItem (.ref t) (.ref sl)) Q E s:=by
 obtain ⟨os,hos,hcs,hds⟩:=id hs
 have hTs:s.TypeIs (.ref sl) "slice":=⟨os,hos,hcs⟩
 unfold getItem
 try with_reducible refine wpAny_holding ?_
 first | refine wpAny_bind (wpAny_pure ?_) | skip
 refine wpAny_bind (wpAny_sequenceKey ht.typeIs (by decide) ?_)
 refine wpAny_bind (wpAny_callSpecial?_slot (name:=Str.ofString "__getitem__") ht.typeIs PyProof.Rows.slot_tuple_getitem
  (wpAny_call_entry PyProof.Rows.slot_tuple_getitem ht.typeIs entry_tuple_getitem ?_ (args_tuple_getitem _ _)))
 show wpAny _ _ (Builtin.Tuple.tupleItemsOf (.ref t) >>= _) _ _ s
 refine wpAny_bind (tupleItemsOf_ ht ?_)
 refine wpAny_bind (wpAny_typeOf hTs ?_)
 rw [if_pos (by decide)]
 refine wpAny_bind (sliceApplied_gen hs pl pu ?_)
 have hyes:(((sIx items.size 0 lo:Nat):Int) == 0 && (1:Int) == 1 && (sIx items.size items.size hi - sIx items.size 0 lo) == items.size)=true:=by
  rw [hw.1,hw.2]; simp
 show wpAny _ _ (if (((sIx items.size 0 lo:Nat):Int) == 0 && (1:Int) == 1 && (sIx items.size items.size hi - sIx items.size 0 lo) == items.size)=true then _ else _) _ _ s
 rw [if_pos hyes]
 obtain ⟨ob,hob,hcl,_⟩:=id ht
 have hex:∀ {Q':Bool→Shared→Prop},Q' true s→wpAny (model prog w) A.in1 (Builtin.Tuple.tupleIsExact (.ref t)) Q' E s:=fun q=>by
  unfold Builtin.Tuple.tupleIsExact
  refine wpAny_bind (wpAny_typeOf ht.typeIs (wpAny_pure ?_))
  exact q
 refine wpAny_bind (hex ?_)
 rw [if_pos rfl]
 first
  | exact wpAny_bind (wpAny_rule (wpAny_pure ⟨_,rfl,wpAny_pure h⟩))
  | exact wpAny_bind (wpAny_rule (wpAny_bind (wpAny_pure ⟨_,rfl,wpAny_pure h⟩)))
  | exact wpAny_bind (wpAny_rule (wpAny_bind (wpAny_pure (wpAny_pure ⟨_,rfl,wpAny_pure h⟩))))
  | exact wpAny_bind (wpAny_bind (wpAny_rule (wpAny_pure (wpAny_pure ⟨_,rfl,wpAny_pure h⟩))))
end
end PD
namespace PD
open PySem PySem.Spec PyProof.Rows L2
section
variable {X:Cx} {E:XK}
theorem sameTup {K:PySem.W.Frag} {w:Wd} {H:Hp} {p:Addr} {vs:List V} {ds:List D} (z:At w H p (.tup vs) ∨ KTup K p vs) (r:RDs K w H ds vs):RD K w H (.tup ds) (.ref p):=by
 unfold RD; exact ⟨p,vs,rfl,z,r⟩
theorem xo_add:OpR X (binaryOp .Add) (xO X.K E oAdd):=by
 rintro pins s σ H x y v u Q I rx ry ⟨w,S,d,e,hS,qd,qe,p⟩
 obtain ⟨z,hz,p'⟩:=p.of
 clear p
 unfold oAdd at hz
 split at hz
 ·cases hz
  cases qd.int
  cases qe.int
  exact op_add pins s σ H _ _ v u Q I rx ry ⟨_,_,rfl,rfl,p'.ret RD.mkI hS⟩
 ·split at hz
  ·cases hz
   cases qd.str
   cases qe.str
   exact op_add_str pins s σ H _ _ v u Q I rx ry ⟨_,_,rfl,rfl,by assumption,p'.ret RD.mkS hS⟩
  ·cases hz
 ·split at hz
  ·rename_i S' a b hl
   cases hz
   obtain ⟨pa,xs,rfl,za,ra⟩:=qd.tupI
   obtain ⟨pb,ys,rfl,zb,rb⟩:=qe.tupI
   by_cases ha:a=[]
   ·subst ha
    have hxs:=ra.nil_inv
    subst hxs
    cases rx
    cases ry
    obtain ⟨its,r1,p1,_⟩:=I.tuple (SqT_of za)
    obtain ⟨its2,r2,p2,_⟩:=I.tuple (SqT_of zb)
    have:its=[]:=r1.nil_iff.mpr rfl
    subst this
    exact cat_tup0 p1 p2 ⟨.ref pb,H,I,rfl,p'.ret (sameTup zb rb) hS⟩
   ·refine op_catT pins s σ H _ _ v u Q I rx ry ⟨pa,pb,xs,ys,rfl,rfl,SqT_of za,SqT_of zb,fun z=>ha ?_,by rw [ra.length,rb.length]; exact hl,fun z=>?_,fun z q hq=>?_⟩
    ·have:=ra.length
     rw [z] at this
     exact List.length_eq_zero_iff.mp this.symm
    ·have hb:b=[]:=by
      have:=rb.length
      rw [z] at this
      exact List.length_eq_zero_iff.mp this.symm
     subst hb
     rw [List.append_nil] at p'
     exact p'.ret (sameTup za ra) hS
    ·exact p'.at (Ext.new hq) (RD.newTup hS hq (ra.append rb)) (hS.new hq)
  ·cases hz
 ·split at hz
  ·rename_i S' a b hl
   cases hz
   obtain ⟨pa,xs,rfl,za,ra⟩:=qd.lstI
   obtain ⟨pb,ys,rfl,zb,rb⟩:=qe.lstI
   exact op_cat pins s σ H _ _ v u Q I rx ry ⟨pa,pb,xs,ys,rfl,rfl,za.1,zb.1,by rw [ra.length,rb.length]; exact hl,fun q hq=>p'.at (Ext.new hq) (RD.newLst hS hq (ra.append rb)) (hS.new hq)⟩
  ·cases hz
 ·cases hz
theorem RDs.rep {K:PySem.W.Frag} {w:Wd} {H:Hp} {ds:List D} {vs:List V} (r:RDs K w H ds vs):∀ k:Nat,RDs K w H (List.replicate k ds).flatten (List.replicate k vs).flatten
 | 0=>by simp; exact .nil
 | k + 1=>by
  rw [List.replicate_succ,List.replicate_succ,List.flatten_cons,List.flatten_cons]
  exact r.append (RDs.rep r k)
theorem xo_mul:OpR X (binaryOp .Mult) (xO X.K E oMul):=by
 rintro pins s σ H x y v u Q I rx ry ⟨w,S,d,e,hS,qd,qe,p⟩
 obtain ⟨z,hz,p'⟩:=p.of
 clear p
 unfold oMul at hz
 split at hz
 ·split at hz
  ·cases hz
   cases qd.int
   cases qe.int
   exact op_mul pins s σ H _ _ v u Q I rx ry ⟨_,_,rfl,rfl,by assumption,p'.ret RD.mkI hS⟩
  ·cases hz
 ·split at hz
  ·rename_i S' a k hl
   cases hz
   obtain ⟨pa,xs,rfl,za,ra⟩:=qd.tupI
   cases qe.int
   cases rx
   obtain ⟨t,rfl⟩:=ry
   obtain ⟨its,r1,p1,_⟩:=I.tuple (SqT_of za)
   have e1:its.length=a.length:=by rw [← r1.length,ra.length]
   refine rep_tup p1 hl.1 hl.2.1 (by rw [e1]; exact hl.2.2) (fun c=>?_) fun c=>?_
   ·refine ⟨.ref pa,H,I,rfl,?_⟩
    have:(List.replicate k.toNat a).flatten=a:=by
     rcases c with c | c
     ·have:a=[]:=by rw [c] at e1; exact List.length_eq_zero_iff.mp e1.symm
      subst this; simp
     ·subst c; simp
    rw [this] at p'
    exact p'.ret (sameTup za ra) hS
   ·have hn:H s.heap.objs.size=none:=I.hok.fresh (Nat.le_refl _)
    refine ⟨.ref s.heap.objs.size,_,I.laid (t':=s.toks) (o:=.tup (List.replicate k.toNat xs).flatten) (fun b ob q=>Heap.get?_push_of_some _ q) (Nat.le_refl _) ?_,rfl,p'.at (Ext.new hn) (RD.newTup hS hn (ra.rep _)) (hS.new hn)⟩
    exact ⟨by rw [len_rep,Nat.mul_comm,ra.length]; exact hl.2.2,_,r1.rep _,IsTup.new _ _⟩
  ·cases hz
 ·split at hz
  ·rename_i S' a k hl
   cases hz
   obtain ⟨pa,xs,rfl,za,ra⟩:=qd.lstI
   cases qe.int
   exact op_rep pins s σ H _ _ v u Q I rx ry ⟨pa,k,xs,rfl,rfl,za.1,hl.1,hl.2.1,by rw [ra.length]; exact hl.2.2,fun q hq=>p'.at (Ext.new hq) (RD.newLst hS hq (ra.rep _)) (hS.new hq)⟩
  ·cases hz
 ·cases hz
theorem se_ix {a b:Expr} {ma mb:EM} {pos:Pos} {f:Sto→D→D→Option D} (hr:IxR X (xO X.K E f)) (ha:SE X E a ma) (hb:SE X E b mb) (hs:PlainIx b:=by intro _ _; kernel_rfl):SE X E (.Subscript a b pos) (eOp f ma mb):=⟨
 pe_weak (pe_ix hr ha.out hb.out hs) fun s H Q zq=>ex6 zq fun w r S hr hS hp=>⟨w,r,S,hr,hS,hp.bind hS fun d S1 w1 H1 v x1 q1 s1 p1=>
  ⟨w1,r,S1,hr.ext x1,s1,p1.bind s1 fun e S2 w2 H2 u x2 q2 s2 p2=>⟨w2,S2,d,e,s2,RD.ext x2 d v q1,q2,p2⟩⟩⟩⟩
abbrev OM:=Rho→Sto→R (Option Int)
def ROp (w:Wd) (H:Hp) (a b:Option Int):Prop:=b=a
def uO (K:PySem.W.Frag) (E:XK) (m:OM):TO:=fun s H Q=>∃ w r S,RSt K w H r s∧RS K w H S∧Post K E ROp w H (m r S) Q
def oNo:OM:=fun _ S=>.ok none S
def oPart (a:EM):OM:=fun r S=>(a r S).bind fun x S1=>match x with
 | .int i=>.ok (some i) S1
 | _=>.bad
abbrev SO' (X:Cx) (E:XK) (e:Option Expr) (m:OM):Prop:=Bx (PO X e (uO X.K E m))
theorem so_none:SO' X E none oNo:=⟨fun pins s σ H Q I zq=>ex6 zq fun w r S hr hS hp=>po_none pins s σ H Q I (hp.ret rfl hS)⟩
theorem so_some {a:Expr} {ma:EM} (ha:SE X E a ma):SO' X E (some a) (oPart ma):=⟨fun pins s σ H Q I zq=>ex6 zq fun w r S hr hS hp=>po_some ha.out pins s σ H Q I
 ⟨w,r,S,hr,hS,hp.bind hS fun d S1 w1 H1 v x1 q1 s1 p1=>by
  cases d with
  | int i=>cases q1.int; exact ⟨i,rfl,p1.ret rfl s1⟩
  | _=>exact p1.elim⟩⟩
def xL (K:PySem.W.Frag) (E:XK) (f:Sto→D→Option Int→Option Int→Option D):V→Option Int→Option Int→Hp→VK→Prop:=fun x lo hi H Q=>∃ w S d,RS K w H S∧RD K w H d x∧Post K E (RD K) w H (R.of S (f S d lo hi)) Q
def eSl (f:Sto→D→Option Int→Option Int→Option D) (a:EM) (lo hi:OM):EM:=fun r S=>(a r S).bind fun x S1=>(lo r S1).bind fun l S2=>(hi r S2).bind fun u S3=>R.of S3 (f S3 x l u)
theorem se_sl {a:Expr} {ma:EM} {lo hi:Option Expr} {ml mh:OM} {p2 pos:Pos} {f:Sto→D→Option Int→Option Int→Option D} (hf:SlR X (xL X.K E f)) (ha:SE X E a ma) (hl:SO' X E lo ml) (hh:SO' X E hi mh):
  SE X E (.Subscript a (.Slice lo hi none p2) pos) (eSl f ma ml mh):=⟨
 pe_weak (pe_slice hf ha.out hl.out hh.out) fun s H Q zq=>ex6 zq fun w r S hr hS hp=>⟨w,r,S,hr,hS,hp.bind hS fun d S1 w1 H1 v x1 q1 s1 p1=>
  ⟨w1,r,S1,hr.ext x1,s1,p1.bind s1 fun l S2 w2 H2 l' x2 q2 s2 p2=>⟨w2,r,S2,(hr.ext x1).ext x2,s2,p2.bind s2 fun u S3 w3 H3 u' x3 q3 s3 p3=>by
   have e1:l'=l:=q2
   have e2:u'=u:=q3
   subst e1 e2
   exact ⟨w3,S3,d,s3,RD.ext x3 _ _ (RD.ext x2 _ _ q1),p3⟩⟩⟩⟩⟩
def fSlT:Sto→D→Option Int→Option Int→Option D
 | _,.tup a,lo,hi=>some (.tup (cutD a lo hi))
 | _,.lst a,lo,hi=>some (.lst (cutD a lo hi))
 | _,_,_,_=>none
theorem RDs.cut {K:PySem.W.Frag} {w:Wd} {H:Hp} {ds:List D} {vs:List V} (r:RDs K w H ds vs) (lo hi:Option Int):RDs K w H (cutD ds lo hi) (cutV vs lo hi):=by
 unfold cutD cutV
 rw [r.length]
 exact (r.drop _).take _
theorem xl_tup:SlR X (xL X.K E fSlT):=by
 rintro pins s σ H x v vl vu lo hi sl Q I rx hs pl pu ⟨w,S,d,hS,qd,p⟩
 obtain ⟨z,hz,p'⟩:=p.of
 clear p
 unfold fSlT at hz
 split at hz
 ·rename_i a
  cases hz
  obtain ⟨pa,xs,rfl,za,ra⟩:=qd.tupI
  by_cases hw:HT.sIx xs.length 0 lo=0∧HT.sIx xs.length xs.length hi=xs.length
  ·cases rx
   obtain ⟨its,r,ht,hz⟩:=I.tuple (SqT_of za)
   have hlen:its.toArray.size=xs.length:=by rw [List.size_toArray]; exact r.length.symm
   refine ⟨"tuple",_,PyProof.Rows.slot_tuple_getitem.lookup,ht.typeIs,?_⟩
   refine getItem_tuple_whole ht hs pl pu (by rw [hlen]; exact hw) ⟨.ref pa,H,I,rfl,?_⟩
   have e:cutD a lo hi=a:=by
    unfold cutD
    rw [← ra.length,hw.1,hw.2]
    rw [List.drop_zero,Nat.sub_zero,ra.length,List.take_length]
   rw [e] at p'
   exact p'.ret (sameTup za ra) hS
  ·exact sl_tup pins s σ H _ v vl vu lo hi sl Q I rx hs pl pu ⟨pa,xs,rfl,SqT_of za,hw,fun q hq=>p'.at (Ext.new hq) (RD.newTup hS hq (ra.cut lo hi)) (hS.new hq)⟩
 ·rename_i a
  cases hz
  obtain ⟨pa,xs,rfl,za,ra⟩:=qd.lstI
  exact sl_list pins s σ H _ v vl vu lo hi sl Q I rx hs pl pu ⟨pa,xs,rfl,SqL.of za.1,fun q hq=>p'.at (Ext.new hq) (RD.newLst hS hq (ra.cut lo hi)) (hS.new hq)⟩
 ·cases hz
def fLen:Sto→List D→Option D
 | _,[.str x]=>if x.length≤sizeLine then some (.int x.length) else none
 | _,[.dic x]=>some (.int x.length)
 | S,[d]=>match seqOf S d with
  | some a=>some (.int a.length)
  | none=>match d with
   | .ref n=>match S[n]? with
    | some (.dic kvs)=>some (.int kvs.length)
    | _=>none
   | _=>none
 | _,_=>none
theorem RDk.length {K:PySem.W.Frag} {w:Wd} {H:Hp}:∀ {ds:List (Sum Int Str × D)} {vs:List (Key × V)},RDk K w H ds vs→vs.length=ds.length
 | [],_,h=>by unfold RDk at h; rw [h]; rfl
 | (k,d) :: ds,_,h=>by
  unfold RDk at h
  obtain ⟨v,r,rfl,_,q⟩:=h
  simp [RDk.length q]
theorem xc_len:CallR X (.builtin "len") (xC X.K E fLen):=by
 rintro pins s σ H xs us Q I r ⟨w,S,ds,hS,qs,p⟩
 obtain ⟨z,hz,p'⟩:=p.of
 clear p
 unfold fLen at hz
 split at hz
 ·split at hz
  ·cases hz
   obtain ⟨v,rfl,q⟩:=qs.one_inv
   cases q.str
   exact call_len_str pins s σ H _ us Q I r ⟨_,rfl,by assumption,p'.ret RD.mkI hS⟩
  ·cases hz
 ·cases hz
  obtain ⟨v,rfl,q⟩:=qs.one_inv
  unfold RD at q
  obtain ⟨a,uu,rfl,z,rk⟩:=q
  exact call_lenD pins s σ H _ us Q I r ⟨_,_,rfl,z.1,by rw [rk.length]; exact p'.ret RD.mkI hS⟩
 ·obtain ⟨v,rfl,q⟩:=qs.one_inv
  split at hz
  ·rename_i a ha
   cases hz
   obtain ⟨pp,vs,rfl,sq,ra⟩:=seq_ok hS q ha
   exact call_len_seq pins s σ H _ us Q I r ⟨pp,vs,rfl,sq,by rw [ra.length]; exact p'.ret RD.mkI hS⟩
  ·split at hz
   ·split at hz
    ·rename_i n kvs hn
     cases hz
     obtain ⟨pp,rfl,hp⟩:=q.refI
     obtain ⟨p2,hp2,vs,hv,rk⟩:=hS.obj _ _ hn
     rw [hp] at hp2; cases hp2
     exact call_lenD pins s σ H _ us Q I r ⟨_,_,rfl,hv,by rw [rk.length]; exact p'.ret RD.mkI hS⟩
    ·cases hz
   ·cases hz
 ·cases hz
def fAbs:Sto→List D→Option D
 | _,[.int i]=>some (.int (if i < 0 then -i else i))
 | _,_=>none
theorem xc_abs:CallR X (.builtin "abs") (xC X.K E fAbs):=by
 rintro pins s σ H xs us Q I r ⟨w,S,ds,hS,qs,p⟩
 obtain ⟨z,hz,p'⟩:=p.of
 clear p
 unfold fAbs at hz
 split at hz
 ·cases hz
  obtain ⟨v,rfl,q⟩:=qs.one_inv
  cases q.int
  exact call_abs pins s σ H _ us Q I r ⟨_,rfl,p'.ret RD.mkI hS⟩
 ·cases hz
def fMax:Sto→List D→Option D
 | _,[.int i,.int j]=>some (.int (if j > i then j else i))
 | _,_=>none
theorem xc_max (hc:X.calm=true):CallR X (.builtin "max") (xC X.K E fMax):=by
 rintro pins s σ H xs us Q I r ⟨w,S,ds,hS,qs,p⟩
 obtain ⟨z,hz,p'⟩:=p.of
 clear p
 unfold fMax at hz
 split at hz
 ·cases hz
  obtain ⟨v,u,rfl,q,q'⟩:=qs.two_inv
  cases q.int
  cases q'.int
  exact call_max2 hc pins s σ H _ us Q I r ⟨_,_,rfl,p'.ret RD.mkI hS⟩
 ·cases hz
def fMin:Sto→List D→Option D
 | _,[.int i,.int j]=>some (.int (if j < i then j else i))
 | _,_=>none
theorem xc_min (hc:X.calm=true):CallR X (.builtin "min") (xC X.K E fMin):=by
 rintro pins s σ H xs us Q I r ⟨w,S,ds,hS,qs,p⟩
 obtain ⟨z,hz,p'⟩:=p.of
 clear p
 unfold fMin at hz
 split at hz
 ·cases hz
  obtain ⟨v,u,rfl,q,q'⟩:=qs.two_inv
  cases q.int
  cases q'.int
  exact call_min2 hc pins s σ H _ us Q I r ⟨_,_,rfl,p'.ret RD.mkI hS⟩
 ·cases hz
def fDivmod:Sto→List D→Option D
 | _,[.int i,.int j]=>if 0 < j∧j < 1073741824 then some (.tup [.int (i / j),.int (i % j)]) else none
 | _,_=>none
theorem xc_divmod:CallR X (.builtin "divmod") (xC X.K E fDivmod):=by
 rintro pins s σ H xs us Q I r ⟨w,S,ds,hS,qs,p⟩
 obtain ⟨z,hz,p'⟩:=p.of
 clear p
 unfold fDivmod at hz
 split at hz
 ·split at hz
  ·cases hz
   obtain ⟨v,u,rfl,q,q'⟩:=qs.two_inv
   cases q.int
   cases q'.int
   exact call_divmod pins s σ H _ us Q I r ⟨_,_,rfl,by assumption,fun t ht=>p'.at (Ext.new ht) (RD.newTup hS ht (.cons RD.mkI (.cons RD.mkI .nil))) (hS.new ht)⟩
  ·cases hz
 ·cases hz
def fInt:Sto→List D→Option D
 | _,[.int i]=>some (.int i)
 | _,[.bl b]=>some (.int (if b then 1 else 0))
 | _,_=>none
theorem xc_int:CallR X (.type "int") (xC X.K E fInt):=by
 rintro pins s σ H xs us Q I r ⟨w,S,ds,hS,qs,p⟩
 obtain ⟨z,hz,p'⟩:=p.of
 clear p
 unfold fInt at hz
 split at hz
 ·cases hz
  obtain ⟨v,rfl,q⟩:=qs.one_inv
  cases q.int
  exact call_int1 pins s σ H _ us Q I r (.inl ⟨_,rfl,p'.ret RD.mkI hS⟩)
 ·cases hz
  obtain ⟨v,rfl,q⟩:=qs.one_inv
  cases q.bl
  exact call_int1 pins s σ H _ us Q I r (.inr ⟨_,rfl,p'.ret RD.mkI hS⟩)
 ·cases hz
def fTuple:Sto→List D→Option D
 | _,[.tup a]=>some (.tup a)
 | S,[d]=>(seqOf S d).map .tup
 | _,_=>none
theorem xc_tuple:CallR X (.type "tuple") (xC X.K E fTuple):=by
 rintro pins s σ H xs us Q I r ⟨w,S,ds,hS,qs,p⟩
 obtain ⟨z,hz,p'⟩:=p.of
 clear p
 unfold fTuple at hz
 split at hz
 ·cases hz
  obtain ⟨v,rfl,q⟩:=qs.one_inv
  obtain ⟨pa,vs,rfl,za,ra⟩:=q.tupI
  exact call_tuple_of pins s σ H _ us Q I r ⟨pa,vs,rfl,.inr ⟨SqT_of za,p'.ret (sameTup za ra) hS⟩⟩
 ·rename_i d hd
  obtain ⟨v,rfl,q⟩:=qs.one_inv
  cases ha:seqOf S d with
  | none=>rw [ha] at hz; cases hz
  | some a=>
   rw [ha] at hz
   cases hz
   have hq:∃ pa vs,v=.ref pa∧SqL X.K H pa vs∧RDs X.K w H a vs:=by
    unfold seqOf at ha
    split at ha
    ·exact (hd _ rfl).elim
    ·cases ha; obtain ⟨p,vs,e,z,r⟩:=q.lstI; exact ⟨p,vs,e,SqL.of z.1,r⟩
    ·cases ha; obtain ⟨p,vs,e,z,r⟩:=q.fzI; exact ⟨p,vs,e,z.sq,r⟩
    ·split at ha
     ·rename_i n b hn
      cases ha
      obtain ⟨p,e,hp⟩:=q.refI
      obtain ⟨p2,hp2,vs,hv,rk⟩:=hS.obj _ _ hn
      rw [hp] at hp2; cases hp2
      exact ⟨p,vs,e,SqL.of hv,rk⟩
     ·rename_i n b hn
      cases ha
      obtain ⟨p,e,hp⟩:=q.refI
      obtain ⟨p2,hp2,o,vs,hv,rk⟩:=hS.obj _ _ hn
      rw [hp] at hp2; cases hp2
      exact ⟨p,vs,e,.inl (.inr ⟨o,hv⟩),rk⟩
     ·cases ha
    ·cases ha
   obtain ⟨pa,vs,rfl,sq,ra⟩:=hq
   exact call_tuple_of pins s σ H _ us Q I r ⟨pa,vs,rfl,.inl ⟨sq,fun t ht=>p'.at (Ext.new ht) (RD.newTup hS ht ra) (hS.new ht)⟩⟩
 ·cases hz
end
end PD
namespace PD
open PySem PySem.Spec PyProof.Rows L2
section
variable {X:Cx} {E:XK}
def boolsOf:List D→Option (List Bool)
 | []=>some []
 | .bl b :: r=>(boolsOf r).map (b :: ·)
 | _ :: _=>none
def fAll:Sto→List D→Option D
 | _,[.lst a]=>(boolsOf a).map fun bs=>.bl (bs.all id)
 | _,_=>none
theorem bools_ok {K:PySem.W.Frag} {w:Wd} {H:Hp}:∀ {ds:List D} {vs:List V} {us:List Value} {bs:List Bool},RDs K w H ds vs→Vals vs us→boolsOf ds=some bs→LSm.BoolsAre us bs
 | [],_,_,_,q,r,h=>by
  rw [q.nil_inv] at r
  cases r
  unfold boolsOf at h
  cases h
  exact .nil
 | d :: ds,_,_,bs,q,r,h=>by
  obtain ⟨v,vs,rfl,p,t⟩:=q.cons_inv
  cases d with
  | bl b=>
   unfold boolsOf at h
   cases e:boolsOf ds with
   | none=>rw [e] at h; cases h
   | some cs=>
    rw [e] at h; cases h
    cases p.bl
    cases r with
    | cons r1 r2=>
     cases r1
     exact .cons b (bools_ok t r2 e)
  | _=>unfold boolsOf at h; cases h
theorem xc_all (hc:X.calm=true):CallR X (.builtin "all") (xC X.K E fAll):=by
 rintro pins s σ H xs us Q I r ⟨w,S,ds,hS,qs,p⟩
 obtain ⟨z,hz,p'⟩:=p.of
 clear p
 unfold fAll at hz
 split at hz
 ·rename_i a
  cases e:boolsOf a with
  | none=>rw [e] at hz; cases hz
  | some bs=>
   rw [e] at hz; cases hz
   obtain ⟨v,rfl,q⟩:=qs.one_inv
   obtain ⟨pa,vs,rfl,za,ra⟩:=q.lstI
   obtain ⟨u,rfl,ru⟩:=vals1 r
   cases ru
   obtain ⟨its,r1,⟨o,n,ho,hcl,hdn,hd⟩,_⟩:=I.list (SqL.of za.1)
   have hb:=bools_ok ra r1 e
   have hlt:pa < s.heap.objs.size:=Heap.lt_size ho
   have hl:s.heap.IsList pa its.toArray:=⟨o,ho,hcl,n,hd⟩
   refine call_all_walk (wpAny_pyIter_list hl ?_)
   refine ⟨s.heap.objs.size,[s.heap.objs.size,pa],[s.heap.objs.size],its.toArray.size,_,_,fun i=>(bs[i]?).getD true,rfl,Walks.list (A:=X.A.in1) (I.ok.hd hc) _ pa (Nat.ne_of_lt hlt) its.toArray,
    ⟨⟨_,Heap.get?_push_size _ rfl,rfl,rfl⟩,hl.push _⟩,fun i v s' Q' E' hP hQ=>?_,fun h' tk hk=>?_⟩
   ·obtain ⟨b,e,rfl⟩:=hb.get i v (by simpa using hP)
    simp only [e,Option.getD_some] at hQ
    exact wpAny_truthy_bool hQ
   ·have e:((List.range its.toArray.size).all fun i=>(bs[i]?).getD true)=bs.all id:=by
     rw [List.size_toArray,hb.length]; exact LSm.range_all bs
    rw [e]
    exact ⟨.bl _,H,I.kept (LSm.kept_iter hk),rfl,p'.ret RD.mkB hS⟩
 ·cases hz
def tyD (S:Sto):D→Option String
 | .non=>some "NoneType"
 | .bl _=>some "bool"
 | .int _=>some "int"
 | .str _=>some "str"
 | .tup _=>some "tuple"
 | .lst _=>some "list"
 | .fz _=>none
 | .dic _=>some "dict"
 | .ref n=>match S[n]? with
  | some (.lst _)=>some "list"
  | some (.dic _)=>some "dict"
  | _=>none
 | .ty _=>none
 | .exc _=>none
 | .cls _=>none
def isiTys:List String:=["int","bool","tuple","str","list","dict"]
def fIsi:Sto→List D→Option D
 | S,[d,.ty T]=>match tyD S d with
  | some t=>if T ∈ isiTys then some (.bl (t == T || (t == "bool" && T == "int"))) else none
  | none=>none
 | _,_=>none
theorem kit_ok (K:PySem.W.Frag) {t T:String} (ht:t ∈ ["NoneType","bool","int","str","tuple","list","dict"]) (hT:T ∈ isiTys):PySem.W.kitOne K (.type t) (.type T)=some (t == T || (t == "bool" && T == "int")):=by
 unfold isiTys at hT
 simp only [List.mem_cons,List.not_mem_nil,or_false] at ht hT
 rcases ht with rfl | rfl | rfl | rfl | rfl | rfl | rfl <;> rcases hT with rfl | rfl | rfl | rfl | rfl | rfl <;> first | rfl | (with_unfolding_all rfl) | (unfold PySem.W.kitOne PySem.W.kitCls; with_unfolding_all decide)
theorem tyOf_ok {K:PySem.W.Frag} {w:Wd} {H:Hp} {S:Sto} {d:D} {v:V} {t:String} (hS:RS K w H S) (q:RD K w H d v) (h:tyD S d=some t) (hk:∀ a vs,¬ KTup K a vs ∨ True):
  (L2.TyOf K H v (.type t) ∨ ∃ a vs,v=.ref a∧t = "tuple"∧KTup K a vs)∧t ∈ ["NoneType","bool","int","str","tuple","list","dict"]:=by
 cases d with
 | non=>cases q.non; cases h; exact ⟨.inl .non,by simp⟩
 | bl b=>cases q.bl; cases h; exact ⟨.inl (.bl b),by simp⟩
 | int i=>cases q.int; cases h; exact ⟨.inl (.int i),by simp⟩
 | str x=>cases q.str; cases h; exact ⟨.inl (.str x),by simp⟩
 | tup ds=>
  obtain ⟨p,vs,rfl,z,_⟩:=q.tupI
  cases h
  refine ⟨?_,by simp⟩
  rcases z with z | z
  ·exact .inl (.tup z.1)
  ·exact .inr ⟨p,vs,rfl,rfl,z⟩
 | lst ds=>obtain ⟨p,vs,rfl,z,_⟩:=q.lstI; cases h; exact ⟨.inl (.lst z.1),by simp⟩
 | fz ds=>cases h
 | dic kvs=>unfold RD at q; obtain ⟨p,us,rfl,z,_⟩:=q; cases h; exact ⟨.inl (.dK z.1),by simp⟩
 | ref n=>
  obtain ⟨p,rfl,hp⟩:=q.refI
  unfold tyD at h
  simp only at h
  cases e:S[n]? with
  | none=>rw [e] at h; cases h
  | some o=>
   rw [e] at h
   obtain ⟨p',hp',r⟩:=hS.obj n o e
   rw [hp] at hp'; cases hp'
   cases o with
   | lst a=>cases h; obtain ⟨vs,hv,_⟩:=r; exact ⟨.inl (.lst hv),by simp⟩
   | dic a=>cases h; obtain ⟨vs,hv,_⟩:=r; exact ⟨.inl (.dK hv),by simp⟩
   | fdic a=>cases h
   | ins c fs=>cases h
   | flst a=>cases h
 | ty n=>cases h
 | exc c=>cases h
 | cls c=>cases h
theorem xc_isi:CallR X (.builtin "isinstance") (xC X.K E fIsi):=by
 rintro pins s σ H xs us Q I r ⟨w,S,ds,hS,qs,p⟩
 obtain ⟨z,hz,p'⟩:=p.of
 clear p
 unfold fIsi at hz
 split at hz
 ·rename_i d T
  split at hz
  ·rename_i t ht
   split at hz
   ·rename_i hT
    cases hz
    obtain ⟨v,u,rfl,q,q'⟩:=qs.two_inv
    unfold RD at q'
    subst q'
    obtain ⟨v1,v2,rfl,rv,rt⟩:=vals2 r
    cases (show v2=Value.type T from rt)
    obtain ⟨ty,hm⟩:=tyOf_ok hS q ht fun _ _=>.inr trivial
    have kk:=kit_ok X.K hm hT
    rcases ty with ty | ⟨a,vs,rfl,rfl,kt⟩
    ·exact isinst_ok I rv ty kk fun tk=>⟨.bl _,H,I.tok tk,rfl,p'.ret RD.mkB hS⟩
    ·cases (show v1=Value.ref a from rv)
     obtain ⟨o,its,n,e,hcl,_⟩:=kt
     exact PySem.W.kia_one PySem.W.kitx_tuple I.kIn ⟨o,I.kIn _ _ e,hcl⟩ kk (fun z=>nomatch z) fun tk=>⟨.bl _,H,I.tok tk,rfl,p'.ret RD.mkB hS⟩
   ·cases hz
  ·cases hz
 ·cases hz
def fPut:Sto→D→D→D→Option Sto
 | S,.ref n,.int i,v=>match S[n]? with
  | some (.lst a)=>(ixN a.length i).map fun j=>S.set n (.lst (a.set j v))
  | _=>none
 | _,_,_,_=>none
theorem xs_put:PSet X (xS X.K fPut):=by
 rintro pins s σ H o i v ov iv u Q I ro ri ru ⟨w,S,x,y,z,S',hS,qx,qy,qz,hf,k⟩
 unfold fPut at hf
 split at hf
 ·rename_i n j
  split at hf
  ·rename_i a hn
   cases e:ixN a.length j with
   | none=>rw [e] at hf; cases hf
   | some m=>
    rw [e] at hf; cases hf
    obtain ⟨p,rfl,hp⟩:=qx.refI
    cases qy.int
    obtain ⟨p',hp',vs,hv,ra⟩:=hS.obj _ _ hn
    rw [hp] at hp'; cases hp'
    have hm:p ∈ w.st:=List.mem_of_getElem? hp
    refine set_list pins s σ H _ _ _ ov iv u Q I ro ri ru ⟨p,vs,j,m,rfl,rfl,hv,by rw [ra.length]; exact e,k w _ (Ext.mut hm hv) ?_⟩
    exact hS.mut hp hv ⟨_,upd_same,RDs.ext (Ext.mut hm hv) _ _ (RDs.set qz m ra)⟩
  ·cases hf
 ·cases hf
def xM (K:PySem.W.Frag) (E:XK) (f:Sto→D→List D→R D):V→List V→Hp→VK→Prop:=fun x xs H Q=>∃ w S d ds,RS K w H S∧RD K w H d x∧RDs K w H ds xs∧Post K E (RD K) w H (f S d ds) Q
def isL (S:Sto):D→Bool
 | .lst _=>true
 | .fz _=>true
 | .ref n=>match S[n]? with
  | some (.lst _)=>true
  | _=>false
 | _=>false
theorem isL_ok {K:PySem.W.Frag} {w:Wd} {H:Hp} {S:Sto} {d:D} {v:V} (hS:RS K w H S) (q:RD K w H d v) (h:isL S d=true):tyV K "list" v H:=by
 cases d with
 | lst ds=>obtain ⟨p,vs,rfl,z,_⟩:=q.lstI; exact .inl ⟨rfl,vs,SqL.of z.1⟩
 | fz ds=>obtain ⟨p,vs,rfl,z,_⟩:=q.fzI; exact .inl ⟨rfl,vs,z.sq⟩
 | ref n=>
  obtain ⟨p,rfl,hp⟩:=q.refI
  unfold isL at h
  simp only at h
  cases e:S[n]? with
  | none=>rw [e] at h; cases h
  | some o=>
   rw [e] at h
   cases o with
   | lst a=>
    obtain ⟨p',hp',vs,hv,_⟩:=hS.obj n _ e
    rw [hp] at hp'; cases hp'
    exact .inl ⟨rfl,vs,SqL.of hv⟩
   | _=>cases h
 | _=>cases h
def eMtL (f:Sto→D→List D→R D) (o:EM) (t:AM):EM:=fun r S=>(o r S).bind fun x S1=>if isL S1 x=true then (t r S1).bind fun ys S2=>f S2 x ys else .bad
theorem se_mtL {o e:Expr} {es:List Expr} {mo:EM} {ms:AM} {name:Str} {apos cpos:Pos} {id:String} {f:Sto→D→List D→R D} (pa:PlainAttrs "list") (slot:Slot "list" name id) (hty:typeOf (.builtin id)=pure (.type "method_descriptor")) (hm:MtR X id (xM X.K E f))
  (ho:SE X E o mo) (ha:SA X E (e :: es) ms) (hbase:autoParam (attributeBase o name X.env (eval o X.env)=eval o X.env) Au.h0._auto_1)
  (hfew:autoParam (((backTo cpos (starEach (e :: es) X.env)).all (fun x=>!x.1) && (backToKw cpos (keywordEach [] X.env)).all (fun x=>x.1.isSome)
   && decide ((e :: es).length + ([]:List Keyword).length + (if ([]:List Keyword).isEmpty then 0 else 1) < 30))=true) Au.h0._auto_1)
  (hline:autoParam ((apos.endLine == cpos.line)=true) Au.h0._auto_1) (hs:autoParam (starEach (e :: es) X.env=(false,eval e X.env) :: starEach es X.env) Au.h0._auto_1) (hplain:autoParam ((backTo cpos (starEach es X.env)).any (·.1)=false) Au.h0._auto_1):
  SE X E (.Call (.Attribute o name apos) (e :: es) [] cpos) (eMtL f mo ms):=⟨
 pe_weak (pe_bm pa slot hty hm ho.out ha.out hbase hfew hline hs hplain) fun s H Q zq=>ex6 zq fun w r S hr hS hp=>⟨w,r,S,hr,hS,hp.bind hS fun d S1 w1 H1 v x1 q1 s1 p1=>by
  by_cases hl:isL S1 d=true
  ·rw [if_pos hl] at p1
   exact ⟨isL_ok s1 q1 hl,w1,r,S1,hr.ext x1,s1,p1.bind s1 fun ds S2 w2 H2 us x2 q2 s2 p2=>⟨w2,S2,d,ds,s2,RD.ext x2 _ _ q1,q2,p2⟩⟩
  ·rw [if_neg hl] at p1
   exact p1.elim⟩⟩
def mAppend:Sto→D→List D→R D
 | S,.ref n,[v]=>match S[n]? with
  | some (.lst a)=>if a.length < sizeLine then .ok .non (S.set n (.lst (a ++ [v]))) else .bad
  | _=>.bad
 | _,_,_=>.bad
theorem xm_append:MtR X "list.append" (xM X.K E mAppend):=by
 rintro pins s σ H x xs v us Q I rx rs ⟨w,S,d,ds,hS,qd,qs,p⟩
 unfold mAppend at p
 split at p
 ·rename_i n y
  split at p
  ·rename_i a hn
   split at p
   ·rename_i hl
    obtain ⟨pp,rfl,hp⟩:=qd.refI
    obtain ⟨yv,rfl,qy⟩:=qs.one_inv
    obtain ⟨p',hp',vs,hv,ra⟩:=hS.obj _ _ hn
    rw [hp] at hp'; cases hp'
    have hm:pp ∈ w.st:=List.mem_of_getElem? hp
    refine mt_append pins s σ H _ _ v us Q I rx rs ⟨pp,vs,yv,rfl,rfl,hv,by rw [ra.length]; exact hl,p.at (Ext.mut hm hv) (by unfold RD; rfl) ?_⟩
    exact hS.mut hp hv ⟨_,upd_same,RDs.ext (Ext.mut hm hv) _ _ (ra.append (.cons qy .nil))⟩
   ·exact p.elim
  ·exact p.elim
 ·exact p.elim
end
end PD
namespace PD
open PySem PySem.Spec PyProof.Rows L2
def keyPy:Sum Int Str→PyData
 | .inl i=>.int i
 | .inr x=>.str x
mutual
def toPy:D→Option PyData
 | .non=>some .none
 | .bl b=>some (.bool b)
 | .int i=>some (.int i)
 | .str x=>some (.str x)
 | .tup ds=>(toPys ds).map .tuple
 | .lst ds=>(toPys ds).map .list
 | .dic kvs=>(toPyk kvs).map .dict
 | .fz _=>none
 | .ref _=>none
 | .ty _=>none
 | .exc _=>none
 | .cls _=>none
def toPys:List D→Option (List PyData)
 | []=>some []
 | d :: ds=>match toPy d,toPys ds with
  | some p,some q=>some (p :: q)
  | _,_=>none
def toPyk:List (Sum Int Str × D)→Option (List (PyData × PyData))
 | []=>some []
 | (k,d) :: r=>match toPy d,toPyk r with
  | some p,some q=>some ((keyPy k,p) :: q)
  | _,_=>none
end
mutual
def noL:D→Bool
 | .tup ds=>noLs ds
 | .lst _=>false
 | .dic kvs=>noLk kvs
 | _=>true
def noLs:List D→Bool
 | []=>true
 | d :: ds=>noL d && noLs ds
def noLk:List (Sum Int Str × D)→Bool
 | []=>true
 | (_,d) :: r=>noL d && noLk r
end
section
variable {X:Cx} {E:XK}
mutual
theorem reads_ok {pins:List (Addr × Obj)} {σ:L2.St} {H:Hp} {s:Shared} {w:Wd} (I:Inv X pins σ H s):∀ (d:D) (v:V) (u:Value) (p:PyData),RD X.K w H d v→RelV v u→toPy d=some p→∃ as,Reads s.heap u p as∧(noL d=true→sysModules ∉ as)
 | .non,v,u,p,q,r,h=>by cases q.non; cases (show u=Value.none from r); unfold toPy at h; cases h; exact ⟨_,.none,fun _ z=>nomatch z⟩
 | .bl b,v,u,p,q,r,h=>by cases q.bl; cases (show u=Value.bool b from r); unfold toPy at h; cases h; exact ⟨_,.bool b,fun _ z=>nomatch z⟩
 | .int i,v,u,p,q,r,h=>by cases q.int; obtain ⟨t,rfl⟩:=(show ∃ t,u=Value.int i t from r); unfold toPy at h; cases h; exact ⟨_,.int i t,fun _ z=>nomatch z⟩
 | .str x,v,u,p,q,r,h=>by cases q.str; obtain ⟨t,rfl⟩:=(show ∃ t,u=Value.str x t from r); unfold toPy at h; cases h; exact ⟨_,.str x t,fun _ z=>nomatch z⟩
 | .tup ds,v,u,p,q,r,h=>by
  obtain ⟨a,vs,rfl,z,rs⟩:=q.tupI
  cases (show u=Value.ref a from r)
  unfold toPy at h
  cases e:toPys ds with
  | none=>rw [e] at h; cases h
  | some ps=>
   rw [e] at h; cases h
   obtain ⟨its,r1,⟨o,ho,hc,n,hd⟩,_⟩:=I.tuple (SqT_of z)
   obtain ⟨as,ra,hn⟩:=readss_ok I ds vs its ps rs r1 e
   exact ⟨as,.tuple ho hc hd ra,fun z=>hn (by unfold noL at z; exact z)⟩
 | .lst ds,v,u,p,q,r,h=>by
  obtain ⟨a,vs,rfl,z,rs⟩:=q.lstI
  cases (show u=Value.ref a from r)
  unfold toPy at h
  cases e:toPys ds with
  | none=>rw [e] at h; cases h
  | some ps=>
   rw [e] at h; cases h
   obtain ⟨its,r1,⟨o,n,ho,hc,_,hd⟩,_⟩:=I.list (SqL.of z.1)
   obtain ⟨as,ra,hn⟩:=readss_ok I ds vs its ps rs r1 e
   exact ⟨a :: as,.list ho hc hd ra,fun z=>by unfold noL at z; cases z⟩
 | .dic kvs,v,u,p,q,r,h=>by
  unfold RD at q
  obtain ⟨a,us,rfl,z,rk⟩:=q
  cases (show u=Value.ref a from r)
  unfold toPy at h
  cases e:toPyk kvs with
  | none=>rw [e] at h; cases h
  | some ps=>
   rw [e] at h; cases h
   obtain ⟨_,hsys,vs,kv,o,es,ep,ho,hex,hd,_,hp,_⟩:=(show ObjOk X.prog X.w H s.heap a (.dK us) from I.hok a _ z.1)
   obtain ⟨as,bs,ra,rb,hn⟩:=readsk_ok I kvs us vs es.toList ps rk kv hp e
   refine ⟨a :: as ++ bs,.dict ho hex.1 hd ra rb,fun z=>?_⟩
   unfold noL at z
   intro hm
   rcases List.mem_append.mp hm with hm | hm
   ·rcases List.mem_cons.mp hm with hm | hm
    ·rw [← hm] at hsys; simp at hsys
    ·exact (hn z).1 hm
   ·exact (hn z).2 hm
 | .fz _,_,_,_,_,_,h=>by unfold toPy at h; cases h
 | .ref _,_,_,_,_,_,h=>by unfold toPy at h; cases h
 | .ty _,_,_,_,_,_,h=>by unfold toPy at h; cases h
 | .exc _,_,_,_,_,_,h=>by unfold toPy at h; cases h
 | .cls _,_,_,_,_,_,h=>by unfold toPy at h; cases h
theorem readss_ok {pins:List (Addr × Obj)} {σ:L2.St} {H:Hp} {s:Shared} {w:Wd} (I:Inv X pins σ H s):∀ (ds:List D) (vs:List V) (us:List Value) (ps:List PyData),RDs X.K w H ds vs→Vals vs us→toPys ds=some ps→∃ as,ReadsAll s.heap us ps as∧(noLs ds=true→sysModules ∉ as)
 | [],vs,us,ps,q,r,h=>by
  rw [q.nil_inv] at r
  cases r
  unfold toPys at h
  cases h
  exact ⟨_,.nil,fun _ z=>nomatch z⟩
 | d :: ds,_,us,ps,q,r,h=>by
  obtain ⟨v,vs,rfl,p,t⟩:=q.cons_inv
  unfold toPys at h
  cases e1:toPy d with
  | none=>rw [e1] at h; cases h
  | some p1=>
   cases e2:toPys ds with
   | none=>rw [e1,e2] at h; cases h
   | some p2=>
    rw [e1,e2] at h; cases h
    cases r with
    | cons r1 r2=>
     obtain ⟨as,ra,h1⟩:=reads_ok I d v _ p1 p r1 e1
     obtain ⟨bs,rb,h2⟩:=readss_ok I ds vs _ p2 t r2 e2
     refine ⟨as ++ bs,.cons ra rb,fun z=>?_⟩
     unfold noLs at z
     rw [Bool.and_eq_true] at z
     intro hm
     rcases List.mem_append.mp hm with hm | hm
     ·exact h1 z.1 hm
     ·exact h2 z.2 hm
theorem readsk_ok {pins:List (Addr × Obj)} {σ:L2.St} {H:Hp} {s:Shared} {w:Wd} (I:Inv X pins σ H s):∀ (ds:List (Sum Int Str × D)) (us:List (Key × V)) (vs:List (Key × Value)) (es:List DictEntry) (ps:List (PyData × PyData)),RDk X.K w H ds us→KV us vs→Pairs (mixKind X.prog X.w) es vs→toPyk ds=some ps→
  ∃ as bs,ReadsAll s.heap (es.map (·.key)) (ps.map (·.1)) as∧ReadsAll s.heap (es.map (·.val)) (ps.map (·.2)) bs∧(noLk ds=true→sysModules ∉ as∧sysModules ∉ bs)
 | [],us,vs,es,ps,q,r,hp,h=>by
  unfold RDk at q
  subst q
  cases r
  unfold toPyk at h
  cases h
  cases hp
  exact ⟨_,_,.nil,.nil,fun _=>⟨(fun z=>nomatch z),(fun z=>nomatch z)⟩⟩
 | (k,d) :: ds,us,vs,es,ps,q,r,hp,h=>by
  unfold RDk at q
  obtain ⟨v,ur,rfl,p,t⟩:=q
  unfold toPyk at h
  cases e1:toPy d with
  | none=>rw [e1] at h; cases h
  | some p1=>
   cases e2:toPyk ds with
   | none=>rw [e1,e2] at h; cases h
   | some p2=>
    rw [e1,e2] at h; cases h
    cases r with
    | cons r1 r2=>
     cases hp with
     | cons hk hv hr=>
      rename_i q0 vr e0 es0
      obtain ⟨k',v'⟩:=q0
      obtain ⟨ek,rv⟩:=r1
      have ek':k=k':=ek
      subst ek'
      obtain ⟨as,ra,h1⟩:=reads_ok I d v _ p1 p rv e1
      obtain ⟨as2,bs2,ra2,rb2,h2⟩:=readsk_ok I ds ur vr es0 p2 t r2 hr e2
      have hkey:∃ cs,Reads s.heap e0.key (keyPy k) cs∧cs=[]:=by
       rcases keyIs_shape hk with ⟨i,tk,z1,z2⟩ | ⟨x,tk,z1,z2⟩
       ·have z1':k=Sum.inl i:=z1
        subst z1'
        rw [z2]
        exact ⟨_,.int i tk,rfl⟩
       ·have z1':k=Sum.inr x:=z1
        subst z1'
        rw [z2]
        exact ⟨_,.str x tk,rfl⟩
      obtain ⟨cs,rc,ec⟩:=hkey
      subst ec
      have hv':e0.val=v':=hv
      refine ⟨[] ++ as2,as ++ bs2,.cons rc ra2,.cons (by show Reads s.heap e0.val p1 as; rw [hv']; exact ra) rb2,fun z=>?_⟩
      unfold noLk at z
      rw [Bool.and_eq_true] at z
      refine ⟨by rw [List.nil_append]; exact (h2 z.2).1,fun hm=>?_⟩
      rcases List.mem_append.mp hm with hm | hm
      ·exact h1 z.1 hm
      ·exact (h2 z.2).2 hm
end
def okPy (p:PyData) (nl:Bool):Prop:=p.showable=true∧p.depth≤40∧p.shown.length≤sizeLine∧(p.hasDict=false ∨ nl=true)
noncomputable instance (p:PyData) (nl:Bool):Decidable (okPy p nl):=by unfold okPy; infer_instance
def fRepr:Sto→List D→Option D
 | _,[d]=>match toPy d with
  | some p=>if okPy p (noL d) then some (.str p.shown) else none
  | none=>none
 | _,_=>none
theorem xc_repr {k:Nat} (hr:Room k X.A):CallR X (.builtin "repr") (xC X.K E fRepr):=by
 rintro pins s σ H xs us Q I r ⟨w,S,ds,hS,qs,p⟩
 obtain ⟨z,hz,p'⟩:=p.of
 clear p
 unfold fRepr at hz
 split at hz
 ·rename_i d
  obtain ⟨v,rfl,q⟩:=qs.one_inv
  obtain ⟨u,rfl,ru⟩:=vals1 r
  cases e:toPy d with
  | none=>rw [e] at hz; cases hz
  | some py=>
   rw [e] at hz
   simp only at hz
   split at hz
   ·rename_i ok
    cases hz
    obtain ⟨as,rd,hn⟩:=reads_ok I d v u py q ru e
    have hu:X.A.units + (py.depth + 1) < cLine:=by have:=hr.un; have:=ok.2.1; omega
    have hsm:py.hasDict=true→sysModules ∉ as:=fun hd=>by
     rcases ok.2.2.2 with z | z
     ·rw [z] at hd; cases hd
     ·exact hn z
    have fin:∀ tk h' t,(∀ b o,s.heap.get? b=some o→h'.get? b=some o)→EP X pins σ Q (.str py.shown t) { s with heap:=h',toks:=tk }:=fun tk h' t hk=>⟨.str py.shown,H,I.kept hk,⟨t,rfl⟩,p'.ret RD.mkS hS⟩
    have stay:∀ b o,s.heap.get? b=some o→s.heap.get? b=some o:=fun _ _ z=>z
    cases rd with
    | none=>exact PySem.P.repr_of_none (fin _ _ _ stay)
    | bool b=>
     have z:=fin (s.toks + 1) s.heap s.toks stay
     unfold PyData.shown at z
     refine PySem.P.repr_of_bool ?_
     cases b <;> exact z
    | int i t=>exact PySem.P.repr_of_int (of_decide_eq_true (by have:=ok.1; unfold PyData.showable at this; exact this)) (fin _ _ _ stay)
    | str x t=>exact PySem.P.repr_of_str (fin _ _ _ stay) (by have:=ok.2.2.1; unfold PyData.shown at this; exact this)
    | list h1 h2 h3 h4=>exact repr_of_reads' (.list h1 h2 h3 h4) ok.1 hsm hr.gd hu stay (fun h' u tk hk=>fin tk h' u hk) ok.2.2.1
    | tuple h1 h2 h3 h4=>exact repr_of_reads' (.tuple h1 h2 h3 h4) ok.1 hsm hr.gd hu stay (fun h' u tk hk=>fin tk h' u hk) ok.2.2.1
    | dict h1 h2 h3 h4 h5=>exact repr_of_reads' (.dict h1 h2 h3 h4 h5) ok.1 hsm hr.gd hu stay (fun h' u tk hk=>fin tk h' u hk) ok.2.2.1
   ·cases hz
 ·cases hz
end
end PD
namespace PD
open PySem PySem.Spec PyProof.Rows L2
section
variable {K:PySem.W.Frag} {w:Wd} {H:Hp}
structure Mv (w:Wd) (H:Hp) (w2:Wd) (H2:Hp):Prop where
 st:∀ (n:Nat) (a:Addr),w.st[n]?=some a→w2.st[n]?=some a
 at_:∀ a o,At w H a o→At w2 H2 a o
mutual
theorem RD.mv {w2:Wd} {H2:Hp} (x:Mv w H w2 H2):∀ (d:D) (v:V),RD K w H d v→RD K w2 H2 d v
 | .non,_,h=>h
 | .bl _,_,h=>h
 | .int _,_,h=>h
 | .str _,_,h=>h
 | .tup ds,v,h=>by
  unfold RD at h ⊢
  obtain ⟨a,vs,e,p,r⟩:=h
  exact ⟨a,vs,e,p.imp (x.at_ _ _) id,RDs.mv x ds vs r⟩
 | .lst ds,v,h=>by
  unfold RD at h ⊢
  obtain ⟨a,vs,e,p,r⟩:=h
  exact ⟨a,vs,e,x.at_ _ _ p,RDs.mv x ds vs r⟩
 | .fz ds,v,h=>by
  unfold RD at h ⊢
  obtain ⟨a,vs,e,p,r⟩:=h
  exact ⟨a,vs,e,p.imp (fun ⟨o,z⟩=>⟨o,x.at_ _ _ z⟩) id,RDs.mv x ds vs r⟩
 | .dic kvs,v,h=>by
  unfold RD at h ⊢
  obtain ⟨a,us,e,p,r⟩:=h
  exact ⟨a,us,e,x.at_ _ _ p,RDk.mv x kvs us r⟩
 | .ref n,v,h=>by
  unfold RD at h ⊢
  obtain ⟨a,e,p⟩:=h
  exact ⟨a,e,x.st n a p⟩
 | .ty _,_,h=>h
 | .exc c,v,h=>by
  unfold RD at h ⊢
  obtain ⟨a,C,e,q,p⟩:=h
  exact ⟨a,C,e,q,x.at_ _ _ p⟩
 | .cls _,_,h=>h
theorem RDs.mv {w2:Wd} {H2:Hp} (x:Mv w H w2 H2):∀ (ds:List D) (vs:List V),RDs K w H ds vs→RDs K w2 H2 ds vs
 | [],_,h=>h
 | d :: ds,vs,h=>by
  unfold RDs at h ⊢
  obtain ⟨v,r,e,p,q⟩:=h
  exact ⟨v,r,e,RD.mv x d v p,RDs.mv x ds r q⟩
theorem RDk.mv {w2:Wd} {H2:Hp} (x:Mv w H w2 H2):∀ (ds:List (Sum Int Str × D)) (vs:List (Key × V)),RDk K w H ds vs→RDk K w2 H2 ds vs
 | [],_,h=>h
 | (k,d) :: ds,vs,h=>by
  unfold RDk at h ⊢
  obtain ⟨v,r,e,p,q⟩:=h
  exact ⟨v,r,e,RD.mv x d v p,RDk.mv x ds r q⟩
end
theorem RO.mv {w2:Wd} {H2:Hp} (x:Mv w H w2 H2) {a:Addr} {o:SO} (hk:∀ u,H a=some u→H2 a=some u) (r:RO K w H a o):RO K w2 H2 a o:=by
 cases o with
 | lst ds=>obtain ⟨vs,e,q⟩:=r; exact ⟨vs,hk _ e,RDs.mv x _ _ q⟩
 | dic kvs=>obtain ⟨vs,e,q⟩:=r; exact ⟨vs,hk _ e,RDk.mv x _ _ q⟩
 | fdic kvs=>obtain ⟨o,vs,e,q⟩:=r; exact ⟨o,vs,hk _ e,RDk.mv x _ _ q⟩
 | ins c fs=>exact r
 | flst ds=>obtain ⟨o,vs,e,q⟩:=r; exact ⟨o,vs,hk _ e,RDs.mv x _ _ q⟩
theorem RSt.mv {w2:Wd} {H2:Hp} {r:Rho} {s:L2.St} (x:Mv w H w2 H2) (h:RSt K w H r s):RSt K w2 H2 r s:=
 ⟨h.1,fun i d e=>let ⟨v,e1,q⟩:=h.2 i d e; ⟨v,e1,RD.mv x d v q⟩⟩
theorem Ext.hide {p:Addr} {o:HO} (hp:H p=none):Ext w H (w.hide p) (upd H p o):=
 ⟨fun a u e _=>by rw [upd_ne (ne_of_none e hp)]; exact e,⟨[],by simp [Wd.hide],fun _ z=>nomatch z⟩,fun a h=>List.mem_cons_of_mem _ h,fun a h=>(List.mem_cons.mp h).elim (fun e=>.inr (e ▸ hp)) .inl,fun a o u e=>by rw [upd_ne (ne_of_none e hp)]; exact e⟩
def Wd.unhide (w:Wd) (p:Addr):Wd:=⟨w.st,w.hid.filter fun a=>decide (a ≠ p)⟩
theorem Wd.mem_unhide {p a:Addr} (h:a ∈ (w.unhide p).hid):a ∈ w.hid∧a ≠ p:=⟨(List.mem_filter.mp h).1,of_decide_eq_true (List.mem_filter.mp h).2⟩
theorem Mv.write {p:Addr} {o:HO} (hp:p ∈ w.hid):Mv w H w (upd H p o):=
 ⟨fun _ _ z=>z,fun a u h=>⟨by rw [upd_ne (fun z:a=p=>h.2.2 (z ▸ hp))]; exact h.1,h.2⟩⟩
theorem Mv.unhide {p:Addr}:Mv w H (w.unhide p) H:=
 ⟨fun _ _ z=>z,fun a u h=>⟨h.1,h.2.1,fun z=>h.2.2 (Wd.mem_unhide z).1⟩⟩
theorem RS.hide {p:Addr} {o:HO} {S:Sto} (s:RS K w H S) (hp:H p=none):RS K (w.hide p) (upd H p o) S:=by
 refine ⟨s.nd,s.len,fun n so e=>?_,fun a ha=>?_⟩
 ·obtain ⟨a,ha,r⟩:=s.obj n so e
  exact ⟨a,ha,r.ext (Ext.hide hp) fun u z=>by rw [upd_ne (ne_of_none z hp)]; exact z⟩
 ·rcases List.mem_cons.mp ha with z | z
  ·subst z; exact ⟨s.freshS hp,o,upd_same⟩
  ·obtain ⟨h1,u,e⟩:=s.hid a z
   exact ⟨h1,u,by rw [upd_ne (ne_of_none e hp)]; exact e⟩
theorem RS.write {p:Addr} {o:HO} {S:Sto} (s:RS K w H S) (hp:p ∈ w.hid):RS K w (upd H p o) S:=by
 have np:=(s.hid p hp).1
 refine ⟨s.nd,s.len,fun n so e=>?_,fun a ha=>?_⟩
 ·obtain ⟨a,ha,r⟩:=s.obj n so e
  have:a ≠ p:=fun z=>np (z ▸ List.mem_of_getElem? ha)
  exact ⟨a,ha,r.mv (Mv.write hp) fun u z=>by rw [upd_ne this]; exact z⟩
 ·obtain ⟨h1,u,e⟩:=s.hid a ha
  by_cases z:a=p
  ·subst z; exact ⟨h1,o,upd_same⟩
  ·exact ⟨h1,u,by rw [upd_ne z]; exact e⟩
theorem RS.unhide {p:Addr} {S:Sto} (s:RS K w H S):RS K (w.unhide p) H S:=
 ⟨s.nd,s.len,fun n so e=>by
  obtain ⟨a,ha,r⟩:=s.obj n so e
  exact ⟨a,ha,r.mv Mv.unhide fun u z=>z⟩,fun a ha=>s.hid a (Wd.mem_unhide ha).1⟩
theorem cap_rel {r:Rho} {s:L2.St} (k:Nat) (caps:List Nat) (h:RSt K w H r s):RSt K w H (capOf k caps r) (capSt k caps s):=by
 unfold capOf capSt
 refine ⟨by simp,fun i d e=>?_⟩
 by_cases hi:i < k
 ·rw [List.getElem?_append_left (by simpa using hi),List.getElem?_replicate] at e
  split at e <;> cases e
 ·rw [List.getElem?_append_right (by simpa using hi),List.getElem?_map,List.length_replicate] at e
  rw [List.getElem?_append_right (by simpa using hi),List.getElem?_map,List.length_replicate]
  cases ec:caps[i - k]? with
  | none=>rw [ec] at e; cases e
  | some j=>
   rw [ec] at e
   have e':(r[j]?).join=some d:=Option.some.inj e
   have hj:r[j]?=some (some d):=by
    cases q:r[j]? with
    | none=>rw [q] at e'; cases e'
    | some o=>rw [q] at e'; rw [show o=some d from e']
   obtain ⟨v,ev,rv⟩:=h.2 j d hj
   exact ⟨v,by show some ((s[j]?).join)=some (some v); rw [ev]; rfl,rv⟩
end
abbrev SIf (X:Cx) (E:XK) (ifs:List Expr) (m:TM):Prop:=Bx (PIfs X ifs (uT X.K E m))
theorem sif_nil {X:Cx} {E:XK}:SIf X E [] tTrue:=⟨fun pins s σ H Q I zq=>ex6 zq fun w r S hr hS hp=>pifs_nil pins s σ H Q I (hp.ret rfl hS)⟩
theorem sif_one {X:Cx} {E:XK} {c:Expr} {m:TM} (h:ST X E c m):SIf X E [c] m:=⟨pifs_one h.out⟩
theorem se_comp {X:Cx} {E:XK} {elt tg iter:Expr} {ifs:List Expr} {scope:Scope} {pos:Pos} {N:List Str} {k:Nat} {caps:List Nat} {it:AM} {g:G} {mt:TM} {me:EM} (hX:X.calm=true) (hxe:∀ e s,¬ X.xe e s) (C:CompScope X N k caps scope)
  (hi:SI X E tg iter it) (hg:∀ cl s0 H0 ex,SG (cxC X N scope cl s0 H0 ex) tg g) (ht:∀ cl s0 H0 ex,SIf (cxC X N scope cl s0 H0 ex) E ifs mt) (he:∀ cl s0 H0 ex,SE (cxC X N scope cl s0 H0 ex) E elt me)
  (hs:autoParam (∀ x,foldedSetIterable iter X.env x=pure x) Au.h4._auto_1):SE X E (.ListComp elt [⟨tg,iter,ifs,0⟩] scope pos) (eComp it k caps g mt me):=⟨
 pe_weak (pe_comp hX hxe C hi.out (g:=uG X.K g) (fun cl s0 H0 ex=>(hg cl s0 H0 ex).out) (tt:=uT X.K E mt) (fun cl s0 H0 ex=>(ht cl s0 H0 ex).out) (te:=uE X.K E me) (fun cl s0 H0 ex=>(he cl s0 H0 ex).out) hs) fun s H Q zq=>ex6 zq fun w r S hr hS hp=>⟨w,r,S,hr,hS,hp.bind hS fun ds S1 w1 H1 J x1 q1 s1 p1=>by
  intro p hp
  have hr1:=hr.ext x1
  have pno:p ∉ w1.hid:=(s1.fresh hp).2
  have hz:ds.length≤sizeLine:=by
   rcases Nat.lt_or_ge sizeLine ds.length with z | z
   ·rw [if_neg (by omega)] at p1; exact p1.elim
   ·exact z
  rw [if_pos hz] at p1
  -- the list is made at p,which is hidden
  refine ⟨fun i n s' H'=>n=ds.length - i∧i≤ds.length∧∃ w' r' S' ys vs,Ext w1 H1 w' H'∧p ∈ w'.hid∧RSt X.K w' H' r' s'∧RS X.K w' H' S'∧H' p=some (.lst vs)∧RDs X.K w' H' ys vs∧ys.length≤i∧
    Post X.K E (RD X.K) w1 H1 ((compL g mt me (ds.drop i) r' S').bind fun zs S2=>R.ok (.lst (ys ++ zs)) S2) Q,
   ⟨ds.length,by simp,Nat.zero_le _,w1.hide p,capOf k caps r,S1,[],[],Ext.hide hp,List.mem_cons_self,(cap_rel k caps hr1).ext (Ext.hide hp),s1.hide hp,upd_same,.nil,Nat.le_refl _,p1⟩,?_⟩
  rintro i n s2 H2 ⟨rfl,hi.out,w2,r2,S2,ys,vs,x2,hph,hr2,hS2,hpv,ry,hyl,hp2⟩
  have hpn:p ∉ w2.st:=(hS2.hid p hph).1
  by_cases hlt:i < ds.length
  ·obtain ⟨go,yld⟩:=(q1 i w2 H2 x2).1 hlt
   refine .inr ⟨go,fun s' H'=>∃ w' r' S' ys vs,Ext w1 H1 w' H'∧p ∈ w'.hid∧RSt X.K w' H' r' s'∧RS X.K w' H' S'∧H' p=some (.lst vs)∧RDs X.K w' H' ys vs∧ys.length≤i + 1∧
     Post X.K E (RD X.K) w1 H1 ((compL g mt me (ds.drop (i + 1)) r' S').bind fun zs S2=>R.ok (.lst (ys ++ zs)) S2) Q,
    fun s' H' hN=>⟨ds.length - (i + 1),by omega,rfl,hlt,hN⟩,fun x H3 hy=>?_⟩
   obtain ⟨gr,rd⟩:=yld x H3 hy
   obtain ⟨d,ed,qd⟩:=rd S2 hS2
   obtain ⟨x3,s3⟩:=grown_ok gr hS2
   have hdrop:ds.drop i=d :: ds.drop (i + 1):=by
    rw [List.drop_eq_getElem_cons hlt]
    rw [List.getElem?_eq_getElem hlt] at ed
    cases ed; rfl
   rw [hdrop] at hp2
   have hpv3:H3 p=some (.lst vs):=x3.keep _ _ hpv hpn
   have ry3:=RDs.ext x3 _ _ ry
   have x13:Ext w1 H1 w2 H3:=x2.trans' x3 s1 hS2
   unfold compL at hp2
   cases e:g.put d r2 with
   | none=>rw [e] at hp2; exact hp2.elim
   | some r3=>
    rw [e] at hp2
    refine ⟨w2,r2,d,r3,hr2.ext x3,qd,e,fun s4 hr4=>⟨w2,r3,S2,hr4,s3,?_⟩⟩
    -- hp2:(mt r3 S2).bind .. |>.bind ..
    have hass:∀ {A B C:Type} (r:R A) (f:A→Sto→R B) (h:B→Sto→R C),(r.bind f).bind h=r.bind fun a S=>(f a S).bind h:=fun r f h=>by cases r <;> rfl
    simp only [hass] at hp2
    refine Post.bindAt (rel:=RB) hp2 x13 s1 s3 fun c S5 w5 H5 c' x5 q5 s5 p5=>?_
    have ec:c'=c:=q5
    subst ec
    have x15:Ext w1 H1 w5 H5:=x13.trans' x5 s1 s3
    have hph5:p ∈ w5.hid:=x5.hid p hph
    have hpv5:H5 p=some (.lst vs):=x5.keep _ _ hpv3 hpn
    cases c' with
    | false=>
     refine iteF ⟨w5,r3,S5,ys,vs,x15,hph5,hr4.ext x5,s5,hpv5,RDs.ext x5 _ _ ry3,Nat.le_succ_of_le hyl,p5⟩
    | true=>
     refine iteT ⟨w5,r3,S5,hr4.ext x5,s5,?_⟩
     have p5':Post X.K E (RD X.K) w1 H1 (((me r3 S5).bind fun y S2=>(compL g mt me (ds.drop (i + 1)) r3 S2).bind fun ys S3=>R.ok (y :: ys) S3).bind fun zs S2=>R.ok (D.lst (ys ++ zs)) S2) Q:=p5
     simp only [hass] at p5'
     refine Post.bindAt (rel:=RD X.K) p5' x15 s1 s5 fun y S6 w6 H6 yv x6 q6 s6 p6=>?_
     have x16:Ext w1 H1 w6 H6:=x15.trans' x6 s1 s5
     have hph6:p ∈ w6.hid:=x6.hid p hph5
     have hpn5:p ∉ w5.st:=(s5.hid p hph5).1
     have hpn6:p ∉ w6.st:=(s6.hid p hph6).1
     have hpv6:H6 p=some (.lst vs):=x6.keep _ _ hpv5 hpn5
     have ry6:=RDs.ext x6 _ _ (RDs.ext x5 _ _ ry3)
     refine ⟨vs,hpv6,by rw [ry6.length]; omega,w6,r3,S6,ys ++ [y],vs ++ [yv],⟨fun a o h n=>?_,x16.sub,x16.hid,x16.hnew,fun a o u h=>by have z:=x16.frz a o u h; rw [upd_ne (fun e:a=p=>by rw [e,hpv6] at z; cases z)]; exact z⟩,hph6,(hr4.ext x5).ext x6 |>.mv (Mv.write hph6),s6.write hph6,upd_same,(RDs.mv (Mv.write hph6) _ _ ry6).append (.cons (RD.mv (Mv.write hph6) _ _ q6) .nil),by simp; omega,?_⟩
     ·have:a ≠ p:=ne_of_none h hp
      rw [upd_ne this]; exact x16.keep a o h n
     ·have he2:∀ zs:List D,(ys ++ [y]) ++ zs=ys ++ y :: zs:=fun zs=>by simp
      simp only [he2]
      exact p6
  ·have e:i=ds.length:=by omega
   subst e
   rw [List.drop_length] at hp2
   refine .inl ⟨(q1 _ w2 H2 x2).2 (Nat.le_refl _),?_⟩
   have hp3:Post X.K E (RD X.K) w1 H1 (R.ok (D.lst (ys ++ [])) S2) Q:=hp2
   rw [List.append_nil] at hp3
   refine Post.at hp3 (w1:=w2.unhide p) ⟨x2.keep,x2.sub,fun a h=>List.mem_filter.mpr ⟨x2.hid a h,decide_eq_true fun z=>pno (z ▸ h)⟩,fun a h=>x2.hnew a (Wd.mem_unhide h).1,x2.frz⟩ ?_ hS2.unhide
   unfold RD
   exact ⟨p,vs,rfl,⟨hpv,hpn,fun z=>(Wd.mem_unhide z).2 rfl⟩,RDs.mv Mv.unhide _ _ ry⟩⟩⟩
end PD
namespace PD
open PySem PySem.Spec PyProof.Rows L2
abbrev KD:=Sum Int Str
def keyD:D→Option KD
 | .int i=>some (.inl i)
 | .str x=>some (.inr x)
 | _=>none
def putD (kvs:List (KD × D)) (k:KD) (d:D):List (KD × D):=
 if kvs.any (fun kv=>decide (kv.1=k)) then kvs.map (fun kv=>if kv.1=k then (kv.1,d) else kv) else kvs ++ [(k,d)]
def mergeD (kvs more:List (KD × D)):List (KD × D):=more.foldl (fun acc kv=>putD acc kv.1 kv.2) kvs
def keysD:List (D × D)→Option (List (KD × D))
 | []=>some []
 | (k,v) :: r=>match keyD k,keysD r with
  | some k',some r'=>some ((k',v) :: r')
  | _,_=>none
def pM:List (EM × EM)→Rho→Sto→R (List (D × D))
 | [],_,S=>.ok [] S
 | (a,b) :: t,r,S=>(a r S).bind fun x S1=>(b r S1).bind fun y S2=>(pM t r S2).bind fun ps S3=>.ok ((x,y) :: ps) S3
def eDic (ms:List (EM × EM)):EM:=fun r S=>(pM ms r S).bind fun ps S1=>match keysD ps with
 | some kvs=>if kvs.length≤15 then .ok (.dic (mergeD [] kvs)) S1 else .bad
 | none=>.bad
def eDicN (ms:List (EM × EM)):EM:=fun r S=>(pM ms r S).bind fun ps S1=>match keysD ps with
 | some kvs=>if kvs.length≤15 then .ok (.ref S1.length) (S1 ++ [.dic (mergeD [] kvs)]) else .bad
 | none=>.bad
section
variable {K:PySem.W.Frag} {w:Wd} {H:Hp}
theorem RDk.nil:RDk K w H [] []:=by unfold RDk; rfl
theorem RDk.cons {k:KD} {d:D} {v:V} {ds:List (KD × D)} {vs:List (Key × V)} (r:RD K w H d v) (q:RDk K w H ds vs):RDk K w H ((k,d) :: ds) ((k,v) :: vs):=by unfold RDk; exact ⟨v,vs,rfl,r,q⟩
theorem RDk.nil_inv {vs:List (Key × V)} (h:RDk K w H [] vs):vs=[]:=by unfold RDk at h; exact h
theorem RDk.cons_inv {k:KD} {d:D} {ds:List (KD × D)} {vs:List (Key × V)} (h:RDk K w H ((k,d) :: ds) vs):∃ v r,vs=(k,v) :: r∧RD K w H d v∧RDk K w H ds r:=by unfold RDk at h; exact h
theorem RDk.append:∀ {ds es:List (KD × D)} {vs us:List (Key × V)},RDk K w H ds vs→RDk K w H es us→RDk K w H (ds ++ es) (vs ++ us)
 | [],_,_,_,h,q=>by rw [h.nil_inv]; exact q
 | (_,_) :: _,_,_,_,h,q=>by
  obtain ⟨v,r,rfl,p,t⟩:=h.cons_inv
  exact .cons p (RDk.append t q)
theorem RDk.any:∀ {ds:List (KD × D)} {vs:List (Key × V)} (k:KD),RDk K w H ds vs→(ds.any fun kv=>decide (kv.1=k))=(vs.any fun kv=>decide (kv.1=k))
 | [],_,_,h=>by rw [h.nil_inv]; rfl
 | (_,_) :: _,_,k,h=>by
  obtain ⟨v,r,rfl,p,t⟩:=h.cons_inv
  rw [List.any_cons,List.any_cons,RDk.any k t]
theorem RDk.repl {d:D} {v:V} (r:RD K w H d v):∀ {ds:List (KD × D)} {vs:List (Key × V)} (k:KD),RDk K w H ds vs→RDk K w H (ds.map fun kv=>if kv.1=k then (kv.1,d) else kv) (vs.map fun kv=>if kv.1=k then (kv.1,v) else kv)
 | [],_,_,h=>by rw [h.nil_inv]; exact .nil
 | (j,_) :: _,_,k,h=>by
  obtain ⟨v',r',rfl,p,t⟩:=h.cons_inv
  simp only [List.map_cons]
  by_cases hj:j=k
  ·rw [if_pos hj,if_pos hj]; exact .cons r (RDk.repl r k t)
  ·rw [if_neg hj,if_neg hj]; exact .cons p (RDk.repl r k t)
theorem RDk.put {ds:List (KD × D)} {vs:List (Key × V)} {d:D} {v:V} (q:RDk K w H ds vs) (k:KD) (r:RD K w H d v):RDk K w H (putD ds k d) (putK vs k v):=by
 unfold putD putK
 rw [q.any k]
 split
 ·exact q.repl r k
 ·exact q.append (.cons r .nil)
theorem RDk.merge:∀ {more:List (KD × D)} {mvs:List (Key × V)} {ds:List (KD × D)} {vs:List (Key × V)},RDk K w H more mvs→RDk K w H ds vs→RDk K w H (mergeD ds more) (mergeK vs mvs)
 | [],_,_,_,h,q=>by rw [h.nil_inv]; exact q
 | (k,d) :: r,_,ds,vs,h,q=>by
  obtain ⟨v',r',rfl,p,t⟩:=h.cons_inv
  show RDk K w H (mergeD (putD ds k d) r) (mergeK (putK vs k v') r')
  exact RDk.merge t (q.put k p)
theorem keyD_ok {d:D} {v:V} {k:KD} (q:RD K w H d v) (h:keyD d=some k):v=kV k:=by
 cases d with
 | int i=>cases q.int; cases h; rfl
 | str x=>cases q.str; cases h; rfl
 | _=>cases h
def RPs (K:PySem.W.Frag) (w:Wd) (H:Hp):List (D × D)→List (V × V)→Prop
 | [],vs=>vs=[]
 | (a,b) :: r,vs=>∃ x y t,vs=(x,y) :: t∧RD K w H a x∧RD K w H b y∧RPs K w H r t
theorem keysD_ok:∀ {ps:List (D × D)} {vs:List (V × V)} {kvs:List (KD × D)},RPs K w H ps vs→keysD ps=some kvs→∃ us:List (Key × V),vs=us.map (fun kv=>(kV kv.1,kv.2))∧RDk K w H kvs us
 | [],_,_,h,e=>by
  have h':_=[]:=h
  subst h'
  unfold keysD at e
  cases e
  exact ⟨[],rfl,.nil⟩
 | (a,b) :: r,_,kvs,h,e=>by
  obtain ⟨u,v,t,rfl,h1,h2,h3⟩:=h
  unfold keysD at e
  cases e1:keyD a with
  | none=>rw [e1] at e; cases e
  | some k=>
   cases e2:keysD r with
   | none=>rw [e1,e2] at e; cases e
   | some r'=>
    rw [e1,e2] at e; cases e
    obtain ⟨us,rfl,q⟩:=keysD_ok h3 e2
    exact ⟨(k,v) :: us,by rw [keyD_ok h1 e1]; rfl,.cons h2 q⟩
end
section
variable {X:Cx} {E:XK} {pos:Pos}
def uPs (K:PySem.W.Frag) (E:XK) (ms:List (EM × EM)):List (TE × TE):=ms.map fun p=>(uE K E p.1,uE K E p.2)
theorem tp_ok {A2 B2:Type} {K:PySem.W.Frag} {rel2:Wd→Hp→A2→B2→Prop} {w0:Wd} {H0:Hp} {S0:Sto} {Q:B2→Hp→Prop} (s0:RS K w0 H0 S0):∀ (ms:List (EM × EM)) {w:Wd} {H:Hp} {S:Sto} {r:Rho} {s:L2.St} {f:List (D × D)→Sto→R A2} {Q':List (V × V)→Hp→Prop},RSt K w H r s→RS K w H S→Ext w0 H0 w H→
  Post K E rel2 w0 H0 ((pM ms r S).bind f) Q→(∀ ps S1 w1 H1 vs,Ext w H w1 H1→RPs K w1 H1 ps vs→RS K w1 H1 S1→Post K E rel2 w0 H0 (f ps S1) Q→Q' vs H1)→tPairs (uPs K E ms) s H Q'
 | [],w,H,S,r,s,f,Q',hr,hS,x,hp,k=>k [] S w H [] (Ext.refl _ _) rfl hS hp
 | (a,b) :: t,w,H,S,r,s,f,Q',hr,hS,x,hp,k=>by
  have hass:∀ {A B C:Type} (r:R A) (f:A→Sto→R B) (h:B→Sto→R C),(r.bind f).bind h=r.bind fun a S=>(f a S).bind h:=fun r f h=>by cases r <;> rfl
  unfold pM at hp
  rw [hass] at hp
  refine ⟨w,r,S,hr,hS,Post.bindAt (rel:=RD K) hp x s0 hS fun d S1 w1 H1 u x1 q1 s1 p1=>?_⟩
  rw [hass] at p1
  have x01:=x.trans' x1 s0 hS
  refine ⟨w1,r,S1,hr.ext x1,s1,Post.bindAt (rel:=RD K) p1 x01 s0 s1 fun e S2 w2 H2 v x2 q2 s2 p2=>?_⟩
  rw [hass] at p2
  have x02:=x01.trans' x2 s0 s1
  exact tp_ok s0 t ((hr.ext x1).ext x2) s2 x02 p2 fun ps S3 w3 H3 vs x3 q3 s3 p3=>
   k ((d,e) :: ps) S3 w3 H3 ((u,v) :: vs) ((x1.trans' x2 hS s1).trans' x3 hS s2) ⟨u,v,vs,rfl,RD.ext x3 _ _ (RD.ext x2 _ _ q1),RD.ext x3 _ _ q2,q3⟩ s3 p3
abbrev SPs (X:Cx) (E:XK) (pos:Pos) (keys:List (Option Expr)) (values:List Expr) (ms:List (EM × EM)):Prop:=Bx (PPs X pos keys values (uPs X.K E ms))
theorem sps_nil:SPs X E pos [] [] []:=⟨pps_nil⟩
theorem sps_cons {k v:Expr} {ks:List (Option Expr)} {vs:List Expr} {mk mv:EM} {ms:List (EM × EM)} (hk:SE X E k mk) (hv:SE X E v mv) (hr:SPs X E pos ks vs ms):SPs X E pos (some k :: ks) (v :: vs) ((mk,mv) :: ms):=⟨pps_cons hk.out hv.out hr.out⟩
theorem disp_core {keys:List (Option Expr)} {values:List Expr} {ms:List (EM × EM)} {m:EM} {s:L2.St} {H:Hp} {Q:VK} {fin:List (KD × D)→Sto→R D}
  (hm:∀ r S,m r S=(pM ms r S).bind fun ps S1=>match keysD ps with | some kvs=>if kvs.length≤15 then fin kvs S1 else .bad | none=>.bad)
  (hfin:∀ (kvs:List (KD × D)) (us:List (Key × V)) (w0 w:Wd) (H0 H:Hp) (S0 S:Sto) (p:Addr),H0 p=none→RS X.K w0 H0 S0→RS X.K w H S→Ext w0 H0 w H→p ∈ w.hid→RDk X.K w H (mergeD [] kvs) (mergeK [] us)→Post X.K E (RD X.K) w0 H0 (fin kvs S) Q→Q (.ref p) (upd H p (.dK (mergeK [] us))))
  (h:uE X.K E m s H Q):tDisp (uPs X.K E ms) s H Q:=by
 obtain ⟨w,r,S,hr,hS,hp⟩:=h
 rw [hm] at hp
 intro p hpn
 refine tp_ok hS ms (hr.ext (Ext.hide hpn)) (hS.hide hpn) (Ext.hide hpn) hp fun ps S1 w1 H1 vs x1 q1 s1 p1=>?_
 have hh:p ∈ w1.hid:=x1.hid p List.mem_cons_self
 have hx:Ext w H w1 H1:=(Ext.hide hpn).trans' x1 hS (hS.hide hpn)
 refine ⟨x1.keep p _ upd_same ((hS.hide (o:=HO.dK []) hpn).hid p List.mem_cons_self).1,?_⟩
 cases e:keysD ps with
 | none=>rw [e] at p1; exact p1.elim
 | some kvs=>
  rw [e] at p1
  obtain ⟨us,rfl,rk⟩:=keysD_ok q1 e
  have hl:=rk.length
  by_cases hz:kvs.length≤15
  ·have p2:Post X.K E (RD X.K) w H (if kvs.length≤15 then fin kvs S1 else R.bad) Q:=p1
   rw [if_pos hz] at p2
   exact ⟨us,rfl,by rw [hl]; exact hz,hfin kvs us w w1 H H1 S S1 p hpn hS s1 hx hh (rk.merge .nil) p2⟩
  ·have p2:Post X.K E (RD X.K) w H (if kvs.length≤15 then fin kvs S1 else R.bad) Q:=p1
   rw [if_neg hz] at p2
   exact p2.elim
end
end PD
namespace PD
open PySem PySem.Spec PyProof.Rows L2
def ALen (m:AM) (n:Nat):Prop:=∀ r S ds S',m r S=.ok ds S'→ds.length=n
theorem alen_nil:ALen aNil 0:=fun r S ds S' h=>by unfold aNil at h; cases h; rfl
theorem alen_cons {a:EM} {t:AM} {n:Nat} (h:ALen t n):ALen (aCons a t) (n + 1):=fun r S ds S' e=>by
 unfold aCons at e
 cases e1:a r S with
 | bad=>rw [e1] at e; cases e
 | err x S1=>rw [e1] at e; cases e
 | ok d S1=>
  rw [e1] at e
  cases e2:t r S1 with
  | bad=>simp only [R.bind_ok,e2,R.bind_bad] at e; cases e
  | err x S2=>simp only [R.bind_ok,e2,R.bind_err] at e; cases e
  | ok es S2=>
   simp only [R.bind_ok,e2] at e
   cases e
   simp [h r S1 es _ e2]
section
variable {X:Cx} {E:XK}
theorem se_gi {x:Str} {i:Int} {pos:Pos} (hm:∃ t,X.mg x=some (.int i t)) (hg:Gl X x) (hd:autoParam ((x == ("__debug__":Str))=false) Au.h3._auto_1):SE X E (.Name x pos) (eC (.int i)):=by
 obtain ⟨t,e⟩:=hm
 exact se_gint hg e hd
end
section
variable {P:Program} {w:World} {K:PySem.W.Frag} {mg:Str→Option Value} {base:Heap}
end
def capsOk (N0 N:List Str) (k:Nat) (scope:Scope):List Nat→Nat→Bool
 | [],_=>true
 | i :: r,t=>(match N0[i]?,N[k + t]? with
  | some x,some y=>x == y && scope.names.lookup x == some .free
  | _,_=>false) && capsOk N0 N k scope r (t + 1)
theorem capsOk_get {N0 N:List Str} {k:Nat} {scope:Scope}:∀ {caps:List Nat} {t0:Nat},capsOk N0 N k scope caps t0=true→∀ (t i:Nat),caps[t]?=some i→∃ x,N0[i]?=some x∧N[k + (t0 + t)]?=some x∧scope.names.lookup x=some .free
 | [],_,_,_,_,h=>by simp at h
 | j :: r,t0,h,t,i,e=>by
  unfold capsOk at h
  rw [Bool.and_eq_true] at h
  cases t with
  | zero=>
   simp at e
   subst e
   have h1:=h.1
   cases e1:N0[j]? with
   | none=>rw [e1] at h1; cases h1
   | some x=>
    cases e2:N[k + t0]? with
    | none=>rw [e1,e2] at h1; cases h1
    | some y=>
     rw [e1,e2] at h1
     simp only [Bool.and_eq_true] at h1
     have hxy:x=y:=eq_of_beq h1.1
     subst hxy
     exact ⟨x,rfl,by simpa using e2,eq_of_beq h1.2⟩
  | succ t=>
   obtain ⟨x,a,b,c⟩:=capsOk_get h.2 t i (by simpa using e)
   exact ⟨x,a,by rw [show t0 + (t + 1)=t0 + 1 + t by omega]; exact b,c⟩
theorem cs_mk {X:Cx} {N:List Str} {k:Nat} {caps:List Nat} {scope:Scope} (h1:scope.kind=.function) (h2:scope.names.all (fun x=>x.2 != .cell)=true) (h3:scope.names.all (fun x=>x.2 != .local || scope.names.lookup x.1 == some .local)=true)
  (h4:scope.names.all (fun x=>x.2 != .free || X.env.kindOf x.1 == some .cell || X.env.kindOf x.1 == some .free)=true) (h5:N.length=k + caps.length) (h6:capsOk X.N N k scope caps 0=true):CompScope X N k caps scope:=by
 refine ⟨h1,fun x hx z=>?_,fun x hx z=>?_,fun x hx z=>?_,h5,fun t i e=>?_⟩
 ·have:=List.all_eq_true.mp h2 x hx
  rw [z] at this; simp at this
 ·have:=List.all_eq_true.mp h3 x hx
  rw [z] at this
  simpa using this
 ·have:=List.all_eq_true.mp h4 x hx
  rw [z] at this
  simpa using this
 ·obtain ⟨x,a,b,c⟩:=capsOk_get h6 t i e
  exact ⟨x,a,by simpa using b,c⟩
theorem law_sp {f:FM} (h:∀ ns:List Int,ns.length≤63→∃ S,f [.fz (ns.map .int)] []=.ok (.bl true) S) (K:PySem.W.Frag) (H:Hp) (a:Addr) (ns:List Int) (hn:ns.length≤63) (ho:Only H) (hs:SqL K H a (ns.map V.int)):
  spM K 1 f [.ref a] H (fun v _=>v=.bl true) fun _ _ _=>False:=by
 obtain ⟨S,e⟩:=h ns hn
 have hfz:FzAt K ⟨[],[]⟩ H a (ns.map V.int):=by
  rcases hs with (hs | ⟨o,hs⟩) | hs
  ·rcases ho a with z | ⟨o,xs,z⟩
   ·rw [z] at hs; cases hs
   ·rw [z] at hs; cases hs
  ·exact .inl ⟨o,hs,(fun z=>nomatch z),(fun z=>nomatch z)⟩
  ·exact .inr hs
 have hints:∀ l:List Int,RDs K ⟨[],[]⟩ H (l.map D.int) (l.map V.int):=fun l=>by
  induction l with
  | nil=>exact .nil
  | cons i l ih=>exact .cons RD.mkI ih
 refine ⟨rfl,⟨[],[]⟩,[],[.fz (ns.map .int)],⟨List.nodup_nil,rfl,fun n o z=>?_,(fun a z=>nomatch z)⟩,.cons (by unfold RD; exact ⟨a,_,rfl,hfz,hints ns⟩) .nil,?_⟩
 ·simp at z
 ·rw [e]
  intro w' H' b x q s
  unfold RD at q
  exact q
end PD
namespace PD
open PySem L2
theorem oMul_i {S:Sto} {i j:Int} (h:smallI i ∨ smallI j):oMul S (.int i) (.int j)=some (.int (i * j)):=if_pos h
theorem oShl_i {S:Sto} {i:Nat} (h:i < 1000):oShl S (.int 1) (.int i)=some (.int (2 ^ i)):=by
 have:oShl S (.int 1) (.int i)=some (.int (1 * 2 ^ ((i:Int)).toNat)):=if_pos ⟨by omega,by omega,by decide⟩
 rw [this,Int.toNat_natCast,Int.one_mul]
theorem oPow_i {S:Sto} {i j:Int} (h:0≤j∧j≤1000000∧i.natAbs < 2 ^ 64):oPow S (.int i) (.int j)=some (.int (i ^ j.toNat)):=if_pos h
theorem oPow_10_12 {S:Sto}:oPow S (.int 10) (.int 12)=some (.int 1000000000000):=by
 rw [oPow_i ⟨by decide,by decide,by decide⟩]
 have e:(10:Int) ^ (12:Int).toNat=1000000000000:=by decide
 rw [e]
theorem atI_nat' {A:Type} {xs:List A} {i:Nat} (h:i < xs.length):atI xs (i:Int)=some xs[i]:=atI_nat (List.getElem?_eq_getElem h)
end PD
namespace PD
open PySem PyProof.Rows L2
def Sh (nl:Bool) (d:D):Prop:=∃ p,toPy d=some p∧p.showable=true∧p.depth≤3∧p.shown.length≤64∧(if nl=true then noL d=true else p.hasDict=false)
theorem sh_int {nl:Bool} {i:Int} (h:i.natAbs < 10 ^ 30):Sh nl (.int i):=by
 refine ⟨.int i,rfl,?_,by show 0≤3; omega,?_,?_⟩
 ·unfold PyData.showable
  refine decide_eq_true ?_
  have:i.natAbs < 2 ^ 1920:=Nat.lt_trans h (by decide +kernel)
  rcases Nat.eq_zero_or_pos i.natAbs with z | z
  ·rw [z]; decide
  ·exact (Nat.log2_lt (by omega)).mpr this
 ·have e:=PySem.int_text_length_le10 (k:=30) (by decide) h
  show (Str.ofString (toString i)).length≤64
  rw [PySem.ofString_length]; omega
 ·cases nl <;> rfl
theorem shows_one {nl:Bool} {d:D} {S:Sto} (h:Sh nl d):∃ t,fRepr S [d]=some (.str t):=by
 obtain ⟨p,h1,h2,h3,h4,h5⟩:=h
 refine ⟨p.shown,?_⟩
 have z:(64:Nat)≤sizeLine:=by decide
 have ok:okPy p (noL d):=⟨h2,by omega,by omega,by
  cases nl with
  | true=>exact .inr (by simpa using h5)
  | false=>exact .inl (by simpa using h5)⟩
 show (match toPy d with | some p=>if okPy p (noL d) then some (D.str p.shown) else none | none=>none)=_
 rw [h1]
 exact if_pos ok
end PD
namespace L2
open PySem PySem.Spec PyProof.Rows
def Fly (l:List Env) (H':Hp) (h hs:Heap) (ea:Addr) (cls:Value):Prop:=
 ∃ (B:Heap) (a0:Value),Heap.FlyingW B l ea cls a0 hs∧(∀ b o,h.get? b=some o→b ∉ frs l→∃ o',B.get? b=some o')∧∀ b u,H' b=some u→∃ o',B.get? b=some o'
def CX1 (P:Program) (w:World):CXT:=fun outer H s E e s'=>
 ∃ ea cls H',e=.ref ea∧s'.os=s.os∧AllBare s'.gens∧Un (frs outer) [] H H' s.heap s'.heap∧HOk P w H' s'.heap∧Fly outer H' s.heap s'.heap ea cls∧E cls none H'
section
variable {P:Program} {w:World} {fs:List Addr} {H H':Hp} {h h1 h2 B:Heap} {l:List Env}
theorem ObjOk.thereO {a:Addr} {o:HO} (x:ObjOk P w H h a o):∃ ob,h.get? a=some ob:=by
 cases o with
 | lst xs=>obtain ⟨_,_,_,_,e⟩:=x; exact ⟨_,e⟩
 | tup xs=>obtain ⟨_,_,_,ob,e,_⟩:=x; exact ⟨_,e⟩
 | dK kvs=>obtain ⟨_,_,_,_,ob,_,_,e,_⟩:=x; exact ⟨_,e⟩
 | dT kvs=>obtain ⟨_,_,_,_,ob,_,_,e,_⟩:=x; exact ⟨_,e⟩
 | set S n=>obtain ⟨ob,_,_,_,e,_⟩:=x; exact ⟨_,e⟩
 | ins C dx fs=>obtain ⟨_,_,_,e,_⟩:=x; exact ⟨_,e⟩
 | own y=>exact x
 | xd fs=>obtain ⟨_,⟨_,_,_,e,_⟩,_⟩:=x; exact ⟨_,e⟩
 | rng lo hi=>obtain ⟨_,_,_,e⟩:=x; exact ⟨_,e⟩
 | frz ob u=>obtain ⟨e,_⟩:=x; exact ⟨_,e⟩
 | tbl ps=>exact ⟨_,x⟩
 | met f y=>exact ⟨_,x⟩
 | ext φ=>exact x.2.1
theorem Un.fly (u:Un fs [] H H' h h1) (b1:B.StaysIn h1) (b2:B.StaysIn h2) (old:∀ b o,h.get? b=some o→b ∉ fs→∃ o',B.get? b=some o') (up:h1.UpToSlots h2)
  (fr:∀ b ∈ fs,∀ o,h1.get? b=some o→∀ vs,o.data ≠ .fields vs):Un fs [] H H' h h2 where
 keep:=fun b o e n nf nx=>by
  obtain ⟨o',e'⟩:=old b o e nf
  have q:=b1 b o' e'
  rw [u.keep b o e n nf nx] at q
  cases q
  exact b2 b o e'
 slot:=fun b o e n hb nx=>by
  obtain ⟨sl,q⟩:=u.slot b o e n hb nx
  obtain ⟨sl',q'⟩:=up b _ q (fr b hb _ q)
  exact ⟨sl',q'⟩
 free:=u.free
 there:=fun b o e nx=>by
  by_cases hb:b ∈ fs
  ·obtain ⟨o1,q⟩:=u.there b o e nx
   obtain ⟨sl,q'⟩:=up b o1 q (fr b hb o1 q)
   exact ⟨_,q'⟩
  ·obtain ⟨o',e'⟩:=old b o e hb
   exact ⟨o',b2 b o' e'⟩
 tups:=u.tups
 frzs:=u.frzs
 tbls:=u.tbls
theorem HOk.fly (k:HOk P w H' h1) (b1:B.StaysIn h1) (b2:B.StaysIn h2) (tr:∀ b u,H' b=some u→∃ o',B.get? b=some o'):HOk P w H' h2:=fun a o e=>
 (k a o e).stay (fun b u hb q=>by
  have:∃ v,H' b=some v:=hb.elim (fun z=>⟨o,z ▸ e⟩) fun z=>⟨_,z⟩
  obtain ⟨v,hv⟩:=this
  obtain ⟨o',e'⟩:=tr b v hv
  have q':=b1 b o' e'
  rw [q] at q'
  cases q'
  exact b2 b u e') (fun _ z=>z) fun _ _ z=>z
theorem fly_frames {ea:Addr} {cls a0:Value} (f:Heap.FlyingW B l ea cls a0 h1):∀ b ∈ frs l,∀ o,h1.get? b=some o→∀ vs,o.data ≠ .fields vs:=fun b hb o e=>by
 obtain ⟨_,o',e',z⟩:=f.2.2.1.mem hb
 rw [e] at e'
 cases e'
 exact z
end
section
variable {X:Cx} {pins:List (Addr × Obj)} {σ:St} {H:Hp} {s s':Shared} {E:XK} {e:Value}
theorem Inv.old (I:Inv X pins σ H s) (hex:X.ex=[]) (hf:X.stack=X.env :: X.outer∧X.env.frame=some X.env.locals) {B:Heap} (hB:∀ b o,s.heap.get? b=some o→b ∉ frs X.stack→∃ o',B.get? b=some o'):
  ∀ b o,X.s₀.heap.get? b=some o→b ∉ X.fs→∃ o',B.get? b=some o':=fun b o q n=>by
 obtain ⟨o1,q1⟩:=I.base.there b o q (by rw [hex]; exact fun z=>nomatch z)
 refine hB b o1 q1 fun z=>?_
 rcases List.mem_cons.mp (I.stkSub b z) with z | z
 ·exact absurd (Nat.lt_of_lt_of_le (Heap.lt_size q) (z ▸ I.ok.above)) (Nat.lt_irrefl _)
 ·exact n z
theorem leave_on {E':Value→Shared→Prop} (I:Inv X pins σ H s) (hex:X.ex=[]) (hf:X.stack=X.env :: X.outer∧X.env.frame=some X.env.locals) (c:CX1 X.prog X.w X.stack H s E e s'):
  wpAny (model X.prog X.w) X.A («leaving» X.env e) (fun _ s''=>CX1 X.prog X.w X.outer X.H₀ X.s₀ E e s'') E' s':=by
 obtain ⟨ea,cls,H',rfl,os,bare,un,hok,⟨B,a0,fl,old,tr⟩,hE⟩:=c
 have J:Inv X pins σ H' s':=I.call' os un hok bare (fun b z=>nomatch z)
 rw [hf.1] at fl
 refine wpAny_leaves_onW (by rw [I.ok.frames,hf.1]) hf.2 fl fun h' x1 x2=>?_
 have hb:=J.base
 rw [hex] at hb
 have ol:=I.old hex hf old
 exact ⟨ea,cls,H',rfl,J.os,bare,Un.fly hb fl.1 x1.1 ol x2 (fun b hb=>fly_frames fl b (List.mem_filterMap.mpr (by
   obtain ⟨en,he,hfr⟩:=List.mem_filterMap.mp hb
   exact ⟨en,List.mem_cons_of_mem _ he,hfr⟩))),HOk.fly hok fl.1 x1.1 tr,⟨B,a0,x1,ol,tr⟩,hE⟩
theorem leave_new {E':Value→Shared→Prop} {ea:Addr} {cls:Value} {args:List Value} {h':Heap} (I:Inv X pins σ H s) (hex:X.ex=[]) (hf:X.stack=X.env :: X.outer∧X.env.frame=some X.env.locals) (hx:Heap.MadeExcOf s.heap h' ea cls args)
  (hE:E cls none H):wpAny (model X.prog X.w) X.A («leaving» X.env (.ref ea)) (fun _ s''=>CX1 X.prog X.w X.outer X.H₀ X.s₀ E (.ref ea) s'') E' { s with heap:=h' }:=by
 have hin:∀ en ∈ X.stack,∀ a,en.frame=some a→a ∈ frs X.stack:=fun en he a ha=>List.mem_filterMap.mpr ⟨en,he,ha⟩
 have st:(PySem.W.hideAll s.heap (frs X.stack)).StaysIn s.heap:=fun b o q=>PySem.W.of_hideAll _ q
 have old:∀ b o,s.heap.get? b=some o→b ∉ frs X.stack→∃ o',(PySem.W.hideAll s.heap (frs X.stack)).get? b=some o':=fun b o q n=>⟨o,PySem.W.hideAll_get _ q n⟩
 have ff:=PySem.W.funFrames_hide I.stack hin
 have tr:∀ b u,H b=some u→∃ o',(PySem.W.hideAll s.heap (frs X.stack)).get? b=some o':=fun b u e=>by
  have hlt:=(I.hok b u e).lt
  obtain ⟨o,q⟩:∃ o,s.heap.get? b=some o:=(I.hok b u e).thereO
  exact old b o q fun z=>by rw [I.stkFree b z] at e; cases e
 have hfr:X.A.frames=some (X.env :: X.outer):=by rw [I.ok.frames,hf.1]
 rw [hf.1] at ff
 have ff':s.heap.FunFrames (PySem.W.hideAll s.heap (frs X.stack)) (X.env :: X.outer):=by rw [hf.1]; exact ff
 refine wpAny_leaves_madeW (s:={ s with heap:=h' }) hfr hf.2 st ff' hx fun h'' t x1 x2 x3 x4=>?_
 have hb:=I.base
 rw [hex] at hb
 have ol:=I.old hex hf old
 have up:s.heap.UpToSlots h'':=(Heap.UpToSlots.of_keeps hx.keeps).trans x4
 refine ⟨ea,cls,H,rfl,I.os,I.bare,Un.fly hb st x1.1 ol up (fun b hb o q=>?_),HOk.fly I.hok st x1.1 tr,⟨_,_,x1,ol,tr⟩,hE⟩
 obtain ⟨_,o',e',z⟩:=I.funs.mem hb
 rw [q] at e'
 cases e'
 exact z
end
end L2
namespace PD
open PySem PySem.Spec PyProof.Rows L2
section
variable {X:Cx} {E:XK}
theorem Post.nx {A B:Type} {K:PySem.W.Frag} {rel:Wd→Hp→A→B→Prop} {w:Wd} {H:Hp} {r:R A} {Q:B→Hp→Prop} (h:Post K E rel w H r.nx Q):Post K E0 rel w H r Q:=by
 cases r with
 | ok a S=>exact h
 | err x S=>exact h.elim
 | bad=>exact h
theorem ps_nox {st:Stmt} {t:TS} (h:PS X.nox st t):PS X st t:=fun pins s σ H D I hw=>wpAny_mono (h pins s σ H D (I.wish _) hw) (fun _ _ q=>q.unwish) fun _ _ z=>False.elim z
theorem st_nx {e:Expr} {m:TM} (h:ST X.nox E0 e m):ST X E e (tNx m):=⟨pt_weak h.out.nox fun s H Q zq=>ex6 zq fun w r S hr hS hp=>⟨w,r,S,hr,hS,hp.nx⟩⟩
theorem ss_nx {e:Stmt} {m:SM} (h:SS X.nox E0 e m):SS X E e (sNx m):=⟨ps_weak (ps_nox h.out) fun D s H zq=>ex6 zq fun w r S hr hS hp=>⟨w,r,S,hr,hS,hp.nx⟩⟩
end
abbrev veMro:List Value:=[.type "ValueError",.type "Exception",.type "BaseException",.type "object"]
structure XC (K:PySem.W.Frag) (mg:Str→Option Value) (x:Str):Prop where
 ex:∃ C,mg x=some (.ref C)∧PySem.W.nsIn K mainGlobals x=some (some (.ref C))∧PySem.W.excIn K C veMro "ValueError.__new__" = true
theorem exc_obj {K:PySem.W.Frag} {h:Heap} {C:Addr} {bmB:List Value} {newId:String} (X:K.In h) (q:PySem.W.excIn K C bmB newId=true):
  ∃ bm N nm qn bs hdct sn sub ab col dd k0 k1 k2 k3 k5 mN,h.get? C=some (excClassObj nm qn C N bs bm hdct sn sub ab col dd k0 k1 k2 k3 k5 newId)∧h.Ns N mN∧mN "__init__" = none∧OwnTail h bmB bm:=by
 unfold PySem.W.excIn at q
 split at q
 next dd cd sl ho=>
  split at q
  next C' bm k0 k1 k2 k3 n k5 hm hs=>
   simp only [Bool.and_eq_true,beq_iff_eq,Bool.not_eq_true'] at q
   have g1:C'=C:=q.1.1.1.1.1
   have g2:n=newId:=q.1.1.1.1.2
   have g3:cd.hasDel=false:=q.1.1.1.2
   have ho':=X _ _ ho
   have e2:sl = #[k0,k1,k2,k3,some (.builtin n),k5]:=Array.ext' hs
   refine ⟨bm,cd.ns,cd.name,cd.qualname,cd.bases,cd.hasDict,cd.slotNames,cd.subclasses,cd.abstract,cd.collection,dd,k0,k1,k2,k3,k5,h.nsMap cd.ns,?_,.of_isNs (PySem.W.isNs_of_in X q.1.2),PySem.W.nsMap_none_of_in X q.1.2 q.2,PySem.W.tail_of_in X q.1.1.2⟩
   rw [ho',e2,← g2]
   have e3:cd={ name:=cd.name,bases:=cd.bases,mro:=.ref C :: bm,ns:=cd.ns,qualname:=cd.qualname,hasDict:=cd.hasDict,slotNames:=cd.slotNames,subclasses:=cd.subclasses,abstract:=cd.abstract,collection:=cd.collection,hasDel:=false }:=by
    rw [← g1,← hm,← g3]
   exact congrArg (fun z=>some ({ cls:=.type "type",dict:=dd,data:=.cls z,slots:=#[k0,k1,k2,k3,some (.builtin n),k5] }:Obj)) e3
  next=>cases q
 next=>cases q
def Raises (X:Cx) (E:XK):Prop:=∀ (pins:List (Addr × Obj)) (σ:L2.St) (H:Hp) (s:Shared) (h':Heap) (ea:Addr) (cls:Value) (args:List Value),Inv X pins σ H s→Heap.MadeExcOf s.heap h' ea cls args→E cls none H→X.xe (.ref ea) { s with heap:=h' }
section
variable {X:Cx} {E:XK} {x:Str} {a:Expr} {es:List Expr} {ms:AM} {np cpos pos:Pos}
theorem ss_raise (hX:XC X.K X.mg x) (hR:Raises X E) (hh:X.A.handled=none) (hg:Gl X x) (ha:SA X E (a :: es) ms) (hdb:autoParam ((x == ("__debug__":Str))=false) Au.h3._auto_1)
  (he:autoParam (starEach (a :: es) X.env=(false,eval a X.env) :: starEach es X.env) Au.h0._auto_1) (hpl:autoParam ((backTo cpos (starEach es X.env)).any (·.1)=false) Au.h0._auto_1):
  SS X E (.Raise (some (.Call (.Name x np) (a :: es) [] cpos)) none pos) (sRaise x ms):=⟨by
 intro pins s σ H D I ⟨w,r,S,hr,hS,hp⟩
 obtain ⟨C,hm,hns,hq⟩:=hX.ex
 obtain ⟨tl,N,nm,q,bs,hdct,sn,sub,ab,col,dd,k0,k1,k2,k3,k5,mN,hC,hN,hni,T⟩:=exc_obj I.ok.mod.kin hq
 refine wpAny_Raise_call_subT (bm:=tl) (C:=C) (N:=N) (nm:=nm) (q:=q) (bs:=bs) (hdct:=hdct) (sn:=sn) (sub:=sub) (ab:=ab) (col:=col) (dd:=dd) (k0:=k0) (k1:=k1) (k2:=k2) (k3:=k3) (k5:=k5)
  PySem.F.excBase_ValueError (mN:=mN) (T.hasType PySem.F.excBase_ValueError.hasBase) hh (by rw [he]; show (false || (backTo cpos (starEach es X.env)).any (·.1))=false; rw [hpl]; rfl) hni (ld_glob I hg hm ⟨rfl,?_⟩ hdb)
 have h:=ha.out cpos pins s σ H (fun vs H1=>vs.length≤sizeLine∧E (.ref C) none H1) I ⟨w,r,S,hr,hS,hp.bind hS fun xs S1 w1 H1 vs x1 q1 s1 p1=>by
  by_cases hl:xs.length≤sizeLine
  ·rw [if_pos hl] at p1
   exact ⟨by rw [q1.length]; exact hl,p1 w1 H1 (.ref C) none (Ext.refl _ _) s1 hns⟩
  ·rw [if_neg hl] at p1; exact p1.elim⟩
 rw [he] at h ⊢
 refine Calls.evalArgs_plain (wpAny_mono h (fun us s₂ h₂=>?_) fun _ _ y=>y)
 obtain ⟨vs,H1,I1,rv,hl,hE⟩:=h₂
 exact ⟨rfl,by rw [← rv.length]; exact hl,I1.bk _ _ hC,hN.keeps I1.bk,T.keeps I1.bk,fun h' e hm=>hR pins σ H1 s₂ h' e _ _ I1 hm hE⟩⟩
end
section
variable {P:Program} {w:World} {K:PySem.W.Frag} {mg:Str→Option Value} {base:Heap} {N:List Str} {qual:Str} {scope:Scope} {f:Addr} {cdv:Value} {A:Around} {outer:List Env} {s:Shared} {H:Hp} {E:XK}
theorem passes_cx:Passes (CX1 P w) (cxOf (CX1 P w) P w K mg base N qual scope f cdv A outer s H E) E:=fun pins σ H' s' e s'' I c=>leave_on I rfl ⟨rfl,rfl⟩ c
theorem raises_cx:Raises (cxOf (CX1 P w) P w K mg base N qual scope f cdv A outer s H E) E:=fun pins σ H' s' h' ea cls args I hx hE=>leave_new I rfl ⟨rfl,rfl⟩ hx hE
theorem passes_no {X:Cx}:Passes (CX1 X.prog X.w) X E0:=fun _ _ _ _ _ _ _ zq=>by obtain ⟨_,_,_,_,_,_,_,_,_,z⟩:=zq; exact z.elim
end
def spN (K:PySem.W.Frag) (n:Nat) (f:FM):Sp:=fun vs H Q _=>vs.length=n∧∃ w S ds,RS K w H S∧RDs K w H ds vs∧Post K E0 (RD K) w H (f ds S) Q
structure DefN (P:Program) (w:World) (K:PySem.W.Frag) (mg:Str→Option Value) (base:Heap) (x:Str) (k n:Nat) (f:FM):Prop where
 ex:∃ (fa:Addr) (fd:FuncData) (ps:List Str),mg x=some (.ref fa)∧PySem.W.keepIn K (.ref fa)=true∧Binds K fd ps []∧FnOk P w K mg base (CX1 P w) k fa fd ps (spN K n f)
structure DefR (P:Program) (w:World) (K:PySem.W.Frag) (mg:Str→Option Value) (base:Heap) (x:Str) (k n:Nat) (f:FM):Prop where
 ex:∃ (fa:Addr) (fd:FuncData) (ps:List Str),mg x=some (.ref fa)∧PySem.W.keepIn K (.ref fa)=true∧Binds K fd ps []∧FnOk P w K mg base (CX1 P w) k fa fd ps (spM K n f)
section
variable {X:Cx} {E:XK} {x:Str} {k n:Nat} {f:FM} {a:Expr} {es:List Expr} {ms:AM} {p pos:Pos}
theorem se_fnR (D:DefR X.prog X.w X.K X.mg X.base x k n f) (hx:Passes (CX1 X.prog X.w) X E) (hr:Room k X.A) (hg:Gl X x) (ha:SA X E (a :: es) ms) (hn:ALen ms n) (hdb:autoParam ((x == ("__debug__":Str))=false) Au.h3._auto_1)
  (he:autoParam (starEach (a :: es) X.env=(false,eval a X.env) :: starEach es X.env) Au.h0._auto_1) (hpl:autoParam ((backTo pos (starEach es X.env)).any (·.1)=false) Au.h0._auto_1):
  SE X E (.Call (.Name x p) (a :: es) [] pos) (eCall f ms):=by
 obtain ⟨fa,fd,ps,hm,hk,hb,F⟩:=D.ex
 exact se_call F hr hg hm hk hb hx ha hn hdb he hpl
theorem se_fnN (D:DefN X.prog X.w X.K X.mg X.base x k n f) (hr:Room k X.A) (hg:Gl X x) (ha:SA X E0 (a :: es) ms) (hn:ALen ms n) (hdb:autoParam ((x == ("__debug__":Str))=false) Au.h3._auto_1)
  (he:autoParam (starEach (a :: es) X.env=(false,eval a X.env) :: starEach es X.env) Au.h0._auto_1) (hpl:autoParam ((backTo pos (starEach es X.env)).any (·.1)=false) Au.h0._auto_1):
  SE X E0 (.Call (.Name x p) (a :: es) [] pos) (eCall f ms):=by
 obtain ⟨fa,fd,ps,hm,hk,hb,F⟩:=D.ex
 refine ⟨pe_weak (pe_call F hr hg hm hk hb (dvs:=[]) .nil passes_no ha.out hdb he hpl) fun s H Q zq=>?_⟩
 obtain ⟨w,r,S,hr,hS,hp⟩:=zq
 refine ⟨w,r,S,hr,hS,?_⟩
 have hp':Post X.K E0 (RD X.K) w H ((ms r S).bind fun xs S1=>f xs S1) Q:=hp
 cases e:ms r S with
 | bad=>rw [e] at hp'; exact hp'.elim
 | err y S'=>rw [e] at hp'; exact hp'
 | ok ds S'=>
  rw [e] at hp'
  intro w1 H1 vs x1 q1 s1
  rw [List.append_nil]
  exact ⟨by rw [q1.length]; exact hn r S ds S' e,w1,S',ds,s1,q1,Post.ext (r:=f ds S') hp' x1 hS s1⟩
end
section
variable {P:Program} {w:World} {K:PySem.W.Frag} {mg:Str→Option Value} {base:Heap}
theorem fn_okR {x qual:Str} {st:Stmt} {f:Addr} {fd:FuncData} {N ps:List Str} {k:Nat} {m:SM} (F:Fun K x qual st f fd) (S:FnScope N ps (defScope st))
  (hbody:∀ (cdv:Value) (A:Around) (outer:List Env) (s:Shared) (H:Hp) (E:XK),Room k (A.deeper (envOfC qual (defScope st) s.heap.objs.size f cdv))→
   SSs (cxOf (CX1 P w) P w K mg base N qual (defScope st) f cdv A outer s H E) E (defBody st) m):FnOk P w K mg base (CX1 P w) (k + 1) f fd ps (spM K ps.length (fnM N.length m)):=by
 obtain ⟨oc,od,kV,doc,pm,an,cdv,ct,osl,rfl,lk,hcd⟩:=F.ex
 refine fn_of lk hcd S (fun vs H Q E h=>h.1) fun A outer s H vs Q E hr h=>?_
 obtain ⟨hl,u,T,ds,hT,q,p⟩:=h
 refine ⟨_,(hbody cdv A outer s H E hr).out,u,_,T,start_rel q,hT,?_⟩
 refine Post.bind (rel:=RF K) p hT fun g S1 w1 H1 fv x1 q1 s1 p1=>?_
 cases g with
 | nx r=>obtain ⟨s',rfl,_⟩:=q1; have z:=Post.ret (Q:=Q) (rel:=RD K) (a:=D.non) (b:=V.non) p1 (by unfold RD; rfl) s1; exact z
 | rt d=>obtain ⟨v,rfl,q2⟩:=q1; have z:=Post.ret (Q:=Q) (rel:=RD K) (a:=d) (b:=v) p1 q2 s1; exact z
 | bk r=>exact p1.elim
 | ct r=>exact p1.elim
theorem fn_okN {x qual:Str} {st:Stmt} {f:Addr} {fd:FuncData} {N ps:List Str} {k:Nat} {m:SM} (F:Fun K x qual st f fd) (S:FnScope N ps (defScope st))
  (hbody:∀ (cdv:Value) (A:Around) (outer:List Env) (s:Shared) (H:Hp) (E:XK),Room k (A.deeper (envOfC qual (defScope st) s.heap.objs.size f cdv))→
   SSs (cxOf (CX1 P w) P w K mg base N qual (defScope st) f cdv A outer s H E).nox E0 (defBody st) m):FnOk P w K mg base (CX1 P w) (k + 1) f fd ps (spN K ps.length (fnM N.length m)):=by
 obtain ⟨oc,od,kV,doc,pm,an,cdv,ct,osl,rfl,lk,hcd⟩:=F.ex
 refine fn_of lk hcd S (fun vs H Q E h=>h.1) fun A outer s H vs Q E hr h=>?_
 obtain ⟨hl,u,T,ds,hT,q,p⟩:=h
 refine ⟨_,(hbody cdv A outer s H E hr).out.nox,u,_,T,start_rel q,hT,?_⟩
 refine Post.bind (rel:=RF K) p hT fun g S1 w1 H1 fv x1 q1 s1 p1=>?_
 cases g with
 | nx r=>obtain ⟨s',rfl,_⟩:=q1; have z:=Post.ret (Q:=Q) (rel:=RD K) (a:=D.non) (b:=V.non) p1 (by unfold RD; rfl) s1; exact z
 | rt d=>obtain ⟨v,rfl,q2⟩:=q1; have z:=Post.ret (Q:=Q) (rel:=RD K) (a:=d) (b:=v) p1 q2 s1; exact z
 | bk r=>exact p1.elim
 | ct r=>exact p1.elim
theorem def_ofR {x:Str} {st:Stmt} {f:Addr} {fd:FuncData} {m:SM} (N ps:List Str) (k k1 n0 n1:Nat) (hk:k1=k + 1) (h0:n0=ps.length) (h1:n1=N.length) (F:Fun K x x st f fd) (hm:mg x=some (.ref f)) (hb:Binds K fd ps []) (S:FnScope N ps (defScope st))
  (hbody:∀ (cdv:Value) (A:Around) (outer:List Env) (s:Shared) (H:Hp) (E:XK),Room k (A.deeper (envOfC x (defScope st) s.heap.objs.size f cdv))→
   SSs (cxOf (CX1 P w) P w K mg base N x (defScope st) f cdv A outer s H E) E (defBody st) m):DefR P w K mg base x k1 n0 (fnM n1 m):=by
 subst hk h0 h1
 exact ⟨f,fd,ps,hm,F.kp,hb,fn_okR F S hbody⟩
theorem def_ofN {x:Str} {st:Stmt} {f:Addr} {fd:FuncData} {m:SM} (N ps:List Str) (k k1 n0 n1:Nat) (hk:k1=k + 1) (h0:n0=ps.length) (h1:n1=N.length) (F:Fun K x x st f fd) (hm:mg x=some (.ref f)) (hb:Binds K fd ps []) (S:FnScope N ps (defScope st))
  (hbody:∀ (cdv:Value) (A:Around) (outer:List Env) (s:Shared) (H:Hp) (E:XK),Room k (A.deeper (envOfC x (defScope st) s.heap.objs.size f cdv))→
   SSs (cxOf (CX1 P w) P w K mg base N x (defScope st) f cdv A outer s H E).nox E0 (defBody st) m):DefN P w K mg base x k1 n0 (fnM n1 m):=by
 subst hk h0 h1
 exact ⟨f,fd,ps,hm,F.kp,hb,fn_okN F S hbody⟩
theorem law_ofN {x:Str} {st:Stmt} {f:Addr} {fd:FuncData} {m:SM} (N ps:List Str) (k k1 n0 n1:Nat) (hk:k1=k + 1) (h0:n0=ps.length) (h1:n1=N.length) (F:Fun K x x st f fd) (S:FnScope N ps (defScope st))
  (hbody:∀ (cdv:Value) (A:Around) (outer:List Env) (s:Shared) (H:Hp) (E:XK),Room k (A.deeper (envOfC x (defScope st) s.heap.objs.size f cdv))→
   SSs (cxOf (CX1 P w) P w K mg base N x (defScope st) f cdv A outer s H E).nox E0 (defBody st) m):FnOk P w K mg base (CX1 P w) k1 f fd ps (spN K n0 (fnM n1 m)):=by
 subst hk h0 h1
 exact fn_okN F S hbody
end
end PD
namespace L2
open PySem PySem.Spec PyProof.Rows
section
variable {X:Cx} {pins:List (Addr × Obj)} {σ:St} {H:Hp} {s:Shared}
abbrev Cx.with (X:Cx) (p:List (Addr × Obj)) (W:Value→Shared→Prop):Cx:={ X with pn:=p,xe:=W }
abbrev Cx.suite (X:Cx) (e:Value):Cx:={ X with A:=X.A.mark (some e),calm:=false,xe:=fun _ _=>False }
theorem Cx.Ok.with {p:List (Addr × Obj)} {W:Value→Shared→Prop} (ok:X.Ok):(X.with p W).Ok:=⟨ok.mod,ok.kind,ok.glob,ok.blt,ok.above,ok.inj,ok.has,ok.cab,ok.hd,ok.frames,ok.stk,ok.exf,ok.bs,ok.bsz,ok.noex,ok.exfs,ok.funs,ok.frf⟩
theorem Cx.Ok.suite {e:Value} (ok:X.Ok):(X.suite e).Ok:=⟨ok.mod,ok.kind,ok.glob,ok.blt,ok.above,ok.inj,ok.has,ok.cab,(fun z=>by cases z),ok.frames,ok.stk,ok.exf,ok.bs,ok.bsz,ok.noex,ok.exfs,ok.funs,ok.frf⟩
theorem Inv.with {W:Value→Shared→Prop} (I:Inv X pins σ H s):Inv (X.with (X.pn ++ pins) W) [] σ H s:=
 ⟨I.ok.with,I.os,I.bare,I.base,I.loc,I.cell,I.free,I.freeC,fun p hp=>I.pin p (by simpa using hp),I.hok,I.len⟩
theorem Inv.unwith {W:Value→Shared→Prop} {pins':List (Addr × Obj)} (ok:X.Ok) (I:Inv (X.with (X.pn ++ pins) W) pins' σ H s):Inv X pins σ H s:=
 ⟨ok,I.os,I.bare,I.base,I.loc,I.cell,I.free,I.freeC,fun p hp=>I.pin p (List.mem_append_left _ hp),I.hok,I.len⟩
theorem Inv.suite {e:Value} (I:Inv X pins σ H s):Inv (X.suite e) pins σ H s:=⟨I.ok.suite,I.os,I.bare,I.base,I.loc,I.cell,I.free,I.freeC,I.pin,I.hok,I.len⟩
theorem Inv.unsuite {e:Value} (ok:X.Ok) (I:Inv (X.suite e) pins σ H s):Inv X pins σ H s:=⟨ok,I.os,I.bare,I.base,I.loc,I.cell,I.free,I.freeC,I.pin,I.hok,I.len⟩
theorem Inv.forget {h':Heap} {m':Str→Option Value} {t':Nat} (I:Inv X pins σ H s) (hn':h'.Ns X.env.locals m') (hs:Heap.SameBut X.env.locals s.heap h'):Inv X pins (List.replicate X.N.length none) H { s with heap:=h',toks:=t' }:=by
 have neL:∀ b o,X.s₀.heap.get? b=some o→b ≠ X.env.locals:=fun b o e=>Nat.ne_of_lt (Nat.lt_of_lt_of_le (Heap.lt_size e) I.ok.above)
 refine ⟨I.ok,I.os,I.bare,⟨fun b o e n hb hx=>(hs.2 b (neL b o e)).trans (I.base.keep b o e n hb hx),fun b o e n hb hx=>?_,I.base.free,fun b o e hx=>?_,I.base.tups,I.base.frzs,I.base.tbls⟩,⟨m',hn',fun i x v e1 e2 e3=>?_⟩,fun y c e=>?_,I.free,I.freeC,fun p hp=>?_,fun b ob e=>?_,by simp⟩
 ·obtain ⟨sl,e1⟩:=I.base.slot b o e n hb hx
  exact ⟨sl,(hs.2 b (neL b o e)).trans e1⟩
 ·obtain ⟨o',e1⟩:=I.base.there b o e hx
  exact ⟨o',(hs.2 b (neL b o e)).trans e1⟩
 ·rw [List.getElem?_replicate] at e2
  split at e2 <;> cases e2
 ·obtain ⟨w',z⟩:=I.cell y c e
  exact ⟨w',z.sameBut hs (I.cne y c e)⟩
 ·obtain ⟨e,n,ne,nf,d⟩:=I.pin p hp
  exact ⟨(hs.2 p.1 ne).trans e,n,ne,nf,d⟩
 ·refine (I.hok b ob e).stay (fun c w' hc q=>(hs.2 c ?_).trans q) (fun _ q=>q) fun _ _ q=>q
  rintro rfl
  rcases hc with rfl | hc
  ·rw [I.free] at e; cases e
  ·rw [I.free] at hc; cases hc
end
section
variable {X:Cx} {pins:List (Addr × Obj)} {σ:St} {H H':Hp} {s s':Shared} {B:Heap} {ea:Addr} {cls a0:Value} {h2:Heap}
theorem fly_new {l:List Env} {h:Heap} (fl:Heap.FlyingW B l ea cls a0 s'.heap) (old:∀ b o,h.get? b=some o→b ∉ frs l→∃ o',B.get? b=some o') (tr:∀ b u,H' b=some u→∃ o',B.get? b=some o'):h.get? ea=none∧H' ea=none:=by
 have hB:=fl.2.1
 constructor
 ·cases e:h.get? ea with
  | none=>rfl
  | some o=>
   exfalso
   by_cases hb:ea ∈ frs l
   ·obtain ⟨oe,vs,e1,_,d1,_⟩:=fl.first
    exact fly_frames fl ea hb oe e1 vs d1
   ·obtain ⟨o',e'⟩:=old ea o e hb
    rw [hB] at e'; cases e'
 ·cases e:H' ea with
  | none=>rfl
  | some u=>
   obtain ⟨o',e'⟩:=tr ea u e
   rw [hB] at e'; cases e'
theorem fly_track {l:List Env} {P:Program} {w:World} {h h1:Heap} (fl:Heap.FlyingW B l ea cls a0 h1) (old:∀ b o,h.get? b=some o→b ∉ frs l→∃ o',B.get? b=some o') (tr:∀ b u,H' b=some u→∃ o',B.get? b=some o')
  (hn:h.get? ea=none) (hn':H' ea=none) (u:Un (frs l) [] H H' h h1) (k:HOk P w H' h1):
  Un (frs l) [] H (upd H' ea (.ext (PD.ExcAt ea cls))) h h1∧HOk P w (upd H' ea (.ext (PD.ExcAt ea cls))) h1:=by
 have ne:∀ b o,h.get? b=some o→b ≠ ea:=fun b o e z=>by rw [z,hn] at e; cases e
 have ne':∀ b v,H' b=some v→b ≠ ea:=fun b o e z=>by rw [z,hn'] at e; cases e
 refine ⟨⟨u.keep,u.slot,fun b o e n x=>by rw [upd_ne (ne b o e)]; exact u.free b o e n x,u.there,fun b xs e=>?_,fun b o v e=>?_,fun b ps e=>?_⟩,fun b v e=>?_⟩
 ·have:=u.tups b xs e; rw [upd_ne (ne' _ _ this)]; exact this
 ·have:=u.frzs b o v e; rw [upd_ne (ne' _ _ this)]; exact this
 ·obtain ⟨m,this⟩:=u.tbls b ps e; exact ⟨m,by rw [upd_ne (ne' _ _ this)]; exact this⟩
 ·by_cases hb:b=ea
  ·subst hb
   rw [upd_same] at e
   cases e
   obtain ⟨o,e1,c1⟩:=fl.there
   exact ⟨⟨o,e1,c1⟩,⟨o,e1⟩,fun g1 g2 ⟨o1,z1,z2⟩ kk=>⟨o1,kk o1 z1,z2⟩⟩
  ·rw [upd_ne hb] at e
   exact (k b v e).stay (fun _ _ _ q=>q) (fun c q=>by rw [upd_ne (ne' c _ q)]; exact q) fun c xs q=>by rw [upd_ne (ne' c _ q)]; exact q
end
end L2
namespace PD
open PySem PySem.Spec PyProof.Rows L2
section
variable {X:Cx} {E:XK}
theorem ss_try {body:List Stmt} {b₀:Stmt} {suite:List Stmt} {x n:Str} {np hpos pos:Pos} {cs:List Str} {i nN:Nat} {mb mh:SM} {Cp:Value} (hex:X.ex=[]) (hf:X.stack=X.env :: X.outer∧X.env.frame=some X.env.locals)
  (hg:Gl X x) (hm:X.mg x=some Cp) (hcs:∀ y,cs.contains y=true→∀ c,PySem.W.nsIn X.K mainGlobals y=some (some c)→PySem.W.exmOne X.K c Cp=some true)
  (hN:X.N.Nodup) (hi:X.N[i]?=some n) (hn:nN=X.N.length) (hl:X.env.scope.names.lookup n=some .local)
  (hb:∀ (p:List (Addr × Obj)) (W:Value→Shared→Prop) (E1:XK),Passes (CX1 X.prog X.w) (X.with p W) E1→SSs (X.with p W) E1 body mb)
  (hh:∀ e:Value,SSs (X.suite e) E0 (b₀ :: suite) mh) (hd:autoParam ((x == ("__debug__":Str))=false) Au.h3._auto_1):
  SS X E (.Try body [.ExceptHandler (some (.Name x np)) (some n) (b₀ :: suite) hpos] [] [] pos) (sTry cs i nN mb mh):=⟨by
 intro pins s σ H D I ⟨w,r,S,hr,hS,hp⟩
 have hfr:X.A.frames=some (X.env :: X.outer):=by rw [I.ok.frames,hf.1]
 refine wpAny_Try_except ?_
 let E1:XK:=fun c _ H1=>∃ w1 y S1,Ext w H w1 H1∧RS X.K w1 H1 S1∧PySem.W.nsIn X.K mainGlobals y.cls=some (some c)∧mb r S=.err y S1
 let W:Value→Shared→Prop:=fun e s'=>∃ σ1 H1 s1,Inv X pins σ1 H1 s1∧CX1 X.prog X.w X.stack H1 s1 E1 e s'
 have hW:Passes (CX1 X.prog X.w) (X.with (X.pn ++ pins) W) E1:=fun pins' σ1 H1 s1 e s' I1 c=>⟨σ1,H1,s1,I1.unwith I.ok,c⟩
 have hpb:Post X.K E1 (RF X.K) w H (mb r S) (FV.to D):=by
  have hp':Post X.K E (RF X.K) w H (sTry cs i nN mb mh r S) (FV.to D):=hp
  unfold sTry at hp'
  cases e:mb r S with
  | ok f S1=>rw [e] at hp'; exact hp'
  | err y S1=>exact fun w' H' c da y1 t q=>⟨w',y,S1,y1,t,q,e⟩
  | bad=>rw [e] at hp'; exact hp'.elim
 refine wpAny_mono ((hb (X.pn ++ pins) W E1 hW).out [] s σ H D I.with ⟨w,r,S,hr,hS,hpb⟩) (fun f s' q=>?_) fun e s' q=>?_
 ·cases f with
  | next=>obtain ⟨σ',H',J,q⟩:=q; exact pss_nil (X:=X) pins s' σ' H' D (J.unwith I.ok) q
  | brk=>obtain ⟨σ',H',J,q⟩:=q; exact ⟨σ',H',J.unwith I.ok,q⟩
  | cont=>obtain ⟨σ',H',J,q⟩:=q; exact ⟨σ',H',J.unwith I.ok,q⟩
  | ret u=>obtain ⟨v,σ',H',J,rr,q⟩:=q; exact ⟨v,σ',H',J.unwith I.ok,rr,q⟩
 ·obtain ⟨σ1,H1,s1,I1,ea,cls,H2,rfl,os,bare,un,hok,⟨B,a0,fl,old,tr⟩,w1,y,S1,xe,hS1,hns,hmb⟩:=q
  obtain ⟨hnew,hnew'⟩:=fly_new (s':=s') fl old tr
  have fl':=fl
  rw [hf.1] at fl'
  refine wpAny_looks_onW hfr hf.2 fl' fun h4 held4 up4=>?_
  refine wpAny_landsW held4 fun h5 fl5 up5=>?_
  rw [← hf.1] at fl5
  have up15:s'.heap.UpToSlots h5:=up4.trans up5
  have un5:=un.fly fl.1 fl5.1 old up15 (fly_frames fl)
  have hok5:=hok.fly fl.1 fl5.1 tr
  have J5:Inv X pins σ1 H2 { s' with heap:=h5 }:=I1.call' os un5 hok5 bare (fun b z=>nomatch z)
  -- what the plain program says
  have hp':Post X.K E (RF X.K) w H (sTry cs i nN mb mh r S) (FV.to D):=hp
  unfold sTry at hp'
  rw [hmb] at hp'
  simp only at hp'
  by_cases hc:cs.contains y.cls=true
  ·rw [if_pos hc] at hp'
   have hx:=hcs y.cls hc cls hns
   refine wpAny_handleBy_cons (codeAny_handlers_test (ld_glob (X:={ X with A:=X.A.mark (some (.ref ea)),calm:=false }) (pins:=pins) (σ:=σ1) (H:=H2) ⟨⟨J5.ok.mod,J5.ok.kind,J5.ok.glob,J5.ok.blt,J5.ok.above,J5.ok.inj,J5.ok.has,J5.ok.cab,(fun z=>by cases z),J5.ok.frames,J5.ok.stk,J5.ok.exf,J5.ok.bs,J5.ok.bsz,J5.ok.noex,J5.ok.exfs,J5.ok.funs,J5.ok.frf⟩,J5.os,J5.bare,J5.base,J5.loc,J5.cell,J5.free,J5.freeC,J5.pin,J5.hok,J5.len⟩ hg hm ?_ hd)) (by intro q; cases q)
   obtain ⟨ob,hob,hobc⟩:=fl5.there
   have LT:PySem.W.Looks (model X.prog X.w) h5 (typeOf (.ref ea)) cls:=by subst hobc; exact (PySem.W.Looks.ld hob).andThen .now
   refine (PySem.W.exm_one J5.kIn LT hx).here ?_
   refine codeAny_handlers_suite_as ?_
   refine lands_againW (s:={ s' with heap:=h5 }) fl5 fun h6 fl6 up6=>?_
   have up16:s'.heap.UpToSlots h6:=up15.trans up6
   have un6:=un.fly fl.1 fl6.1 old up16 (fly_frames fl)
   have hok6:=hok.fly fl.1 fl6.1 tr
   obtain ⟨un7,hok7⟩:=fly_track fl6 old tr hnew hnew' un6 hok6
   have J7:Inv X pins σ1 (upd H2 ea (.ext (ExcAt ea cls))) { s' with heap:=h6 }:=I1.call' os un7 hok7 bare (fun b z=>nomatch z)
   refine store_ok J7 hN hi (.inl hl) (v:=.ref ea) rfl (fun s8 J8=>?_) (.inr hl)
   have x7:Ext w1 H2 w1 (upd H2 ea (.ext (ExcAt ea cls))):=Ext.new hnew'
   have hS7:RS X.K w1 (upd H2 ea (.ext (ExcAt ea cls))) S1:=hS1.new hnew'
   have x17:=xe.trans' x7 hS hS1
   have p7:=Post.ext hp' x17 hS hS7
   have hat:At w1 (upd H2 ea (.ext (ExcAt ea cls))) ea (.ext (ExcAt ea cls)):=⟨upd_same,hS1.fresh hnew'⟩
   have hiN:i < nN:=by rw [hn]; exact (List.getElem?_eq_some_iff.mp hi).1
   have hrh:RSt X.K w1 (upd H2 ea (.ext (ExcAt ea cls))) ((List.replicate nN none).set i (some (.exc y.cls))) (σ1.set i (some (.ref ea))):=by
    refine ⟨by simp [J7.len,hn],fun j d e=>?_⟩
    by_cases hj:j=i
    ·subst hj
     rw [List.getElem?_set_self (by simpa using hiN)] at e
     cases e
     exact ⟨.ref ea,List.getElem?_set_self (by rw [J7.len,← hn]; exact hiN),by unfold RD; exact ⟨ea,cls,rfl,hns,hat⟩⟩
    ·rw [List.getElem?_set_ne (Ne.symm hj),List.getElem?_replicate] at e
     split at e <;> cases e
   have hsuite:=(hh (.ref ea)).out pins s8 _ _ { nx:=fun _ _=>False,rt:=fun v H'=>D.rt v H' } J8.suite ⟨w1,_,S1,hrh,hS7,Post.nx (E:=E) ?_⟩
   ·refine wpAny_noRaise (wpAny_mono hsuite (fun f s9 q=>?_) fun _ _ z=>z)
    show wpAny _ _ _ _ _ _
    cases f with
    | next=>obtain ⟨_,_,_,q⟩:=q; exact q.elim
    | brk=>obtain ⟨_,_,_,q⟩:=q; exact q.elim
    | cont=>obtain ⟨_,_,_,q⟩:=q; exact q.elim
    | ret u=>
     obtain ⟨v,σ',H',J,rr,q⟩:=q
     have J':=J.unsuite I.ok
     obtain ⟨m9,hn9,_⟩:=id J'.loc
     refine wpAny_nameGoes hl hn9 (by rw [J'.ok.kind]; rfl) fun h10 m10 hn10 hs10=>?_
     exact ⟨v,_,H',J'.forget hn10 hs10,rr,q⟩
   ·refine Post.bind (rel:=RF X.K) p7 hS7 fun f S2 w2 H3 fv x2 q2 s2 p2=>?_
    cases f with
    | nx r=>exact p2.elim
    | bk r=>exact p2.elim
    | ct r=>exact p2.elim
    | rt d=>obtain ⟨v,rfl,q⟩:=q2; have z:=Post.ret (Q:=FV.to D) (rel:=RF X.K) (a:=F.rt d) (b:=FV.rt v) p2 ⟨v,rfl,q⟩ s2; exact z
  ·rw [if_neg hc] at hp'; exact hp'.elim⟩
end
end PD
namespace L2
open PySem PySem.Spec PyProof.Rows
structure RoomM (k:Nat) (A:Around):Prop where
 dp:A.depth + 3 * k + 5 < recursionLimit
 un:A.units + 16 * k + 200 < cLine
 gd:A.guards=some []
theorem Room.m {k:Nat} {A:Around} (r:Room k A):RoomM k A:=⟨r.dp,r.un,r.gd⟩
theorem RoomM.mark {k:Nat} {A:Around} (r:RoomM k A) (e:Option Value):RoomM k (A.mark e):=⟨r.dp,r.un,r.gd⟩
theorem RoomM.deeper {k:Nat} {A:Around} (r:RoomM (k + 1) A) (env:Env):RoomM k (A.deeper env):=
 ⟨by have:=r.dp; show A.depth + 1 + 3 * k + 5 < _; omega,by have:=r.un; show A.units + 3 + 16 * k + 200 < _; omega,r.gd⟩
structure FnOkM (P:Program) (w:World) (K:PySem.W.Frag) (mg:Str→Option Value) (base:Heap) (k:Nat) (f:Addr) (fd:FuncData) (ps:List Str) (sp:Sp):Prop where
 len:∀ vs H Q E,sp vs H Q E→vs.length=ps.length
 run:∀ (A:Around) (outer:List Env) (s:Shared) (H:Hp) (args:Args) (us:List Value) (vs:List V) (Q:VK),RoomM k A→Env0 P w K mg base A outer s H→BindsTo s fd args (ps.zip us)→Vals vs us→sp vs H Q E0→
  codeAny (model P w) A (.call (.ref f) args) (CR CX0 outer P w H s Q E0) s
abbrev cxM (P:Program) (w:World) (K:PySem.W.Frag) (mg:Str→Option Value) (base:Heap) (N:List Str) (qual:Str) (scope:Scope) (f:Addr) (cd:Value) (A:Around) (outer:List Env) (s:Shared) (H:Hp):Cx:=
 { cxOf CX0 P w K mg base N qual scope f cd A outer s H E0 with calm:=false,xe:=fun _ _=>False }
section
variable {P:Program} {w:World} {K:PySem.W.Frag} {mg:Str→Option Value} {base:Heap}
theorem inv_startM {N ps:List Str} {qual:Str} {scope:Scope} {f:Addr} {cd:Value} {A:Around} {outer:List Env} {s s1:Shared} {H:Hp} {us:List Value} {vs:List V} (S:FnScope N ps scope) (e0:Env0 P w K mg base A outer s H) (hl:vs.length=ps.length) (r:Vals vs us)
  (x:InCallC s s.heap.objs.size (bindL (envOfC qual scope s.heap.objs.size f cd).kindOf (ps.zip us) fun _=>none) (cellsFrom (s.heap.objs.size + 1) scope.names []) (bindC (envOfC qual scope s.heap.objs.size f cd).kindOf (ps.zip us) fun _=>none) s1):
  Inv (cxM P w K mg base N qual scope f cd A outer s H) [] (start N vs) H s1:=by
 have e1:Env0 P w K mg base { A with handled:=none } outer s H:=⟨e0.frames,e0.mod,e0.bs,e0.bsz,e0.funs,e0.frf,e0.hok,e0.bare⟩
 have I:=inv_start (CX:=CX0) (E:=E0) (A:={ A with handled:=none }) S rfl e1 hl r x
 exact ⟨⟨I.ok.mod,I.ok.kind,I.ok.glob,I.ok.blt,I.ok.above,I.ok.inj,I.ok.has,I.ok.cab,(fun z=>by cases z),I.ok.frames,I.ok.stk,I.ok.exf,I.ok.bs,I.ok.bsz,I.ok.noex,I.ok.exfs,I.ok.funs,I.ok.frf⟩,I.os,I.bare,I.base,I.loc,I.cell,I.free,I.freeC,I.pin,I.hok,I.len⟩
theorem fn_ofM {k:Nat} {f:Addr} {name qual:Str} {params:Arguments} {body:List Stmt} {scope:Scope} {dV kV doc pm cdv ct oc:Value} {an od:Option Addr}
  {osl:Array (Option Value)} {N ps:List Str} {sp:Sp} (lk:K.lookup f=some ⟨oc,od,.func (PySem.W.fnOf name qual params body scope dV kV doc pm an cdv ct),osl⟩) (hcd:PySem.W.codeIn K cdv qual=true) (S:FnScope N ps scope)
  (len:∀ vs H Q E,sp vs H Q E→vs.length=ps.length)
  (hbody:∀ (A:Around) (outer:List Env) (s:Shared) (H:Hp) (vs:List V) (Q:VK),RoomM k (A.deeper (envOfC qual scope s.heap.objs.size f cdv))→sp vs H Q E0→
   ∃ t,PSs (cxM P w K mg base N qual scope f cdv A outer s H) body t∧t { nx:=fun _ H'=>Q .non H',rt:=Q } (start N vs) H):
  FnOkM P w K mg base (k + 1) f (PySem.W.fnOf name qual params body scope dV kV doc pm an cdv ct) ps sp:=by
 refine ⟨len,fun A outer s H args us vs Q hr e0 hb r hsp=>?_⟩
 have hl:=len _ _ _ _ hsp
 have KX:K.In s.heap:=e0.mod.kin.keeps fun b o e=>(e0.bs b o e).1
 have lim:s.heap.NoLimit:=e0.mod.nolimit.keeps fun b o e=>(e0.bs b o e).1
 have hkind:∀ y ∈ ps.zip us,scope.names.lookup y.1=some .local ∨ (scope.names.lookup y.1=some .cell∧((cellsFrom (s.heap.objs.size + 1) scope.names []).lookup y.1).isSome=true):=fun ⟨n,v⟩ hy=>by
  rcases S.par n (List.of_mem_zip hy).1 with q | q
  ·exact .inl q
  ·exact .inr ⟨q,PySem.W.cellsFrom_some _ _ _ (.inl q)⟩
 refine codeAny_call_function (by have:=hr.dp; omega) (KX _ _ lk) rfl S.co S.gen rfl (PySem.W.codeRec_of KX hcd) (hb _ _ _ _ ?_)
 refine wpAny_newFunctionEnv_cells S.kind hkind fun env he s1 x=>?_
 subst he
 refine ⟨lim.keeps x.toInCall.keep,codeAny_func ?_⟩
 obtain ⟨t,ht,hq⟩:=hbody A outer s H vs Q (hr.deeper _) hsp
 have I:Inv (cxM P w K mg base N qual scope f cdv A outer s H) [] (start N vs) H s1:=inv_startM S e0 hl r x
 refine wpAny_mono (ht [] s1 (start N vs) H _ I hq) (fun fl s' hs=>?_) fun e s' hs=>False.elim hs
 have fin:∀ {σ':St} {H':Hp} {v:V} {u:Value},Inv (cxM P w K mg base N qual scope f cdv A outer s H) [] σ' H' s'→RelV v u→Q v H'→CE outer P w H s Q u s':=
  fun {σ' H' v u} J rv q=>⟨v,H',J.os,J.bare,J.base,J.hok,rv,q⟩
 cases fl with
 | ret u=>
  obtain ⟨v,σ',H',J,rv,q⟩:=hs
  exact fin J rv q
 | next=>
  obtain ⟨σ',H',J,q⟩:=hs
  exact fin (v:=V.non) (u:=Value.none) J rfl q
 | brk=>
  obtain ⟨_,_,_,q⟩:=hs
  exact False.elim q
 | cont=>
  obtain ⟨_,_,_,q⟩:=hs
  exact False.elim q
end
section
variable {X:Cx} {k:Nat} {f:Addr} {fd:FuncData} {ps:List Str} {sp:Sp} {x:Str} {p pos:Pos} {e:Expr} {es:List Expr} {t:TA}
theorem pe_callM (F:FnOkM X.prog X.w X.K X.mg X.base k f fd ps sp) (hr:RoomM k X.A) (hg:Gl X x) (hm:X.mg x=some (.ref f)) (hk:PySem.W.keepIn X.K (.ref f)=true) (hb:Binds X.K fd ps [])
  (ha:PA X (e :: es) t) (hdb:autoParam ((x == ("__debug__":Str))=false) Au.h2._auto_1) (he:autoParam (starEach (e :: es) X.env=(false,eval e X.env) :: starEach es X.env) Au.h1._auto_1) (hpl:autoParam ((backTo pos (starEach es X.env)).any (·.1)=false) Au.h1._auto_1):
  PE X (.Call (.Name x p) (e :: es) [] pos) (tCall sp [] E0 t):=by
 intro pins s σ H Q I h
 refine wpAny_Call_Name_kw (ld_glob I hg hm ?_ hdb)
 refine PySem.W.callWith_K (h₀:=X.base) I.ok.mod.kin hk (thn (ha pos pins s σ H _ I h) fun us s1 zq=>ex5 zq fun vs H1 I1 r q=>⟨I1.kIn,?_⟩) he hpl
 have q:sp vs H1 Q E0:=by
  have z:sp (vs ++ []) H1 Q E0:=q
  rwa [List.append_nil] at z
 show wpAny _ _ (call (Value.ref f) us) _ _ _
 have hl:us.length=ps.length:=by rw [← r.length]; exact F.len _ _ _ _ q
 have hb':=hb s1 us I1.kIn (by rw [List.append_nil]; exact hl)
 rw [List.append_nil] at hb'
 refine wpAny_call (codeAny_mono (F.run X.A X.stack s1 H1 ⟨us,[]⟩ us vs Q hr I1.env0 hb' r q) fun rr s' hq=>?_)
 cases rr with
 | error e=>exact False.elim hq
 | ok fl=>
  cases fl with
  | ret u=>exact I1.after hq
  | next=>exact False.elim hq
  | brk=>exact False.elim hq
  | cont=>exact False.elim hq
end
end L2
namespace PD
open PySem PySem.Spec PyProof.Rows L2
structure DefM (P:Program) (w:World) (K:PySem.W.Frag) (mg:Str→Option Value) (base:Heap) (x:Str) (k n:Nat) (f:FM):Prop where
 ex:∃ (fa:Addr) (fd:FuncData) (ps:List Str),mg x=some (.ref fa)∧PySem.W.keepIn K (.ref fa)=true∧Binds K fd ps []∧FnOkM P w K mg base k fa fd ps (spN K n f)
section
variable {X:Cx} {x:Str} {k n:Nat} {f:FM} {a:Expr} {es:List Expr} {ms:AM} {p pos:Pos}
theorem se_fnM (D:DefM X.prog X.w X.K X.mg X.base x k n f) (hr:RoomM k X.A) (hg:Gl X x) (ha:SA X E0 (a :: es) ms) (hn:ALen ms n) (hdb:autoParam ((x == ("__debug__":Str))=false) Au.h3._auto_1)
  (he:autoParam (starEach (a :: es) X.env=(false,eval a X.env) :: starEach es X.env) Au.h0._auto_1) (hpl:autoParam ((backTo pos (starEach es X.env)).any (·.1)=false) Au.h0._auto_1):
  SE X E0 (.Call (.Name x p) (a :: es) [] pos) (eCall f ms):=by
 obtain ⟨fa,fd,ps,hm,hk,hb,F⟩:=D.ex
 refine ⟨pe_weak (pe_callM F hr hg hm hk hb ha.out hdb he hpl) fun s H Q zq=>?_⟩
 obtain ⟨w,r,S,hr,hS,hp⟩:=zq
 refine ⟨w,r,S,hr,hS,?_⟩
 have hp':Post X.K E0 (RD X.K) w H ((ms r S).bind fun xs S1=>f xs S1) Q:=hp
 cases e:ms r S with
 | bad=>rw [e] at hp'; exact hp'.elim
 | err y S'=>rw [e] at hp'; exact hp'
 | ok ds S'=>
  rw [e] at hp'
  intro w1 H1 vs x1 q1 s1
  rw [List.append_nil]
  exact ⟨by rw [q1.length]; exact hn r S ds S' e,w1,S',ds,s1,q1,Post.ext (r:=f ds S') hp' x1 hS s1⟩
end
section
variable {P:Program} {w:World} {K:PySem.W.Frag} {mg:Str→Option Value} {base:Heap}
theorem def_ofM {x:Str} {st:Stmt} {f:Addr} {fd:FuncData} {m:SM} (N ps:List Str) (k k1 n0 n1:Nat) (hk:k1=k + 1) (h0:n0=ps.length) (h1:n1=N.length) (F:Fun K x x st f fd) (hm:mg x=some (.ref f)) (hb:Binds K fd ps []) (S:FnScope N ps (defScope st))
  (hbody:∀ (cdv:Value) (A:Around) (outer:List Env) (s:Shared) (H:Hp),RoomM k (A.deeper (envOfC x (defScope st) s.heap.objs.size f cdv))→
   SSs (cxM P w K mg base N x (defScope st) f cdv A outer s H) E0 (defBody st) m):DefM P w K mg base x k1 n0 (fnM n1 m):=by
 subst hk h0 h1
 refine ⟨f,fd,ps,hm,F.kp,hb,?_⟩
 obtain ⟨oc,od,kV,doc,pm,an,cdv,ct,osl,rfl,lk,hcd⟩:=F.ex
 refine fn_ofM lk hcd S (fun vs H Q E h=>h.1) fun A outer s H vs Q hr h=>?_
 obtain ⟨hl,u,T,ds,hT,q,p⟩:=h
 refine ⟨_,(hbody cdv A outer s H hr).out,u,_,T,start_rel q,hT,?_⟩
 refine Post.bind (rel:=RF K) p hT fun g S1 w1 H1 fv x1 q1 s1 p1=>?_
 cases g with
 | nx r=>obtain ⟨s',rfl,_⟩:=q1; have z:=Post.ret (Q:=Q) (rel:=RD K) (a:=D.non) (b:=V.non) p1 (by unfold RD; rfl) s1; exact z
 | rt d=>obtain ⟨v,rfl,q2⟩:=q1; have z:=Post.ret (Q:=Q) (rel:=RD K) (a:=d) (b:=v) p1 q2 s1; exact z
 | bk r=>exact p1.elim
 | ct r=>exact p1.elim
end
end PD
namespace L2
open PySem PySem.Spec PyProof.Rows
theorem bexc_kind:builtinKind "BaseException.__getattribute__" = some .slot:=by decide +kernel
theorem bexc_split:splitId "BaseException.__getattribute__" = some ("BaseException","__getattribute__"):=by decide +kernel
section
variable {prog:Program} {w:World} {A:Around} {E:Value→Shared→Prop} {s:Shared} {K:PySem.W.Frag} {ea C:Addr} {ox:Obj} {od:Option Obj}
theorem exc_check {M:Model} {v:Value} {Q:Unit→Shared→Prop} (LI:PySem.W.Looks M s.heap (isInstance (.ref ea) (.type "BaseException")) true) (h:Q () s):wpAny M A (checkBuiltinCall "BaseException.__getattribute__" ⟨[.ref ea,v],[]⟩) Q E s:=by
 obtain ⟨hh,g,d,t,os⟩:=s
 have ha:=PySem.F.args_bexc_ga (.ref ea) v
 simp only [checkBuiltinCall,bexc_kind,bexc_split]
 refine wpAny_bind (LI.at ?_)
 simp only [Bool.not_true,Bool.false_eq_true,if_false]
 cases hsig:Manifest.signature? "BaseException.__getattribute__" with
 | none=>exact wpAny_pure h
 | some sig=>
  simp only [argsOk,hsig] at ha
  have h2:Bind.checkArgs "BaseException.__getattribute__" sig ⟨[.ref ea,v],[]⟩=pure ():=ha
  show wpAny M A (Bind.checkArgs "BaseException.__getattribute__" sig ⟨[.ref ea,v],[]⟩) Q E _
  rw [h2]; exact wpAny_pure h
theorem exc_get {tp:Value} {R:Result→Shared→Prop} (LT:PySem.W.Looks (model prog w) s.heap (typeOf (.ref ea)) (.ref C)) (LO:PySem.W.Looks (model prog w) s.heap (isSubtype (.ref C) (.type "object")) true) (hR:R (.ok (.ret (.ref C))) s):
  codeAny (model prog w) A (.call (.builtin "getset_descriptor.__get__") ⟨[.builtin "object.__class__",.ref ea,tp],[]⟩) R s:=by
 obtain ⟨hh,g,dr,t,os⟩:=s
 have LI:PySem.W.Looks (model prog w) hh (isInstance (.ref ea) (.type "object")) true:=LT.andThen LO
 have ty:(⟨hh,g,dr,t,os⟩:Shared).TypeIs (.builtin "object.__class__") "getset_descriptor":=PySem.F.typeOf_object_class
 refine codeAny_call_builtin PySem.F.slot_gs_get.plain PySem.F.entry_gs_get (PySem.F.slot_gs_get.check _ _ _ _ _ _ _ _ ty (PySem.F.args_gs_get _ _ _) ?_)
 repeat (any_goals (first | assumption | (with_reducible refine PySem.W.Looks.at (by assumption) ?_) | wp_step))
 have own:(".".intercalate ("object.__class__".cutAt '.').dropLast) = "object":=by
  have e0:"object.__class__".cutAt '.'=["object","__class__"]:=by first | rfl | decide +kernel
  rw [e0]; decide +kernel
 rw [own]
 refine LO.at ?_
 refine wpAny_pure ?_
 refine wpAny_pure ⟨Code.quiet_builtin _ (by decide +kernel),codeAny_builtin PySem.F.entry_object_class ?_⟩
 repeat (any_goals (first | assumption | (with_reducible refine PySem.W.Looks.at (by assumption) ?_) | wp_step))
theorem exc_class {Q:Option Value→Shared→Prop} (X:K.In s.heap) (hx:s.heap.get? ea=some ox) (hc:ox.cls=.ref C) (hga:PySem.W.findIn K (.ref C) "__getattribute__" = some (some (.builtin "BaseException.__getattribute__")))
  (hgh:PySem.W.findIn K (.ref C) "__getattr__" = some none) (hf:PySem.W.findIn K (.ref C) "__class__" = some (some (.builtin "object.__class__")))
  (hn:PySem.W.specialIn K (.builtin "object.__class__") "__get__" = some (some (.builtin "getset_descriptor.__get__"))) (htk:PySem.W.takesIn K (.builtin "object.__class__")=some true)
  (hb:PySem.W.mroIn K C (.type "BaseException")=some true) (hm:PySem.W.mroIn K C (.type "object")=some true) (h:Q (some (.ref C)) { s with toks:=s.toks + 1 }):wpAny (model prog w) A (getAttr? (.ref ea) "__class__") Q E s:=by
 obtain ⟨hh,g,d,t,os⟩:=s
 have L0:PySem.W.Looks (model prog w) hh (typeOf (.ref ea)) (.ref C):=hc ▸ (PySem.W.Looks.ld hx).andThen .now
 have L1:=PySem.W.looks_findIn (M:=model prog w) X hga
 have L2:=PySem.W.looks_findIn (M:=model prog w) X hgh
 have LF:PySem.W.Looks (model prog w) hh (Builtin.ObjectAttr.find (.ref ea) (.ref C) "__class__") (.bind (.builtin "getset_descriptor.__get__") (.builtin "object.__class__")):=by
  refine (PySem.W.looks_findIn X hf).andThen ((PySem.W.looks_specialIn X hn).andThen (PySem.W.Looks.andThen (a:=some (.builtin "getset_descriptor.__get__",.builtin "object.__class__")) ?_ ?_))
  ·exact (PySem.W.looks_takesIn X htk).andThen .now
  ·exact PySem.W.Looks.tag .now
 have LB:=PySem.W.looks_mroIn (M:=model prog w) X hb
 have LO:=PySem.W.looks_mroIn (M:=model prog w) X hm
 have LI:PySem.W.Looks (model prog w) hh (isInstance (.ref ea) (.type "BaseException")) true:=L0.andThen LB
 have f3:=PySem.F.excAttr_ValueError.ga.bind (.ref ea)
 unfold getAttr? getAttrBy? getAttrBy
 refine wpAny_bind (wpAny_mkText (wpAny_bind ?_))
 refine wpAny_attempt (wpAny_holding (wpAny_bind (L0.at (wpAny_bind (L1.at ?_)))))
 show wpAny _ _ (getAttrByItsOwn _ _ _ _ _ _) _ _ _
 unfold getAttrByItsOwn hookBefore
 refine wpAny_bind ?_
 show wpAny _ _ (typeLookup (.ref C) "__getattr__") _ _ _
 refine L2.at ?_
 refine wpAny_bind (wpAny_attempt (wpAny_holding ?_))
 show wpAny _ _ (boundAndCalled _ _ _) _ _ _
 unfold boundAndCalled
 rw [f3]
 refine wpAny_bind (wpAny_pure ?_)
 show wpAny _ _ (call (.builtin "BaseException.__getattribute__") [.ref ea,.str "__class__" t]) _ _ _
 refine wpAny_call (codeAny_call_builtin PySem.F.excAttr_ValueError.ga.plain PySem.F.entry_bexc_ga (exc_check LI ?_))
 unfold Builtin.«object.__getattribute__»
 refine wpAny_bind (wpAny_pure (wpAny_bind (wpAny_pure (wpAny_bind (L0.at (wpAny_bind (LF.at ?_)))))))
 show wpAny _ _ (holding [.builtin "object.__class__"] (call (.builtin "getset_descriptor.__get__") [.builtin "object.__class__",.ref ea,.ref C]) >>= ret) _ _ _
 refine wpAny_bind (wpAny_holding (wpAny_call (exc_get L0 LO ?_)))
 exact wpAny_pure (wpAny_pure (wpAny_pure h))
structure ExK (K:PySem.W.Frag) (C:Addr):Prop where
 ga:PySem.W.findIn K (.ref C) "__getattribute__" = some (some (.builtin "BaseException.__getattribute__"))
 gh:PySem.W.findIn K (.ref C) "__getattr__" = some none
 cl:PySem.W.findIn K (.ref C) "__class__" = some (some (.builtin "object.__class__"))
 bs:PySem.W.mroIn K C (.type "BaseException")=some true
 ob:PySem.W.mroIn K C (.type "object")=some true
 is:(PySem.W.clsIn K C).isSome=true
theorem ExK.lk (e:ExK K C):∃ a b cd d,K.lookup C=some ⟨a,b,.cls cd,d⟩:=by
 have h:=e.is
 unfold PySem.W.clsIn at h
 split at h
 next a b cd d q=>exact ⟨_,_,_,_,q⟩
 next=>cases h
theorem kitx_exc (e:ExK K C) (hn:PySem.W.specialIn K (.builtin "object.__class__") "__get__" = some (some (.builtin "getset_descriptor.__get__"))) (htk:PySem.W.takesIn K (.builtin "object.__class__")=some true):
  PySem.W.KitX K (.ref ea) (.ref C) (PD.ExcAt ea (.ref C)) where
 ty:=fun M h X ⟨o,e1,e2⟩=>e2 ▸ (PySem.W.Looks.ld e1).andThen .now
 it:=fun M h X _=>by
  obtain ⟨_,_,_,_,q⟩:=e.lk
  intro A' Q' E' s' k z
  unfold isType loadHead
  exact wpAny_bind (wpAny_loadPart (k _ _ (X _ _ q)) (wpAny_pure z))
 ne:=fun h tp dd its n sl X ht=>by
  obtain ⟨_,_,_,_,q⟩:=e.lk
  cases hb:(Value.ref C == Value.ref tp) with
  | false=>rfl
  | true=>
   have:C=tp:=Value.ref.inj (beq_iff_eq.mp hb)
   subst this
   have z:=(X _ _ q).symm.trans ht
   cases z
 ca:=fun X ⟨o,e1,e2⟩ k=>exc_class X e1 e2 e.ga e.gh e.cl hn htk e.bs e.ob k
end
end L2
namespace PD
open PySem PySem.Spec PyProof.Rows L2
structure Cls (K:PySem.W.Frag) (cs ks:List Str) (isa:Str→Str→Bool):Prop where
 gt:PySem.W.specialIn K (.builtin "object.__class__") "__get__" = some (some (.builtin "getset_descriptor.__get__"))
 tk:PySem.W.takesIn K (.builtin "object.__class__")=some true
 ex:∀ c ∈ cs,∃ C,PySem.W.nsIn K mainGlobals c=some (some (.ref C))∧ExK K C∧PySem.W.kitOne K (.ref C) (.type "ValueError")=some true
 isa:∀ c ∈ cs,∀ k ∈ ks,∃ C D,PySem.W.nsIn K mainGlobals c=some (some C)∧PySem.W.nsIn K mainGlobals k=some (some D)∧PySem.W.kitOne K C D=some (isa c k)
def fIsX (cs ks:List Str) (isa:Str→Str→Bool):Sto→List D→Option D
 | S,[.exc c,.cls k]=>if c ∈ cs∧k ∈ ks then some (.bl (isa c k)) else none
 | S,[.exc c,.ty T]=>if c ∈ cs∧T = "ValueError" then some (.bl true) else none
 | S,xs=>fIsi S xs
section
variable {X:Cx} {E:XK} {cs ks:List Str} {isa:Str→Str→Bool}
theorem exc_isi {pins:List (Addr × Obj)} {σ:L2.St} {H:Hp} {s:Shared} {w:Wd} {S:Sto} {c:Str} {v:V} {u c2:Value} {b:Bool} {Q:VK} (T:Cls X.K cs ks isa) (I:Inv X pins σ H s) (hc:c ∈ cs) (q:RD X.K w H (.exc c) v) (rv:RelV v u) (hS:RS X.K w H S)
  (hk:∀ C,PySem.W.nsIn X.K mainGlobals c=some (some C)→PySem.W.kitOne X.K C c2=some b) (p:Post X.K E (RD X.K) w H (.ok (.bl b) S) Q):wpAny (model X.prog X.w) X.A (call (.builtin "isinstance") [u,c2]) (EP X pins σ Q) X.xe s:=by
 unfold RD at q
 obtain ⟨a,C,rfl,hns,hat⟩:=q
 obtain ⟨Ca,hns',hE,_⟩:=T.ex c hc
 rw [hns] at hns'
 cases hns'
 cases (show u=Value.ref a from rv)
 have hx:=(I.hok a _ hat.1).1
 exact PySem.W.kia_one (kitx_exc hE T.gt T.tk) I.kIn hx (hk _ hns) (fun z=>nomatch z) fun tk=>⟨.bl b,H,I.tok tk,rfl,p.ret RD.mkB hS⟩
theorem xc_isx (T:Cls X.K cs ks isa):CallR X (.builtin "isinstance") (xC X.K E (fIsX cs ks isa)):=by
 rintro pins s σ H xs us Q I r ⟨w,S,ds,hS,qs,p⟩
 obtain ⟨z,hz,p'⟩:=p.of
 unfold fIsX at hz
 split at hz
 ·rename_i c k
  split at hz
  ·rename_i h
   cases hz
   obtain ⟨v,u,rfl,q,q'⟩:=qs.two_inv
   obtain ⟨v1,v2,rfl,rv,rt⟩:=vals2 r
   unfold RD at q'
   obtain ⟨C2,hn2,rfl⟩:=q'
   cases (show v2=Value.ref C2 from rt)
   refine exc_isi T I h.1 q rv hS (fun C hC=>?_) p'
   obtain ⟨C',D',e1,e2,e3⟩:=T.isa c h.1 k h.2
   rw [hC] at e1
   rw [hn2] at e2
   cases e1
   cases e2
   exact e3
  ·cases hz
 ·rename_i c t
  split at hz
  ·rename_i h
   cases hz
   obtain ⟨v,u,rfl,q,q'⟩:=qs.two_inv
   obtain ⟨v1,v2,rfl,rv,rt⟩:=vals2 r
   unfold RD at q'
   subst q'
   cases (show v2=Value.type t from rt)
   refine exc_isi T I h.1 q rv hS (fun C hC=>?_) p'
   obtain ⟨Ca,hn,_,hv⟩:=T.ex c h.1
   rw [hn] at hC
   cases hC
   rw [h.2]
   exact hv
  ·cases hz
 ·exact xc_isi pins s σ H xs us Q I r ⟨w,S,ds,hS,qs,by rw [hz]; exact p'⟩
def ClsAt (K:PySem.W.Frag) (mg:Str→Option Value) (x:Str):Prop:=∃ C,mg x=some (.ref C)∧PySem.W.nsIn K mainGlobals x=some (some (.ref C))
theorem se_cls {x:Str} {pos:Pos} (h:ClsAt X.K X.mg x) (hg:Gl X x) (hd:autoParam ((x == ("__debug__":Str))=false) Au.h3._auto_1):SE X E (.Name x pos) (eC (.cls x)):=by
 obtain ⟨C,hm,hn⟩:=h
 exact se_c (pe_glob hg hm (v:=.ref C) rfl hd) fun _ _=>by unfold RD; exact ⟨C,hn,rfl⟩
def TryAt (K:PySem.W.Frag) (mg:Str→Option Value) (x:Str) (cs:List Str):Prop:=∃ Cp,mg x=some Cp∧∀ y ∈ cs,∃ c,PySem.W.nsIn K mainGlobals y=some (some c)∧PySem.W.exmOne K c Cp=some true
theorem ss_tryT {body:List Stmt} {b₀:Stmt} {suite:List Stmt} {x n:Str} {np hpos pos:Pos} {i nN:Nat} {mb mh:SM} (h:TryAt X.K X.mg x cs) (hex:X.ex=[]) (hf:X.stack=X.env :: X.outer∧X.env.frame=some X.env.locals)
  (hg:Gl X x) (hN:X.N.Nodup) (hi:X.N[i]?=some n) (hn:nN=X.N.length) (hl:X.env.scope.names.lookup n=some .local)
  (hb:∀ (p:List (Addr × Obj)) (W:Value→Shared→Prop) (E1:XK),Passes (CX1 X.prog X.w) (X.with p W) E1→SSs (X.with p W) E1 body mb)
  (hh:∀ e:Value,SSs (X.suite e) E0 (b₀ :: suite) mh) (hd:autoParam ((x == ("__debug__":Str))=false) Au.h3._auto_1):
  SS X E (.Try body [.ExceptHandler (some (.Name x np)) (some n) (b₀ :: suite) hpos] [] [] pos) (sTry cs i nN mb mh):=by
 obtain ⟨Cp,hm,hc⟩:=h
 refine ss_try hex hf hg hm (fun y hy c hcn=>?_) hN hi hn hl hb hh hd
 obtain ⟨c',e1,e2⟩:=hc y (List.contains_iff_mem.mp hy)
 rw [hcn] at e1
 cases e1
 exact e2
end
end PD
namespace PD
open PySem PySem.Spec PyProof.Rows L2
section
variable {X:Cx} {E:XK}
def intsOf:List D→Option (List Int)
 | []=>some []
 | .int b :: r=>(intsOf r).map (b :: ·)
 | _ :: _=>none
def fSum:Sto→List D→Option D
 | S,[d]=>match seqOf S d with
  | some a=>(intsOf a).map fun ns=>.int ns.sum
  | none=>none
 | _,_=>none
theorem ints_len:∀ {ds:List D} {ns:List Int},intsOf ds=some ns→ns.length=ds.length
 | [],_,h=>by unfold intsOf at h; cases h; rfl
 | d :: ds,ns,h=>by
  cases d with
  | int i=>
   unfold intsOf at h
   cases e:intsOf ds with
   | none=>rw [e] at h; cases h
   | some cs=>rw [e] at h; cases h; simp [ints_len e]
  | _=>unfold intsOf at h; cases h
theorem ints_at {K:PySem.W.Frag} {w:Wd} {H:Hp}:∀ {ds:List D} {vs:List V} {us:List Value} {ns:List Int},RDs K w H ds vs→Vals vs us→intsOf ds=some ns→∀ (i:Nat) (v:Value),us[i]?=some v→∃ t,v=.int ((ns[i]?).getD 0) t
 | [],_,_,_,q,r,h,i,v,e=>by
  rw [q.nil_inv] at r
  cases r
  simp at e
 | d :: ds,_,_,ns,q,r,h,i,v,e=>by
  obtain ⟨y,vs,rfl,p,t⟩:=q.cons_inv
  cases d with
  | int b=>
   unfold intsOf at h
   cases e':intsOf ds with
   | none=>rw [e'] at h; cases h
   | some cs=>
    rw [e'] at h; cases h
    cases p.int
    cases r with
    | cons r1 r2=>
     cases i with
     | zero=>
      obtain ⟨t,rfl⟩:=r1
      simp at e
      exact ⟨t,by simp [e]⟩
     | succ i=>
      have z:=ints_at t r2 e' i v (by simpa using e)
      simpa using z
  | _=>unfold intsOf at h; cases h
theorem preSum_take (ns:List Int):∀ k,k≤ns.length→preSum (fun i=>(ns[i]?).getD 0) k=(ns.take k).sum
 | 0,_=>by simp [preSum]
 | k + 1,h=>by
  have hk:k < ns.length:=h
  show preSum _ k + (ns[k]?).getD 0=_
  rw [preSum_take ns k (Nat.le_of_lt hk),List.take_succ,List.sum_append,List.getElem?_eq_getElem hk]
  simp
theorem xc_sum (hc:X.calm=true):CallR X (.builtin "sum") (xC X.K E fSum):=by
 rintro pins s σ H xs us Q I r ⟨w,S,ds,hS,qs,p⟩
 obtain ⟨z,hz,p'⟩:=p.of
 clear p
 unfold fSum at hz
 split at hz
 ·rename_i d
  cases ea:seqOf S d with
  | none=>rw [ea] at hz; cases hz
  | some a=>
   rw [ea] at hz
   simp only at hz
   cases e:intsOf a with
   | none=>rw [e] at hz; cases hz
   | some ns=>
    rw [e] at hz; cases hz
    obtain ⟨v,rfl,q⟩:=qs.one_inv
    obtain ⟨pa,vs,rfl,sq,ra⟩:=seq_ok hS q ea
    obtain ⟨u,rfl,ru⟩:=vals1 r
    cases ru
    have hlen:=ints_len e
    have fin:∀ n,n=ns.length→preSum (fun i=>(ns[i]?).getD 0) n=ns.sum:=fun n hn=>by rw [hn,preSum_take ns _ (Nat.le_refl _),List.take_length]
    rcases sq with sq | sq
    ·obtain ⟨its,r1,⟨o,n,ho,hcl,hdn,hd⟩,_⟩:=I.list sq
     have hlt:pa < s.heap.objs.size:=Heap.lt_size ho
     have hl:s.heap.IsList pa its.toArray:=⟨o,ho,hcl,n,hd⟩
     refine call_sum_walkG (wpAny_pyIter_list hl ?_)
     refine ⟨s.heap.objs.size,[s.heap.objs.size,pa],[s.heap.objs.size],its.toArray.size,_,_,fun i=>(ns[i]?).getD 0,rfl,Walks.list (A:=X.A.in1) (I.ok.hd hc) _ pa (Nat.ne_of_lt hlt) its.toArray,
      ⟨⟨_,Heap.get?_push_size _ rfl,rfl,rfl⟩,hl.push _⟩,fun b hb=>?_,fun i v hP=>ints_at ra r1 e i v (by simpa using hP),fun h' tk t' hk=>?_⟩
     ·simp only [List.mem_cons,List.not_mem_nil,or_false] at hb
      rw [Heap.size_push]
      rcases hb with rfl | rfl
      ·exact Nat.lt_succ_self _
      ·exact Nat.lt_succ_of_lt hlt
     ·rw [fin _ (by rw [hlen,← ra.length,r1.length]; simp)]
      exact ⟨.int _,H,I.kept (LSm.kept_iter hk),⟨t',rfl⟩,p'.ret RD.mkI hS⟩
    ·obtain ⟨its,r1,⟨o,ho,hcl,n,hd⟩,_⟩:=I.tuple sq
     have hlt:pa < s.heap.objs.size:=Heap.lt_size ho
     have hl:s.heap.IsTuple pa its.toArray:=⟨o,ho,hcl,n,hd⟩
     refine call_sum_walkG (wpAny_pyIter_tuple hl ?_)
     refine ⟨s.heap.objs.size,[s.heap.objs.size,pa],[s.heap.objs.size],its.toArray.size,_,_,fun i=>(ns[i]?).getD 0,rfl,Walks.tuple (A:=X.A.in1) (I.ok.hd hc) _ pa (Nat.ne_of_lt hlt) its.toArray,
      ⟨⟨_,Heap.get?_push_size _ rfl,rfl,rfl⟩,hl.push _⟩,fun b hb=>?_,fun i v hP=>ints_at ra r1 e i v (by simpa using hP),fun h' tk t' hk=>?_⟩
     ·simp only [List.mem_cons,List.not_mem_nil,or_false] at hb
      rw [Heap.size_push]
      rcases hb with rfl | rfl
      ·exact Nat.lt_succ_self _
      ·exact Nat.lt_succ_of_lt hlt
     ·rw [fin _ (by rw [hlen,← ra.length,r1.length]; simp)]
      exact ⟨.int _,H,I.kept (LSm.kept_iter hk),⟨t',rfl⟩,p'.ret RD.mkI hS⟩
 ·cases hz
end
end PD
namespace PD
open PySem PySem.Spec PyProof.Rows L2
section
variable {X:Cx} {E:XK}
def mCount:Sto→D→List D→R D
 | S,.lst a,[x]=>if flatD x=true∧a.all flatD=true then .ok (.int (a.countP fun z=>eqF z x:Nat)) S else .bad
 | _,_,_=>.bad
def mIndex:Sto→D→List D→R D
 | S,.lst a,[x]=>if flatD x=true∧a.all flatD=true then (match a.findIdx? fun z=>eqF z x with
   | some j=>.ok (.int (j:Nat)) S
   | none=>.bad) else .bad
 | _,_,_=>.bad
theorem eqs_ok {K:PySem.W.Frag} {w:Wd} {H:Hp} {x:D} {y:V} (qx:RD K w H x y) (hx:flatD x=true):∀ {ds:List D} {vs:List V} {us:List Value},RDs K w H ds vs→Vals vs us→ds.all flatD=true→us.map (eqU y)=ds.map fun z=>eqF z x
 | [],_,_,q,r,_=>by
  rw [q.nil_inv] at r
  cases r
  rfl
 | d :: ds,_,_,q,r,h=>by
  obtain ⟨v,vs,rfl,p,t⟩:=q.cons_inv
  rw [List.all_cons,Bool.and_eq_true] at h
  cases r with
  | cons r1 r2=>rw [List.map_cons,List.map_cons,eqU_of r1 (flat_ok p h.1),eqF_ok p qx h.1 hx,eqs_ok qx hx t r2 h.2]
theorem list_obj {s:Shared} {pa:Addr} {its:Array Value} (h:PlainL s.heap pa its):∃ n dd sl,s.heap.get? pa=some { cls:=.type "list",dict:=dd,data:=.seq its n,slots:=sl }:=by
 obtain ⟨⟨oc,od,oda,osl⟩,n,ho,hcl,hdn,hd⟩:=h
 dsimp only at hcl hdn hd
 subst hcl hd
 exact ⟨n,_,_,ho⟩
theorem xm_count:MtR X "list.count" (xM X.K E mCount):=by
 rintro pins s σ H x xs v us Q I rx rs ⟨w,S,d,ds,hS,qd,qs,p⟩
 unfold mCount at p
 split at p
 ·rename_i a y
  split at p
  ·rename_i hf
   obtain ⟨pp,vs,rfl,z,ra⟩:=qd.lstI
   obtain ⟨yv,rfl,qy⟩:=qs.one_inv
   cases (show v=Value.ref pp from rx)
   obtain ⟨u,rfl,ru⟩:=rs.one
   obtain ⟨its,r1,hp,_⟩:=I.list (SqL.of z.1)
   obtain ⟨n,dd,sl,ho⟩:=list_obj hp
   have he:=eqs_ok qy hf.1 ra r1 hf.2
   refine call_meets PySem.F.slot_list_count ⟨_,ho,rfl⟩ PySem.F.entry_list_count (PySem.F.args_list_count_2 _ _) (SeqAt.list_countAt pp its.toArray n dd sl u (eqU yv)) ⟨ho,fun y hy=>mem_eqAt ru (flat_ok qy hf.1) r1 (flats_ok ra hf.2) y (by simpa using hy),?_⟩
   have hc:its.toArray.toList.countP (eqU yv)=a.countP fun z=>eqF z y:=by
    have e1:∀ {α:Type} (l:List α) (f:α→Bool),l.countP f=(l.map f).countP id:=fun l f=>by rw [List.countP_map]; rfl
    rw [e1,e1 a,show its.toArray.toList=its from rfl,he]
   rw [hc]
   exact ⟨.int _,H,I.tok _,⟨_,rfl⟩,p.ret RD.mkI hS⟩
  ·exact p.elim
 ·exact p.elim
theorem xm_index:MtR X "list.index" (xM X.K E mIndex):=by
 rintro pins s σ H x xs v us Q I rx rs ⟨w,S,d,ds,hS,qd,qs,p⟩
 unfold mIndex at p
 split at p
 ·rename_i a y
  split at p
  ·rename_i hf
   split at p
   ·rename_i j hj
    obtain ⟨pp,vs,rfl,z,ra⟩:=qd.lstI
    obtain ⟨yv,rfl,qy⟩:=qs.one_inv
    cases (show v=Value.ref pp from rx)
    obtain ⟨u,rfl,ru⟩:=rs.one
    obtain ⟨its,r1,hp,hz⟩:=I.list (SqL.of z.1)
    obtain ⟨n,dd,sl,ho⟩:=list_obj hp
    have he:=eqs_ok qy hf.1 ra r1 hf.2
    have hlen:its.length=a.length:=by have:=congrArg List.length he; simpa using this
    have hzl:vs.length=a.length:=ra.length
    have hz':vs.length≤sizeLine:=hz
    rw [sizeLine_eq] at hz'
    have hg:∀ m (hm:m < its.length) (hm':m < a.length),eqU yv its[m]=eqF a[m] y:=fun m hm hm'=>by
     have:=congrArg (fun l=>l[m]?) he
     simpa [List.getElem?_eq_getElem hm,List.getElem?_eq_getElem hm'] using this
    obtain ⟨hja,hit,hno⟩:=List.findIdx?_eq_some_iff_getElem.mp hj
    refine call_meets PySem.F.slot_list_index ⟨_,ho,rfl⟩ PySem.F.entry_list_index (PySem.F.args_list_index_2 _ _) (SeqAt.list_indexAt pp its.toArray n dd sl u (eqU yv) j (by simpa [hlen] using hja) (by omega) ?_ fun m hm hmj=>?_) ⟨ho,fun y hy=>mem_eqAt ru (flat_ok qy hf.1) r1 (flats_ok ra hf.2) y (by simpa using hy),⟨.int _,H,I.tok _,⟨_,rfl⟩,p.ret RD.mkI hS⟩⟩
    ·have:=hg j (by rw [hlen]; exact hja) hja
     simpa [this] using hit
    ·have hm':m < a.length:=by omega
     have:=hg m (by rw [hlen]; exact hm') hm'
     have q:=hno m hmj
     simp only [List.getElem_toArray]
     rw [this]
     simpa using q
   ·exact p.elim
  ·exact p.elim
 ·exact p.elim
end
end PD
namespace PD
open PySem PySem.Spec PyProof.Rows L2
theorem whileL_more (t:TM) (b:SM):∀ (n k:Nat) (r:Rho) (S:Sto),whileL t b n r S ≠ .bad→whileL t b (n + k) r S=whileL t b n r S
 | 0,k,r,S,h=>absurd rfl h
 | n + 1,k,r,S,h=>by
  rw [show n + 1 + k=(n + k) + 1 by omega]
  unfold whileL at h ⊢
  cases e:t r S with
  | bad=>rfl
  | err x S1=>rfl
  | ok c S1=>
   rw [e] at h
   simp only [R.bind_ok] at h ⊢
   cases c with
   | false=>rfl
   | true=>
    simp only [if_true] at h ⊢
    cases e2:b r S1 with
    | bad=>rfl
    | err x S2=>rfl
    | ok f S2=>
     rw [e2] at h
     simp only [R.bind_ok] at h ⊢
     cases f with
     | nx r2=>exact whileL_more t b n k r2 S2 h
     | ct r2=>exact whileL_more t b n k r2 S2 h
     | bk r2=>rfl
     | rt d=>rfl
open Classical in
def sWh (t:TM) (b:SM):SM:=fun r S=>if h:∃ n,whileL t b n r S ≠ .bad then whileL t b h.choose r S else .bad
theorem sWh_eq {t:TM} {b:SM} {r:Rho} {S:Sto} (n:Nat) (h:whileL t b n r S ≠ .bad):sWh t b r S=whileL t b n r S:=by
 have hx:∃ n,whileL t b n r S ≠ .bad:=⟨n,h⟩
 unfold sWh
 rw [dif_pos hx]
 have hc:=hx.choose_spec
 rcases Nat.le_total n hx.choose with z | z
 ·obtain ⟨k,e⟩:=Nat.exists_eq_add_of_le z
  rw [e]
  exact whileL_more t b n k r S h
 ·obtain ⟨k,e⟩:=Nat.exists_eq_add_of_le z
  have:=whileL_more t b hx.choose k r S hc
  rw [← e] at this
  exact this.symm
section
variable {X:Cx} {E:XK} {c:Expr} {body:List Stmt} {mt:TM} {m:SM} {pos:Pos}
theorem ss_while (hp:PassesOwn (model X.prog X.w) X.A X.env X.xe) (hc:ST X E c mt) (hb:SSs X E body m):SS X E (.While c body [] pos) (sWh mt m):=⟨
 ps_weak (ps_while hp hc.out hb.out) fun D s H zq=>ex6 zq fun w r S hr hS hp=>by
  have h0:∃ n,Post X.K E (RF X.K) w H (whileL mt m n r S) (FV.to D):=by
   have hp':Post X.K E (RF X.K) w H (sWh mt m r S) (FV.to D):=hp
   unfold sWh at hp'
   split at hp'
   ·exact ⟨_,hp'⟩
   ·exact hp'.elim
  obtain ⟨n0,hp0⟩:=h0
  refine ⟨fun n s' H'=>∃ w' r' S',RSt X.K w' H' r' s'∧RS X.K w' H' S'∧Post X.K E (RF X.K) w' H' (whileL mt m n r' S') (FV.to D),⟨n0,w,r,S,hr,hS,hp0⟩,?_⟩
  rintro n s1 H1 ⟨w1,r1,S1,hr1,hS1,hp1⟩
  cases n with
  | zero=>exact hp1.elim
  | succ n=>
   unfold whileL at hp1
   refine ⟨w1,r1,S1,hr1,hS1,hp1.bind hS1 fun k S2 w2 H2 v x2 q2 s2 p2=>?_⟩
   have e:v=k:=q2
   subst e
   cases v with
   | false=>exact iteF (Post.ret (b:=FV.nx s1) p2 ⟨s1,rfl,hr1.ext x2⟩ s2)
   | true=>
    refine iteT ⟨fun s' H'=>∃ w' r' S',RSt X.K w' H' r' s'∧RS X.K w' H' S'∧Post X.K E (RF X.K) w' H' (whileL mt m n r' S') (FV.to D),fun s' H' hN=>⟨n,Nat.lt_succ_self n,hN⟩,?_⟩
    simp only [if_true] at p2
    refine ⟨w2,r1,S2,hr1.ext x2,s2,Post.bind (rel:=RF X.K) p2 s2 fun f S5 w5 H5 fv x5 q5 s5 p5=>?_⟩
    cases f with
    | nx r6=>obtain ⟨s6,rfl,q6⟩:=q5; exact ⟨w5,r6,S5,q6,s5,p5⟩
    | ct r6=>obtain ⟨s6,rfl,q6⟩:=q5; exact ⟨w5,r6,S5,q6,s5,p5⟩
    | bk r6=>obtain ⟨s6,rfl,q6⟩:=q5; have z:=Post.ret (Q:=FV.to D) (rel:=RF X.K) (a:=F.nx r6) (b:=FV.nx s6) p5 ⟨s6,rfl,q6⟩ s5; exact z
    | rt d6=>obtain ⟨v6,rfl,q6⟩:=q5; have z:=Post.ret (Q:=FV.to D) (rel:=RF X.K) (a:=F.rt d6) (b:=FV.rt v6) p5 ⟨v6,rfl,q6⟩ s5; exact z⟩
end
end PD
namespace PD
open PySem PySem.Spec PyProof.Rows L2
section
variable {X:Cx} {E:XK}
def eqP (a b:D):Option Bool:=match eqS a b with
 | some c=>some c
 | none=>match toPy a,toPy b with
  | some p,some q=>if SeqAt.shaped p=true∧SeqAt.shaped q=true then some (PyData.eqv p q) else none
  | _,_=>none
def oEqP:Sto→D→D→Option D:=fun _ a b=>(eqP a b).map .bl
def oNeP:Sto→D→D→Option D:=fun _ a b=>(eqP a b).map fun c=>.bl (!c)
theorem eqP_cases {a b:D} {c:Bool} (h:eqP a b=some c):eqS a b=some c ∨ ∃ p q,toPy a=some p∧toPy b=some q∧SeqAt.shaped p=true∧SeqAt.shaped q=true∧c=PyData.eqv p q:=by
 unfold eqP at h
 split at h
 ·rename_i c' e; cases h; exact .inl e
 ·split at h
  ·rename_i p q e1 e2
   split at h
   ·rename_i hs; cases h; exact .inr ⟨p,q,e1,e2,hs.1,hs.2,rfl⟩
   ·cases h
  ·cases h
theorem xo_eqP {k:Nat} (hr:Room k X.A):OpR X (compareOp .Eq) (xO X.K E oEqP):=by
 rintro pins s σ H x y v u Q I rx ry ⟨w,S,d,e,hS,qd,qe,p⟩
 obtain ⟨z,hz,p⟩:=p.of
 unfold oEqP at hz
 cases h:eqP d e with
 | none=>rw [h] at hz; cases hz
 | some c=>
  rw [h] at hz; cases hz
  rcases eqP_cases h with h | ⟨a,b,e1,e2,s1,s2,rfl⟩
  ·exact xo_eq pins s σ H x y v u Q I rx ry ⟨w,S,d,e,hS,qd,qe,by unfold oEq; rw [h]; exact p⟩
  ·obtain ⟨as,r1,_⟩:=reads_ok I d x v a qd rx e1
   obtain ⟨bs,r2,_⟩:=reads_ok I e y u b qe ry e2
   exact eq_dataH r1 r2 s1 s2 hr.units ⟨.bl _,H,I,rfl,p.ret RD.mkB hS⟩
theorem xo_neP {k:Nat} (hr:Room k X.A):OpR X (compareOp .NotEq) (xO X.K E oNeP):=by
 rintro pins s σ H x y v u Q I rx ry ⟨w,S,d,e,hS,qd,qe,p⟩
 obtain ⟨z,hz,p⟩:=p.of
 unfold oNeP at hz
 cases h:eqP d e with
 | none=>rw [h] at hz; cases hz
 | some c=>
  rw [h] at hz; cases hz
  rcases eqP_cases h with h | ⟨a,b,e1,e2,s1,s2,rfl⟩
  ·exact xo_ne pins s σ H x y v u Q I rx ry ⟨w,S,d,e,hS,qd,qe,by unfold oNe; rw [h]; exact p⟩
  ·obtain ⟨as,r1,_⟩:=reads_ok I d x v a qd rx e1
   obtain ⟨bs,r2,_⟩:=reads_ok I e y u b qe ry e2
   exact ne_dataH r1 r2 s1 s2 hr.units ⟨.bl _,H,I,rfl,p.ret RD.mkB hS⟩
end
end PD
namespace PD
open PySem PySem.Spec PyProof.Rows L2
theorem law_spN {f:FM} (h:∀ ns:List Int,ns.length≤63→∃ S,f [.fz (ns.map .int)] []=.ok (.bl true) S) (K:PySem.W.Frag) (H:Hp) (a:Addr) (ns:List Int) (hn:ns.length≤63) (ho:Only H) (hs:SqL K H a (ns.map V.int)):
  spN K 1 f [.ref a] H (fun v _=>v=.bl true) fun _ _ _=>False:=law_sp h K H a ns hn ho hs
theorem cx1_no {P:Program} {w:World} {l:List Env} {H:Hp} {s s':Shared} {e:Value} (h:CX1 P w l H s (fun _ _ _=>False) e s'):False:=by
 obtain ⟨_,_,_,_,_,_,_,_,_,z⟩:=h
 exact z
theorem exk_mk {K:PySem.W.Frag} {C:Addr} {cd:ClassData} (g1:PySem.W.findIn K (.ref C) "__getattribute__" = some (some (.builtin "BaseException.__getattribute__"))) (g2:PySem.W.findIn K (.ref C) "__getattr__" = some none)
  (g3:PySem.W.findIn K (.ref C) "__class__" = some (some (.builtin "object.__class__"))) (m1:PySem.W.mroIn K C (.type "BaseException")=some true) (m2:PySem.W.mroIn K C (.type "object")=some true) (c:PySem.W.clsIn K C=some cd):ExK K C:=
 ⟨g1,g2,g3,m1,m2,by rw [c]; rfl⟩
end PD
namespace SQ
open PySem PySem.Spec PyProof.Rows
open Sem (wp)
def nm:Bool→String
 | true=>"tuple_iterator"
 | false=>"list_iterator"
def Is:Bool→Heap→Addr→Array Value→Prop
 | true,h,a,xs=>h.IsTuple a xs
 | false,h,a,xs=>h.IsList a xs
def It (k:Bool) (h:Heap) (it a:Addr) (i:Nat):Prop:=∃ o,h.get? it=some o∧o.cls=.type (nm k)∧o.data=.fields #[.ref a,.int i 0]
section
variable {prog:Program} {w:World} {A:Around} {E:Value→Shared→Prop} {s:Shared}
theorem sb {t b:Addr} {h h':Heap} {o:Obj} (hs:Heap.SameBut t h h') (n:b ≠ t) (e:h.get? b=some o):h'.get? b=some o:=(hs.2 b n).trans e
end
abbrev z1 (k:Bool) (h:Heap) (l1:Addr):Heap:=h.push { cls:=.type (nm k),data:=.fields #[.ref l1,.int 0 0] }
abbrev z2 (k m:Bool) (h:Heap) (l1 l2:Addr):Heap:=(z1 k h l1).push { cls:=.type (nm m),data:=.fields #[.ref l2,.int 0 0] }
abbrev z3 (k m:Bool) (h:Heap) (l1 l2:Addr):Heap:=(z2 k m h l1 l2).push { cls:=.type "tuple",data:=.seq #[.ref h.objs.size,.ref (z1 k h l1).objs.size] }
section
variable {prog:Program} {w:World} {A:Around} {E:Value→Shared→Prop} {s:Shared}
end
section
variable {prog:Program} {w:World} {A:Around} {E:Value→Shared→Prop} {s:Shared}
end
end SQ
namespace L2
open PySem PySem.Spec PyProof.Rows
section
variable {X:Cx} {pins:List (Addr × Obj)} {σ:St} {H:Hp} {s:Shared} {h':Heap}
theorem Inv.turnedS {t':Nat} {fp:List Addr} (I:Inv X pins σ H s) (k:∀ b o,b ∉ fp→s.heap.get? b=some o→h'.get? b=some o) (hf:∀ b ∈ fp,FpOk X pins H b):Inv X pins σ H { s with heap:=h',toks:=t' }:=by
 refine I.step (g':=s.gens) (d':=s.drawn) (ch:=fp) (fun b hb=>?_) (fun b o _ _ hc e _=>k b o hc e) (fun b o _ _ hc e _=>⟨o.slots,k b o hc e⟩) (fun _ _ _ _ n=>n)
  (fun b o hc e=>⟨o,k b o hc e⟩) (fun _ _ e=>e) (fun _ _ _ e=>e) (fun b ps e=>⟨#[],by rw [e]; simp⟩) (fun m hm=>?_) (fun b u e=>?_) I.bare
 ·obtain ⟨f0,f1,f2,f3,f4,f5⟩:=hf b hb; exact ⟨f3,f1,f4,f5⟩
 ·obtain ⟨o,es,ep,ho,r⟩:=hm
  exact ⟨o,es,ep,k _ o (fun z=>(hf _ z).2.1 rfl) ho,r⟩
 ·refine (I.hok b u e).stay (fun c v hc q=>k c v (fun z=>?_) q) (fun _ q=>q) fun _ _ q=>q
  have hn:=(hf c z).1
  rcases hc with y | y
  ·rw [y,e] at hn; cases hn
  ·rw [y] at hn; cases hn
theorem Inv.turnedP {t':Nat} {fp:List Addr} {x y:V} {u v:Value} (I:Inv X pins σ H s) (hf:∀ b ∈ fp,FpOk X pins H b) (hlt:∀ b ∈ fp,b < s.heap.objs.size) (rx:RelV x u) (ry:RelV y v)
  (k:∀ b o,b ∉ fp→s.heap.get? b=some o→h'.get? b=some o) (hp:IsPair h' s.heap.objs.size u v):Inv X pins σ (upd H s.heap.objs.size (.tup [x,y])) { s with heap:=h',toks:=t' }:=by
 have I1:Inv X pins σ (upd H s.heap.objs.size (.tup [x,y])) { s with heap:=s.heap.push { cls:=.type "tuple",data:=.seq #[u,v] },toks:=t' }:=
  I.laid (t':=t') (fun b u e=>Heap.get?_push_of_some _ e) (Nat.le_refl _) ⟨by show 2≤sizeLine; decide,[u,v],.cons rx (.cons ry .nil),⟨_,Heap.get?_push_size _ rfl,rfl,_,rfl⟩⟩
 refine Inv.turnedS (s:={ s with heap:=s.heap.push { cls:=.type "tuple",data:=.seq #[u,v] },toks:=t' }) (fp:=fp) (t':=t') (h':=h') I1 (fun b o hb e=>?_) fun b hb=>?_
 ·rcases Heap.get?_push_cases e with ⟨rfl,rfl⟩ | e
  ·exact hp
  ·exact k b o hb e
 ·obtain ⟨f0,f1⟩:=hf b hb
  exact ⟨by rw [upd_ne (Nat.ne_of_lt (hlt b hb))]; exact f0,f1⟩
theorem fp_none {fp:List Addr} (hf:∀ b ∈ fp,FpOk X pins H b) (hlt:∀ b ∈ fp,b < s.heap.objs.size) {o:HO}:∀ b ∈ fp,upd H s.heap.objs.size o b=none:=fun b hb=>by
 rw [upd_ne (Nat.ne_of_lt (hlt b hb))]; exact (hf b hb).1
end
end L2
namespace L2
open PySem PySem.Spec PyProof.Rows
section
variable {X:Cx} {es:List Expr} {n:Nat} {tp:Pos}
end
end L2
namespace PD
open PySem PySem.Spec PyProof.Rows L2
section
variable {X:Cx} {E:XK} {a b:Expr} {pos:Pos}
end
end PD
namespace PD
open PySem PySem.Spec PyProof.Rows L2
def insZ (x:Int):List Int→List Int
 | []=>[x]
 | y :: r=>if x≤y then x :: y :: r else y :: insZ x r
def sortZ:List Int→List Int
 | []=>[]
 | x :: r=>insZ x (sortZ r)
theorem insZ_perm (x:Int):∀ l:List Int,(insZ x l).Perm (x :: l)
 | []=>.refl _
 | y :: r=>by
  unfold insZ
  split
  ·exact .refl _
  ·exact ((insZ_perm x r).cons y).trans (.swap x y r)
theorem sortZ_perm:∀ l:List Int,(sortZ l).Perm l
 | []=>.refl _
 | x :: r=>(insZ_perm x _).trans ((sortZ_perm r).cons x)
theorem insZ_sorted (x:Int):∀ l:List Int,l.Pairwise (· ≤ ·)→(insZ x l).Pairwise (· ≤ ·)
 | [],_=>List.pairwise_singleton _ _
 | y :: r,h=>by
  obtain ⟨h1,h2⟩:=List.pairwise_cons.mp h
  unfold insZ
  split
  ·rename_i hxy
   exact List.pairwise_cons.mpr ⟨fun z hz=>by
    rcases List.mem_cons.mp hz with rfl | hz
    ·exact hxy
    ·exact Int.le_trans hxy (h1 z hz),h⟩
  ·rename_i hxy
   exact List.pairwise_cons.mpr ⟨fun z hz=>by
    rcases List.mem_cons.mp ((insZ_perm x r).mem_iff.mp hz) with rfl | hz
    ·omega
    ·exact h1 z hz,insZ_sorted x r h2⟩
theorem sortZ_sorted:∀ l:List Int,(sortZ l).Pairwise (· ≤ ·)
 | []=>.nil
 | x :: r=>insZ_sorted x _ (sortZ_sorted r)
theorem sorted_uniq:∀ {a b:List Int},a.Perm b→a.Pairwise (· ≤ ·)→b.Pairwise (· ≤ ·)→a=b
 | [],b,p,_,_=>p.nil_eq
 | x :: r,[],p,_,_=>absurd p.length_eq (by simp)
 | x :: r,y :: t,p,h1,h2=>by
  obtain ⟨a1,a2⟩:=List.pairwise_cons.mp h1
  obtain ⟨b1,b2⟩:=List.pairwise_cons.mp h2
  have e:x=y:=by
   have hx:x ∈ y :: t:=p.mem_iff.mp (.head _)
   have hy:y ∈ x :: r:=p.mem_iff.mpr (.head _)
   rcases List.mem_cons.mp hx with h | h
   ·exact h
   ·rcases List.mem_cons.mp hy with h' | h'
    ·exact h'.symm
    ·exact Int.le_antisymm (a1 y h') (b1 x h)
  subst e
  rw [sorted_uniq (List.Perm.cons_inv p) a2 b2]
end PD
namespace SQ
open PySem PySem.Spec PyProof.Rows
section
variable {prog:Program} {w:World} {A:Around} {E:Value→Shared→Prop} {s:Shared}
theorem collect_tup {l:Addr} {vs:List Value} {Q:List Value→Shared→Prop} (hl:s.heap.IsTuple l vs.toArray)
  (h:Q vs { s with heap:=(s.heap.push (seqObj "list" #[] 0)).update s.heap.objs.size (Obj.mapSeq (· ++ vs.toArray)) }) (hsz:vs.length≤sizeLine):wpAny (model prog w) A (collect (.ref l)) Q E s:=by
 obtain ⟨o,ho,hc,n,hd⟩:=id hl; unfold collect; refine wpAny_bind (wpAny_runValue (codeAny_builtin entry_proto_collect' ?_))
 show wpAny _ _ (do again (.builtin "list.__iadd__" ⟨[← newList [],.ref l],[]⟩)) _ _ s; refine wpAny_bind (wpAny_newList (wpAny_pure ⟨Code.quiet_builtin _ (by decide +kernel),codeAny_builtin entry_list_iadd' ?_⟩))
 show wpAny _ _ (Builtin.List.listExtendWith (.ref s.heap.objs.size) (.ref l) (.ref s.heap.objs.size)) _ _ { s with heap:=s.heap.push (seqObj "list" #[] 0) }; unfold Builtin.List.listExtendWith
 have ho':(s.heap.push (seqObj "list" #[] 0)).get? l=some o:=Heap.get?_push_of_some _ ho
 refine wpAny_bind (wpAny_typeOf (T:="tuple") ⟨o,ho',hc⟩ ?_)
 have ht:(Value.type "tuple" == Value.type "tuple")=true:=by rfl
 rw [if_pos (by rw [ht]; simp)]; refine wpAny_bind (listItems_at ho' hd ?_); refine wpAny_bind (listItems_at (xs:=#[]) (n:=0) (Heap.get?_push_size _ rfl) rfl ?_); rw [if_neg (by simp)]
 refine wpAny_bind (listUpdate_at (xs:=#[]) (n:=0) (Heap.get?_push_size _ rfl) rfl ?_ (Nat.zero_le _) (by show (#[] ++ vs.toArray).size≤sizeLine + 1; simp only [Array.size_append,List.size_toArray,List.length_nil]; omega)); refine wpAny_pure ?_
 show wpAny (model prog w) A (do
   let o ← load s.heap.objs.size
   match o.data with
   | .seq xs _=>pure xs.toList
   | _=>unsupported "internal:collect") Q E { s with heap:=(s.heap.push (seqObj "list" #[] 0)).update s.heap.objs.size (Obj.mapSeq (· ++ vs.toArray)) }
 refine wpAny_bind (wpAny_load (get?_update_seq (Heap.get?_push_size _ rfl) _) ?_); show wpAny _ _ (pure ((#[]:Array Value) ++ vs.toArray).toList) Q E _
 rw [show ((#[]:Array Value) ++ vs.toArray).toList=vs by simp]; exact wpAny_pure h
theorem collects {k:Bool} {l:Addr} {vs:List Value} {Q:List Value→Shared→Prop} (hl:Is k s.heap l vs.toArray)
  (h:Q vs { s with heap:=(s.heap.push (seqObj "list" #[] 0)).update s.heap.objs.size (Obj.mapSeq (· ++ vs.toArray)) }) (hsz:vs.length≤sizeLine):wpAny (model prog w) A (collect (.ref l)) Q E s:=by
 cases k with
 | true=>exact collect_tup hl h hsz
 | false=>exact collect_list hl h hsz
end
end SQ
namespace PD
open PySem PySem.Spec PyProof.Rows L2
section
variable {X:Cx} {E:XK}
theorem ints_are {K:PySem.W.Frag} {w:Wd} {H:Hp}:∀ {ds:List D} {vs:List V} {us:List Value} {ns:List Int},RDs K w H ds vs→Vals vs us→intsOf ds=some ns→IntsAre us ns
 | [],_,_,_,q,r,h=>by
  rw [q.nil_inv] at r
  cases r
  unfold intsOf at h
  cases h
  exact .nil
 | d :: ds,_,_,ns,q,r,h=>by
  obtain ⟨y,vs,rfl,p,t⟩:=q.cons_inv
  cases d with
  | int b=>
   unfold intsOf at h
   cases e':intsOf ds with
   | none=>rw [e'] at h; cases h
   | some cs=>
    rw [e'] at h; cases h
    cases p.int
    cases r with
    | cons r1 r2=>
     obtain ⟨t',rfl⟩:=r1
     exact .cons _ _ (ints_are t r2 e')
  | _=>unfold intsOf at h; cases h
theorem vals_of:∀ {us:List Value} {ns:List Int},IntsAre us ns→Vals (ns.map .int) us
 | _,_,.nil=>.nil
 | _,_,.cons _ _ h=>.cons ⟨_,rfl⟩ (vals_of h)
theorem rds_ints {K:PySem.W.Frag} {w:Wd} {H:Hp}:∀ ns:List Int,RDs K w H (ns.map .int) (ns.map .int)
 | []=>.nil
 | n :: ns=>.cons (by unfold RD; rfl) (rds_ints ns)
end
end PD
namespace PD
open PySem PySem.Spec PyProof.Rows L2
section
variable {X:Cx} {E:XK} {a b:Expr} {es:List Expr} {ms:AM} {x:Str} {p pos:Pos}
end
end PD
namespace PD
open PySem PySem.Spec PyProof.Rows L2
section
variable {M:Model} {A:Around} {E:Value→Shared→Prop} {s:Shared}
end
section
variable {X:Cx} {pins:List (Addr × Obj)} {σ:L2.St} {H:Hp} {s:Shared}
end
end PD
namespace PD
open PySem PySem.Spec PyProof.Rows L2
theorem comp_weak {X:Cx} {E:XK} {k:Nat} {caps:List Nat} {it:AM} {g:G} {mt:TM} {me:EM}:∀ s H Q,uE X.K E (eComp it k caps g mt me) s H Q→tComp (uI X.K E it) k caps (uG X.K g) (uT X.K E mt) (uE X.K E me) s H Q:=
 fun s H Q zq=>ex6 zq fun w r S hr hS hp=>⟨w,r,S,hr,hS,hp.bind hS fun ds S1 w1 H1 J x1 q1 s1 p1=>by
  intro p hp
  have hr1:=hr.ext x1
  have pno:p ∉ w1.hid:=(s1.fresh hp).2
  have hz:ds.length≤sizeLine:=by
   rcases Nat.lt_or_ge sizeLine ds.length with z | z
   ·rw [if_neg (by omega)] at p1; exact p1.elim
   ·exact z
  rw [if_pos hz] at p1
  -- the list is made at p,which is hidden
  refine ⟨fun i n s' H'=>n=ds.length - i∧i≤ds.length∧∃ w' r' S' ys vs,Ext w1 H1 w' H'∧p ∈ w'.hid∧RSt X.K w' H' r' s'∧RS X.K w' H' S'∧H' p=some (.lst vs)∧RDs X.K w' H' ys vs∧ys.length≤i∧
    Post X.K E (RD X.K) w1 H1 ((compL g mt me (ds.drop i) r' S').bind fun zs S2=>R.ok (.lst (ys ++ zs)) S2) Q,
   ⟨ds.length,by simp,Nat.zero_le _,w1.hide p,capOf k caps r,S1,[],[],Ext.hide hp,List.mem_cons_self,(cap_rel k caps hr1).ext (Ext.hide hp),s1.hide hp,upd_same,.nil,Nat.le_refl _,p1⟩,?_⟩
  rintro i n s2 H2 ⟨rfl,hi.out,w2,r2,S2,ys,vs,x2,hph,hr2,hS2,hpv,ry,hyl,hp2⟩
  have hpn:p ∉ w2.st:=(hS2.hid p hph).1
  by_cases hlt:i < ds.length
  ·obtain ⟨go,yld⟩:=(q1 i w2 H2 x2).1 hlt
   refine .inr ⟨go,fun s' H'=>∃ w' r' S' ys vs,Ext w1 H1 w' H'∧p ∈ w'.hid∧RSt X.K w' H' r' s'∧RS X.K w' H' S'∧H' p=some (.lst vs)∧RDs X.K w' H' ys vs∧ys.length≤i + 1∧
     Post X.K E (RD X.K) w1 H1 ((compL g mt me (ds.drop (i + 1)) r' S').bind fun zs S2=>R.ok (.lst (ys ++ zs)) S2) Q,
    fun s' H' hN=>⟨ds.length - (i + 1),by omega,rfl,hlt,hN⟩,fun x H3 hy=>?_⟩
   obtain ⟨gr,rd⟩:=yld x H3 hy
   obtain ⟨d,ed,qd⟩:=rd S2 hS2
   obtain ⟨x3,s3⟩:=grown_ok gr hS2
   have hdrop:ds.drop i=d :: ds.drop (i + 1):=by
    rw [List.drop_eq_getElem_cons hlt]
    rw [List.getElem?_eq_getElem hlt] at ed
    cases ed; rfl
   rw [hdrop] at hp2
   have hpv3:H3 p=some (.lst vs):=x3.keep _ _ hpv hpn
   have ry3:=RDs.ext x3 _ _ ry
   have x13:Ext w1 H1 w2 H3:=x2.trans' x3 s1 hS2
   unfold compL at hp2
   cases e:g.put d r2 with
   | none=>rw [e] at hp2; exact hp2.elim
   | some r3=>
    rw [e] at hp2
    refine ⟨w2,r2,d,r3,hr2.ext x3,qd,e,fun s4 hr4=>⟨w2,r3,S2,hr4,s3,?_⟩⟩
    -- hp2:(mt r3 S2).bind .. |>.bind ..
    have hass:∀ {A B C:Type} (r:R A) (f:A→Sto→R B) (h:B→Sto→R C),(r.bind f).bind h=r.bind fun a S=>(f a S).bind h:=fun r f h=>by cases r <;> rfl
    simp only [hass] at hp2
    refine Post.bindAt (rel:=RB) hp2 x13 s1 s3 fun c S5 w5 H5 c' x5 q5 s5 p5=>?_
    have ec:c'=c:=q5
    subst ec
    have x15:Ext w1 H1 w5 H5:=x13.trans' x5 s1 s3
    have hph5:p ∈ w5.hid:=x5.hid p hph
    have hpv5:H5 p=some (.lst vs):=x5.keep _ _ hpv3 hpn
    cases c' with
    | false=>
     refine iteF ⟨w5,r3,S5,ys,vs,x15,hph5,hr4.ext x5,s5,hpv5,RDs.ext x5 _ _ ry3,Nat.le_succ_of_le hyl,p5⟩
    | true=>
     refine iteT ⟨w5,r3,S5,hr4.ext x5,s5,?_⟩
     have p5':Post X.K E (RD X.K) w1 H1 (((me r3 S5).bind fun y S2=>(compL g mt me (ds.drop (i + 1)) r3 S2).bind fun ys S3=>R.ok (y :: ys) S3).bind fun zs S2=>R.ok (D.lst (ys ++ zs)) S2) Q:=p5
     simp only [hass] at p5'
     refine Post.bindAt (rel:=RD X.K) p5' x15 s1 s5 fun y S6 w6 H6 yv x6 q6 s6 p6=>?_
     have x16:Ext w1 H1 w6 H6:=x15.trans' x6 s1 s5
     have hph6:p ∈ w6.hid:=x6.hid p hph5
     have hpn5:p ∉ w5.st:=(s5.hid p hph5).1
     have hpn6:p ∉ w6.st:=(s6.hid p hph6).1
     have hpv6:H6 p=some (.lst vs):=x6.keep _ _ hpv5 hpn5
     have ry6:=RDs.ext x6 _ _ (RDs.ext x5 _ _ ry3)
     refine ⟨vs,hpv6,by rw [ry6.length]; omega,w6,r3,S6,ys ++ [y],vs ++ [yv],⟨fun a o h n=>?_,x16.sub,x16.hid,x16.hnew,fun a o u h=>by have z:=x16.frz a o u h; rw [upd_ne (fun e:a=p=>by rw [e,hpv6] at z; cases z)]; exact z⟩,hph6,(hr4.ext x5).ext x6 |>.mv (Mv.write hph6),s6.write hph6,upd_same,(RDs.mv (Mv.write hph6) _ _ ry6).append (.cons (RD.mv (Mv.write hph6) _ _ q6) .nil),by simp; omega,?_⟩
     ·have:a ≠ p:=ne_of_none h hp
      rw [upd_ne this]; exact x16.keep a o h n
     ·have he2:∀ zs:List D,(ys ++ [y]) ++ zs=ys ++ y :: zs:=fun zs=>by simp
      simp only [he2]
      exact p6
  ·have e:i=ds.length:=by omega
   subst e
   rw [List.drop_length] at hp2
   refine .inl ⟨(q1 _ w2 H2 x2).2 (Nat.le_refl _),?_⟩
   have hp3:Post X.K E (RD X.K) w1 H1 (R.ok (D.lst (ys ++ [])) S2) Q:=hp2
   rw [List.append_nil] at hp3
   refine Post.at hp3 (w1:=w2.unhide p) ⟨x2.keep,x2.sub,fun a h=>List.mem_filter.mpr ⟨x2.hid a h,decide_eq_true fun z=>pno (z ▸ h)⟩,fun a h=>x2.hnew a (Wd.mem_unhide h).1,x2.frz⟩ ?_ hS2.unhide
   unfold RD
   exact ⟨p,vs,rfl,⟨hpv,hpn,fun z=>(Wd.mem_unhide z).2 rfl⟩,RDs.mv Mv.unhide _ _ ry⟩⟩
theorem ps_setC {X:Cx} {elt tg iter:Expr} {ifs:List Expr} {scope:Scope} {pos pos' spos:Pos} {N:List Str} {i0:Nat} {x0:Str} {k:Nat} {caps:List Nat} {wi:TI} {g:TG} {tt:TT} {te:TE} (hN:X.N.Nodup) (hi0:X.N[i0]?=some x0) (hx0:Loc X.env.scope x0) (hX:X.calm=true) (hxe:∀ e s,¬ X.xe e s) (C:CompScope X N k caps scope)
  (hi:PI X tg iter wi) (hg:∀ cl s0 H0 ex,PG (cxC X N scope cl s0 H0 ex) tg g) (ht:∀ cl s0 H0 ex,PIfs (cxC X N scope cl s0 H0 ex) ifs tt) (he:∀ cl s0 H0 ex,PE (cxC X N scope cl s0 H0 ex) elt te)
  (hs:autoParam (∀ x,foldedSetIterable iter X.env x=pure x) Au.h4._auto_1) (hsw:autoParam (swapsWith (.ListComp elt [⟨tg,iter,ifs,0⟩] scope pos) (some (.Name x0 pos')) spos.line X.env=pure true) Au.h0._auto_1) (hf0:autoParam (X.fn x0=true ∨ X.env.scope.names.lookup x0=some .local) Au.h7._auto_1):PS X (.Assign [.Name x0 pos'] (.ListComp elt [⟨tg,iter,ifs,0⟩] scope pos) spos) (tAsg (tComp wi k caps g tt te) (gName i0)):=by
 intro pins s σ H D I h
 have h:tComp wi k caps g tt te σ H (fun v H1=>D.nx (σ.set i0 (some v)) H1):=h
 have noX:∀ {α:Type} {t:Sem α} {Q':α→Shared→Prop} {s':Shared},wpAny (model X.prog X.w) X.A t Q' X.xe s'→wpAny (model X.prog X.w) X.A t Q' (fun _ _=>False) s':=fun h=>wpAny_mono h (fun _ _ x=>x) fun e s z=>hxe e s z
 obtain ⟨cl,hclos,hcl,hcf⟩:=closure_for (scope:=scope) (env:=X.env) fun x hx hf=>I.ok.has _ (C.free x hx hf)
 rw [exec_Assign_Name_used _ _ _ _ hsw]; refine wpAny_bind (wpAny_standAt (wpAny_bind ?_))
 show wpAny _ X.A (do let _ ← comprehension (.ListComp elt [⟨tg,iter,ifs,0⟩] scope pos) scope X.env _ (newList []) false (eval iter X.env) (some (assign (.Name x0 pos') X.env))) _ _ s
 refine wpAny_bind (wpAny_mono (wpAny_comprehension_free (use:=some (assign (.Name x0 pos') X.env)) (Q:=fun _ s'=>∃ σ' H',Inv X pins σ' H' s'∧D.nx σ' H') (cl:=cl) rfl hs hclos C.kind C.names ?_) (fun _ s' hq=>wpAny_pure (wpAny_pure hq)) fun _ _ e=>e)
 refine thn (hi pins s σ H _ I h) fun v s1 h1=>thn h1 fun itv s2 h2=>?_
 obtain ⟨it,fp,tn,J,H2,e,I2,T,st2,f2,q⟩:=h2
 subst e
 refine wpAny_newList (items:=[]) ?_ (by show 0≤sizeLine; exact Nat.zero_le _)
 have hp:H2 s2.heap.objs.size=none:=I2.hok.fresh (Nat.le_refl _)
 obtain ⟨W,⟨m0,w0⟩,turn⟩:=q _ hp
 have I3:Inv X pins σ (upd H2 s2.heap.objs.size (.lst [])) { s2 with heap:=s2.heap.push { cls:=.type "list",data:=.seq ([]:List Value).toArray } }:=
  I2.laid (t':=s2.toks) (fun b u e=>Heap.get?_push_of_some _ e) (Nat.le_refl _) ⟨Nat.zero_le _,[],0,.nil,Heap.get?_push_size _ rfl⟩
 refine wpAny_newFunctionEnv C.nocell (fun x hx=>nomatch hx) (fun h4 hn4 hs4=>?_) C.kind
 have ltfp:∀ b ∈ fp,b < s2.heap.objs.size:=fun b hb=>by
  obtain ⟨o,ho,_⟩:=T.obj _ _ st2 b hb
  exact Heap.lt_size ho
 have hk4:∀ b o,(s2.heap.push { cls:=.type "list",data:=.seq ([]:List Value).toArray }).get? b=some o→h4.get? b=some o:=fun b o e=>by
  have ne:b ≠ (s2.heap.push { cls:=.type "list",data:=.seq ([]:List Value).toArray }).objs.size:=Nat.ne_of_lt (Heap.lt_size e)
  rw [hs4.2 b ne]
  exact Heap.get?_push_of_some _ e
 have f3:∀ b ∈ fp,FpOk X pins (upd H2 s2.heap.objs.size (.lst [])) b:=fun b hb=>by
  obtain ⟨a1,a2⟩:=f2 b hb
  exact ⟨by rw [upd_ne (Nat.ne_of_lt (ltfp b hb))]; exact a1,a2⟩
 have I4:=comp_start (N:=N) (k:=k) (caps:=caps) (scope:=scope) (cl:=cl) (fp:=fp) (t:=s2.toks + 0) I3 hX C hcl hcf (fun b hb=>⟨f3 b hb,by rw [show ({ s2 with heap:=s2.heap.push { cls:=.type "list",data:=.seq ([]:List Value).toArray } }:Shared).heap.objs.size=s2.heap.objs.size + 1 from Heap.size_push ..]; exact Nat.lt_succ_of_lt (ltfp b hb)⟩) hn4 hk4
 have tn4:tn 0 h4:=T.keep _ _ _ st2 fun b hb o e=>hk4 b o (Heap.get?_push_of_some _ e)
 have loop:codeAny (model X.prog X.w) X.A (.compLoop (.ListComp elt [⟨tg,iter,ifs,0⟩] scope pos) 0 (.ref it) (.ref s2.heap.objs.size) (compEnvC scope cl ({ s2 with heap:=s2.heap.push { cls:=.type "list",data:=.seq ([]:List Value).toArray } }:Shared).heap.objs.size X.env))
   (compPost (model X.prog X.w) X.A X.xe (some (assign (.Name x0 pos') X.env)) (fun _ s'=>∃ σ' H',Inv X pins σ' H' s'∧D.nx σ' H') (.ref s2.heap.objs.size) ({ s2 with heap:=s2.heap.push { cls:=.type "list",data:=.seq ([]:List Value).toArray } }:Shared).heap.objs.size) { s2 with heap:=h4,toks:=s2.toks + 0 }:=by
  generalize hs3:({ s2 with heap:=s2.heap.push { cls:=.type "list",data:=.seq ([]:List Value).toArray } }:Shared)=s3 at *
  have sz3:s2.heap.objs.size≤s3.heap.objs.size:=by rw [← hs3]; show _≤(s2.heap.push _).objs.size; rw [Heap.size_push]; exact Nat.le_succ _
  have k23:∀ b o,s2.heap.get? b=some o→s3.heap.get? b=some o:=fun b o e=>by rw [← hs3]; exact Heap.get?_push_of_some _ e
  have hos:s3.os=s2.os:=by rw [← hs3]
  have stat:∀ {H':Hp},(∀ b ∈ fp,H' b=none)→∀ b ∈ fp,FpOk (cxC X N scope cl s3 (upd H2 s2.heap.objs.size (.lst [])) fp) pins H' b:=fun {H'} hn b hb=>by
   obtain ⟨a1,a2,a3,a4,a5,a6⟩:=f3 b hb
   refine ⟨hn b hb,Nat.ne_of_lt (Nat.lt_of_lt_of_le (ltfp b hb) sz3),fun z=>?_,.inl hb,fun x c e=>a5 x c (hcl x c e),a6⟩
   rcases List.mem_cons.mp (I2.stkSub b z) with q | q
   ·exact a2 q
   ·exact a3 q
  have I4':Inv (cxC X N scope cl s3 (upd H2 s2.heap.objs.size (.lst [])) fp) pins (capSt k caps σ) (upd H2 s2.heap.objs.size (.lst [])) { s2 with heap:=h4,toks:=s2.toks + 0 }:=by subst hs3; exact I4
  refine compLoop_all (fun n s'=>∃ i σ' H',Inv (cxC X N scope cl s3 (upd H2 s2.heap.objs.size (.lst [])) fp) pins σ' H' s'∧tn i s'.heap∧(∀ b ∈ fp,H' b=none)∧W i n σ' H') ?_ m0 ⟨0,_,_,I4',tn4,fun b hb=>(f3 b hb).1,w0⟩
  rintro n s5 ⟨i,σ5,H5,I5,st5,fr5,w5⟩
  rcases turn i n σ5 H5 w5 with ⟨stop,qn⟩ | ⟨go,Nn,hN,step⟩
  ·refine thn (T.done (cxC X N scope cl s3 (upd H2 s2.heap.objs.size (.lst [])) fp) rfl rfl rfl hX i pins s5 σ5 H5 _ I5 (stat fr5) st5 stop) fun r s6 zq=>?_
   obtain ⟨hr,I6⟩:=zq
   subst hr
   obtain ⟨m6,hn6,_⟩:=I6.loc
   have u1:Un (frs X.stack) fp H2 (upd H2 s2.heap.objs.size (.lst [])) s2.heap s3.heap:=Un.laid k23 (Nat.le_refl _) hp
   have u2:Un (frs X.stack) fp H2 H5 s2.heap s6.heap:=u1.trans I6.base
   have neC:∀ b o,s2.heap.get? b=some o→b ≠ s3.heap.objs.size:=fun b o e=>Nat.ne_of_lt (Nat.lt_of_lt_of_le (Heap.lt_size e) sz3)
   have hfree:H5 s3.heap.objs.size=none:=I6.free
   have IX:Inv X pins σ H5 s6:=by
    refine I2.call' (s':=s6) (ch:=fp) (by rw [← hos]; exact I6.os) ⟨fun b o e n hb hx=>?_,fun b o e n hb hx=>?_,u2.free,fun b o e hx=>?_,u2.tups,u2.frzs,u2.tbls⟩ (fun b ob e=>?_) I6.bare fun b hb=>?_
    ·exact u2.keep b o e n hb hx
    ·obtain ⟨sl,e1⟩:=u2.slot b o e n hb hx
     exact ⟨sl,e1⟩
    ·obtain ⟨o',e1⟩:=u2.there b o e hx
     exact ⟨o',e1⟩
    ·exact I6.hok b ob e
    ·obtain ⟨a1,a2,a3,a4,a5,a6⟩:=f2 b hb
     exact ⟨a4,a2,a5,a6⟩
   have lC:∀ b o,s2.heap.get? b=some o→b ≠ s3.heap.objs.size:=neC
   have nL:X.env.locals ≠ s3.heap.objs.size:=Nat.ne_of_lt (Nat.lt_of_lt_of_le I2.lt sz3)
   have nc:∀ x c,X.env.cells.lookup x=some c→c ≠ s3.heap.objs.size:=fun x c e=>by
    obtain ⟨v,o,ho,_⟩:=I2.cell x c e
    exact neC c o ho
   show wpAny _ X.A (assign (.Name x0 pos') X.env (.ref s2.heap.objs.size)) _ _ _
   refine wpAny_assign_Name (store_ok2 IX hN hi0 hx0 (v:=.ref s2.heap.objs.size) rfl (fun s8 I8 ⟨a,sa,ha⟩=>⟨m6,hn6.sameBut sa ?_,fun h9 hs9=>⟨_,H5,?_,qn⟩⟩) hf0)
   ·rcases ha with ha | ha
    ·rw [ha]; exact Ne.symm nL
    ·exact Ne.symm (nc _ _ ha)
   ·exact I8.turned (t':=s8.toks) (it:=s3.heap.objs.size) (fun b o n e=>(hs9.2 b n).trans e) hfree (Ne.symm nL) (.inr (Nat.le_trans I2.sz sz3)) nc fun p hp=>neC p.1 p.2 (I2.pin p hp).1
  ·refine thn (T.item (cxC X N scope cl s3 (upd H2 s2.heap.objs.size (.lst [])) fp) rfl rfl rfl hX i pins s5 σ5 H5 _ I5 (stat fr5) st5 go) fun r s6 zq=>?_
   obtain ⟨u,hr,h6⟩:=zq
   subst hr
   refine thn h6 fun _ s7 zq=>?_
   obtain ⟨x,H7,I7,r7,y7,st7,fr7⟩:=zq
   have I7':=I7.pinned (stat fr7) (T.obj _ _ st7)
   refine noX (thn (hg cl s3 _ fp _ s7 σ5 H7 x u _ I7' r7 (step x H7 y7)) fun _ s8 zq=>?_)
   obtain ⟨σ8,H8,I8,q8⟩:=zq
   refine noX (thn (ht cl s3 _ fp _ s8 σ8 H8 _ I8 q8) fun ok s9 zq=>?_)
   obtain ⟨H9,I9,q9⟩:=zq
   have again:∀ {s':Shared} {σ':L2.St} {H':Hp},Inv (cxC X N scope cl s3 (upd H2 s2.heap.objs.size (.lst [])) fp) (pins ++ pinsAt fp s7.heap) σ' H' s'→Nn σ' H'→
     ∃ m,m < n∧∃ i σ' H',Inv (cxC X N scope cl s3 (upd H2 s2.heap.objs.size (.lst [])) fp) pins σ' H' s'∧tn i s'.heap∧(∀ b ∈ fp,H' b=none)∧W i m σ' H':=fun {s' σ' H'} I' n'=>by
    obtain ⟨m',hm,w'⟩:=hN σ' H' n'
    refine ⟨m',hm,i + 1,σ',H',I'.unpinned,T.keep _ _ _ st7 fun b hb o e=>(I'.pin (b,o) (List.mem_append_right _ (List.mem_append_right _ (mem_pinsAt hb e)))).1,fun b hb=>?_,w'⟩
    obtain ⟨o,e,d⟩:=T.obj _ _ st7 b hb
    exact (I'.pin (b,o) (List.mem_append_right _ (List.mem_append_right _ (mem_pinsAt hb e)))).2.1
   cases ok with
   | false=>exact again I9 q9
   | true=>
    refine noX (thn (he cl s3 _ fp _ s9 σ8 H9 _ I9 q9) fun y s10 zq=>?_)
    obtain ⟨yv,H10,I10,r10,ys,hys,hlt,q10⟩:=zq
    refine noX (thn (mt_append (X:=cxC X N scope cl s3 (upd H2 s2.heap.objs.size (.lst [])) fp) _ s10 σ8 H10 (.ref s2.heap.objs.size) [yv] _ [y] (fun _ H'=>Nn σ8 H') I10 rfl (.cons r10 .nil) ⟨_,ys,yv,rfl,rfl,hys,hlt,q10⟩) fun _ s11 zq=>?_)
    obtain ⟨_,H11,I11,_,q11⟩:=zq
    exact again I11 q11
 exact codeAny_compStart_list loop (T.self X.A 0 _ _ _ tn4 loop)
theorem ss_setC {X:Cx} {E:XK} {elt tg iter:Expr} {ifs:List Expr} {scope:Scope} {pos pos' spos:Pos} {N:List Str} {k i0:Nat} {x0:Str} {caps:List Nat} {it:AM} {g:G} {mt:TM} {me:EM} (hN:X.N.Nodup) (hi0:X.N[i0]?=some x0) (hx0:Loc X.env.scope x0) (hX:X.calm=true) (hxe:∀ e s,¬ X.xe e s) (C:CompScope X N k caps scope)
  (hi:SI X E tg iter it) (hg:∀ cl s0 H0 ex,SG (cxC X N scope cl s0 H0 ex) tg g) (ht:∀ cl s0 H0 ex,SIf (cxC X N scope cl s0 H0 ex) E ifs mt) (he:∀ cl s0 H0 ex,SE (cxC X N scope cl s0 H0 ex) E elt me)
  (hs:autoParam (∀ x,foldedSetIterable iter X.env x=pure x) Au.h4._auto_1) (hsw:autoParam (swapsWith (.ListComp elt [⟨tg,iter,ifs,0⟩] scope pos) (some (.Name x0 pos')) spos.line X.env=pure true) Au.h0._auto_1) (hf0:autoParam (X.fn x0=true ∨ X.env.scope.names.lookup x0=some .local) Au.h7._auto_1):
  SS X E (.Assign [.Name x0 pos'] (.ListComp elt [⟨tg,iter,ifs,0⟩] scope pos) spos) (sSet i0 (eComp it k caps g mt me)):=⟨
 ps_weak (ps_setC hN hi0 hx0 hX hxe C hi.out (g:=uG X.K g) (fun cl s0 H0 ex=>(hg cl s0 H0 ex).out) (tt:=uT X.K E mt) (fun cl s0 H0 ex=>(ht cl s0 H0 ex).out) (te:=uE X.K E me) (fun cl s0 H0 ex=>(he cl s0 H0 ex).out) hs hsw hf0) fun D s H zq=>ex6 zq fun w r S hr hS hp=>
  comp_weak s H _ ⟨w,r,S,hr,hS,hp.bind hS fun d S1 w1 H1 v x1 q1 s1 p1=>Post.ret (b:=FV.nx (s.set i0 (some v))) p1 ⟨_,rfl,(hr.ext x1).set i0 q1⟩ s1⟩⟩
end PD
namespace PD
open PySem PySem.Spec PyProof.Rows L2
def dicOf (S:Sto):D→Option (List (KD × D))
 | .dic kvs=>some kvs
 | .ref n=>match S[n]? with
  | some (.dic kvs)=>some kvs
  | some (.fdic kvs)=>some kvs
  | _=>none
 | _=>none
def getK (kvs:List (KD × D)) (k:KD):Option D:=(kvs.find? fun kv=>decide (kv.1=k)).map (·.2)
section
variable {K:PySem.W.Frag} {w:Wd} {H:Hp} {S:Sto}
theorem dic_at {d:D} {v:V} {kvs:List (KD × D)} (hS:RS K w H S) (q:RD K w H d v) (h:dicOf S d=some kvs):∃ p us,v=.ref p∧Rd H p (.dK us)∧RDk K w H kvs us:=by
 unfold dicOf at h
 split at h
 ·cases h
  unfold RD at q
  obtain ⟨p,us,rfl,z,r⟩:=q
  exact ⟨p,us,rfl,.inl z.1,r⟩
 ·rename_i n
  obtain ⟨p,rfl,hp⟩:=q.refI
  split at h
  ·rename_i e; cases h
   obtain ⟨p',hp',us,hv,r⟩:=hS.obj _ _ e
   rw [hp] at hp'; cases hp'
   exact ⟨p,us,rfl,.inl hv,r⟩
  ·rename_i e; cases h
   obtain ⟨p',hp',o,us,hv,r⟩:=hS.obj _ _ e
   rw [hp] at hp'; cases hp'
   exact ⟨p,us,rfl,.inr ⟨o,hv⟩,r⟩
  ·cases h
 ·cases h
theorem RDk.get (k:KD):∀ {ds:List (KD × D)} {us:List (Key × V)},RDk K w H ds us→(∀ d,getK ds k=some d→∃ v,valV us k=some v∧RD K w H d v)∧(getK ds k=none→valV us k=none)
 | [],us,q=>by
  rw [q.nil_inv]
  exact ⟨fun d h=>(by cases h),fun _=>rfl⟩
 | (j,d) :: ds,_,q=>by
  obtain ⟨v,r,rfl,p,t⟩:=q.cons_inv
  by_cases hj:j=k
  ·have e1:getK ((j,d) :: ds) k=some d:=by unfold getK; rw [List.find?_cons]; simp [hj]
   have e2:valV ((j,v) :: r) k=some v:=by unfold valV; rw [List.find?_cons]; simp [hj]
   rw [e1,e2]
   exact ⟨fun d' h=>by cases h; exact ⟨v,rfl,p⟩,fun h=>by cases h⟩
  ·have e1:getK ((j,d) :: ds) k=getK ds k:=by unfold getK; rw [List.find?_cons]; simp [hj]
   have e2:valV ((j,v) :: r) k=valV r k:=by unfold valV; rw [List.find?_cons]; simp [hj]
   rw [e1,e2]
   exact RDk.get k t
end
section
variable {X:Cx} {E:XK}
theorem xi_or {o o1 o2:Sto→D→D→Option D} (h1:IxR X (xO X.K E o1)) (h2:IxR X (xO X.K E o2)) (h:∀ S x y,o S x y=o1 S x y ∨ o S x y=o2 S x y):IxR X (xO X.K E o):=by
 rintro va sl pins s σ H x y v u Q I rx ry ⟨w,S,d,e,hS,qd,qe,p⟩ hsub
 rcases h S d e with z | z
 ·exact h1 va sl pins s σ H x y v u Q I rx ry ⟨w,S,d,e,hS,qd,qe,z ▸ p⟩ hsub
 ·exact h2 va sl pins s σ H x y v u Q I rx ry ⟨w,S,d,e,hS,qd,qe,z ▸ p⟩ hsub
theorem Room.hu {k:Nat} {A:Around} (r:Room k A):A.units + 1 < cLine:=by have:=r.un; omega
def oGet:Sto→D→D→Option D:=fun S x y=>match dicOf S x,keyD y with
 | some kvs,some k=>getK kvs k
 | _,_=>none
def oIxD:Sto→D→D→Option D:=fun S x y=>if (seqOf S x).isSome then oIx S x y else oGet S x y
theorem xi_get {k:Nat} (hr:Room k X.A):IxR X (xO X.K E oGet):=by
 rintro va sl pins s σ H x y v u Q I rx ry ⟨w,S,d,e,hS,qd,qe,p⟩ hsub
 obtain ⟨z,hz,p⟩:=p.of
 unfold oGet at hz
 split at hz
 ·rename_i kvs k e1 e2
  obtain ⟨pp,us,rfl,rd,rk⟩:=dic_at hS qd e1
  cases rx
  have ey:=keyD_ok qe e2
  subst ey
  obtain ⟨vv,hv,rv⟩:=(rk.get k).1 z hz
  have g:DGet H pp (kV k) (some vv):=.inl ⟨us,k,rd,rfl,hv.symm⟩
  have hT:=dict_typeIs I g
  have h2:wpAny (model X.prog X.w) X.A (getItem (.ref pp) u) (EP X pins σ Q) X.xe s:=d_getItem (Room.hu hr) I g ry fun w' s' I' r'=>⟨vv,H,I',r',p.ret rv hS⟩
  unfold subscriptTail; refine wpAny_bind ?_; rw [getitemInPython_of_ne hT.not_modules]; refine wpAny_bind (wpAny_specialOf hT PySem.F.slot_dict_getitem.lookup ?_)
  have fin:wpAny (model X.prog X.w) X.A (subscripted sl false (.ref pp) u) (fun r s₃=>wpAny (model X.prog X.w) X.A (letTemporaryGo va (.ref pp) r >>= fun _=>pure r) (EP X pins σ Q) X.xe s₃) X.xe s:=by
   rw [hsub]; exact wpAny_operating (wpAny_mono h2 (fun r s₃ h₃=>wpAny_bind (wpAny_letTemporaryGo (wpAny_pure h₃))) fun _ _ x=>x)
  first | exact wpAny_pure (wpAny_bind fin) | exact wpAny_bind (wpAny_pure (wpAny_bind fin)) | exact wpAny_bind fin
 ·cases hz
theorem xi_ixD {k:Nat} (hr:Room k X.A):IxR X (xO X.K E oIxD):=xi_or xi_ix (xi_get hr) fun S x y=>by
 unfold oIxD
 cases (seqOf S x).isSome with
 | true=>exact .inl rfl
 | false=>exact .inr rfl
def fPutK:Sto→D→D→D→Option Sto
 | S,.ref n,y,v=>match S[n]? with
  | some (.dic kvs)=>match keyD y with
   | some k=>if kvs.length < sizeLine then some (S.set n (.dic (putD kvs k v))) else none
   | none=>none
  | _=>none
 | _,_,_,_=>none
def isDic (S:Sto):D→Bool
 | .ref n=>match S[n]? with
  | some (.dic _)=>true
  | _=>false
 | _=>false
def fPutD:Sto→D→D→D→Option Sto:=fun S x y v=>if isDic S x then fPutK S x y v else fPut S x y v
theorem xs_putK {k:Nat} (hr:Room k X.A):PSet X (xS X.K fPutK):=by
 rintro pins s σ H o i v ov iv u Q I ro ri ru ⟨w,S,x,y,z,S',hS,qx,qy,qz,hf,kk⟩
 unfold fPutK at hf
 split at hf
 ·rename_i n
  split at hf
  ·rename_i kvs hn
   split at hf
   ·rename_i ky hk
    split at hf
    ·rename_i hl
     cases hf
     obtain ⟨pp,rfl,hp⟩:=qx.refI
     cases ro
     obtain ⟨p',hp',us,hv,rk⟩:=hS.obj _ _ hn
     rw [hp] at hp'; cases hp'
     have ey:=keyD_ok qy hk
     subst ey
     have hm:pp ∈ w.st:=List.mem_of_getElem? hp
     have hul:us.length < sizeLine:=by rw [rk.length]; exact hl
     refine d_setItem (Room.hu hr) I (DPut.k hv hul) ri ru fun s' I'=>⟨_,I',kk w _ (Ext.mut hm hv) (hS.mut hp hv ⟨_,upd_same,?_⟩)⟩
     exact RDk.ext (Ext.mut hm hv) _ _ (rk.put ky qz)
    ·cases hf
   ·cases hf
  ·cases hf
 ·cases hf
theorem xs_or {f f1 f2:Sto→D→D→D→Option Sto} (h1:PSet X (xS X.K f1)) (h2:PSet X (xS X.K f2)) (h:∀ S x y v,f S x y v=f1 S x y v ∨ f S x y v=f2 S x y v):PSet X (xS X.K f):=by
 rintro pins s σ H o i v ov iv u Q I ro ri ru ⟨w,S,x,y,z,S',hS,qx,qy,qz,hf,kk⟩
 rcases h S x y z with e | e
 ·exact h1 pins s σ H o i v ov iv u Q I ro ri ru ⟨w,S,x,y,z,S',hS,qx,qy,qz,e ▸ hf,kk⟩
 ·exact h2 pins s σ H o i v ov iv u Q I ro ri ru ⟨w,S,x,y,z,S',hS,qx,qy,qz,e ▸ hf,kk⟩
theorem xs_putD {k:Nat} (hr:Room k X.A):PSet X (xS X.K fPutD):=xs_or (xs_putK hr) xs_put fun S x y v=>by
 unfold fPutD
 cases isDic S x with
 | true=>exact .inl rfl
 | false=>exact .inr rfl
def eGet2 (o a b:EM):EM:=fun r S=>(o r S).bind fun d S1=>if (dicOf S1 d).isSome=true then (a r S1).bind fun y S2=>(b r S2).bind fun z S3=>(match dicOf S3 d,keyD y with
  | some kvs,some k=>R.ok ((getK kvs k).getD z) S3
  | _,_=>R.bad) else R.bad
theorem m2_mk {o e f:Expr} {m:Str} {apos cpos:Pos} (h1:attributeBase o m X.env (eval o X.env)=eval o X.env) (h2:((backTo cpos (starEach [e,f] X.env)).all (fun x=>!x.1) && (backToKw cpos (keywordEach [] X.env)).all (fun x=>x.1.isSome)
  && decide (([e,f]:List Expr).length + ([]:List Keyword).length + (if ([]:List Keyword).isEmpty then 0 else 1) < 30))=true) (h3:(apos.endLine == cpos.line)=true) (h4:backTo cpos (starEach [e,f] X.env)=[(false,eval e X.env),(false,eval f X.env)]):M2 X o m apos e f cpos:=⟨h1,h2,h3,h4⟩
theorem se_get2 {o e f:Expr} {mo ma mb:EM} {apos cpos:Pos} {k:Nat} (hr:Room k X.A) (ho:SE X E o mo) (ha:SE X E e ma) (hb:SE X E f mb) (m:M2 X o "get" apos e f cpos):SE X E (.Call (.Attribute o "get" apos) [e,f] [] cpos) (eGet2 mo ma mb):=⟨
 pe_weak (pe_dget2 (Room.hu hr) ho.out ha.out hb.out m) fun s H Q zq=>ex6 zq fun w r S hrr hS hp=>⟨w,r,S,hrr,hS,hp.bind hS fun d S1 w1 H1 v x1 q1 s1 p1=>by
  cases hd:dicOf S1 d with
  | none=>rw [hd] at p1; exact p1.elim
  | some kvs=>
   rw [hd] at p1
   obtain ⟨pp,us,rfl,rd,rk⟩:=dic_at s1 q1 hd
   refine ⟨pp,rfl,.inl ⟨us,rd⟩,w1,r,S1,hrr.ext x1,s1,Post.bind (rel:=RD X.K) p1 s1 fun y S2 w2 H2 vy x2 q2 s2 p2=>⟨w2,r,S2,(hrr.ext x1).ext x2,s2,Post.bind (rel:=RD X.K) p2 s2 fun z S3 w3 H3 vz x3 q3 s3 p3=>?_⟩⟩
   have q1':=RD.ext x3 _ _ (RD.ext x2 _ _ q1)
   have q2':=RD.ext x3 _ _ q2
   cases hd3:dicOf S3 d with
   | none=>rw [hd3] at p3; exact p3.elim
   | some kvs3=>
    cases hk:keyD y with
    | none=>rw [hd3,hk] at p3; exact p3.elim
    | some ky=>
     rw [hd3,hk] at p3
     obtain ⟨pp3,us3,e3,rd3,rk3⟩:=dic_at s3 q1' hd3
     cases e3
     have ey:=keyD_ok q2' hk
     subst ey
     refine ⟨valV us3 ky,.inl ⟨us3,ky,rd3,rfl,rfl⟩,?_⟩
     obtain ⟨g1,g2⟩:=rk3.get ky
     have p4:Post X.K E (RD X.K) w3 H3 (R.ok ((getK kvs3 ky).getD z) S3) Q:=p3
     cases hg:getK kvs3 ky with
     | none=>rw [hg] at p4; rw [g2 hg]; exact Post.ret p4 q3 s3
     | some dd=>rw [hg] at p4; obtain ⟨vd,hv,rv⟩:=g1 dd hg; rw [hv]; exact Post.ret p4 rv s3⟩⟩
end
end PD
namespace L2
open PySem PySem.Spec PyProof.Rows
theorem kV_of_is {P:Program} {w:World} {k:Key} {u:Value} (h:(mixKind P w).is k u=true):RelV (kV k) u:=by
 rw [mixKind_is] at h
 cases k with
 | inl i=>obtain ⟨t,e⟩:=Value.isInt_shape (k:=i) (v:=u) h; exact ⟨t,e⟩
 | inr x=>obtain ⟨t,e⟩:=Value.isStrOf_shape (x:=x) (v:=u) h; exact ⟨t,e⟩
theorem KV.getI {kvs:List (Key × V)} {vs:List (Key × Value)} (r:KV kvs vs) {i:Nat} {k:Key} {x:V} (h:kvs[i]?=some (k,x)):∃ v,vs[i]?=some (k,v)∧RelV x v:=by
 unfold KV at r
 induction r generalizing i with
 | nil=>simp at h
 | cons hd tl ih=>
  cases i with
  | zero=>
   simp at h
   rename_i p q _ _
   obtain ⟨e,rv⟩:=hd
   subst h
   exact ⟨q.2,by simp; exact Prod.ext e.symm rfl,rv⟩
  | succ i=>simpa using ih (by simpa using h)
def Iti (a:Addr) (o:Obj) (us:List (Key × V)):It:=
  ⟨fun i H=>H a=some (.frz o (.dK us))∧∃ kv,us[i]?=some kv,
   fun i H v H'=>∃ p k x,v=.ref p∧H p=none∧H'=upd H p (.tup [kV k,x])∧us[i]?=some (k,x),
   fun i H=>H a=some (.frz o (.dK us))∧us.length≤i⟩
theorem frz_at {X:Cx} {pins:List (Addr × Obj)} {σ:St} {H:Hp} {s:Shared} {a:Addr} {o:Obj} {us:List (Key × V)} {es:Array DictEntry} {ep:Nat} (I:Inv X pins σ H s) (h:H a=some (.frz o (.dK us))) (ed:o.data=.dict es ep):
  ∃ vs,KV us vs∧s.heap.DictAt (mixKind X.prog X.w) a vs ep∧(a == sysModules)=false:=by
 obtain ⟨e,z,hd,vs,rel,⟨o',es',ep',ho,hx,hdat,k1,k2,k3⟩⟩:s.heap.get? a=some o∧ObjOk X.prog X.w H s.heap a (.dK us):=I.hok a _ h
 rw [e] at ho; cases ho
 rw [ed] at hdat; cases hdat
 exact ⟨vs,rel,⟨o,es,e,hx,ed,k1,k2,k3⟩,hd⟩
theorem entry_itemit:entryFor table "dict_itemiterator.__iter__" = some Builtin.«dict_keyiterator.__iter__»:=
 entryFor_alias (id':="dict_keyiterator.__iter__") (by kernel_rfl) (by first | rfl | decide +kernel | (unfold String.splitOn; simp +decide [String.splitOnAux])) (by decide +kernel) (by kernel_rfl)
theorem iter_itemit {prog:Program} {w:World} {A:Around} {E:Value→Shared→Prop} {s:Shared} {it d:Addr} {i n ep:Nat} {ok ov:Value} {Q:Value→Shared→Prop} (hz:IsItemIter s.heap it d i n ep ok ov) (h:Q (.ref it) s):wpAny (model prog w) A (pyIter (.ref it)) Q E s:=by
 have hT:s.TypeIs (.ref it) "dict_itemiterator":=⟨_,hz,rfl⟩
 refine wpAny_pyIter_slot hT F.slot_dict_itemiterator_iter (wpAny_call_entry F.slot_dict_itemiterator_iter hT entry_itemit ?_ (F.args_dict_itemiterator_iter_1 _))
 show wpAny _ _ (ret (.ref it)) _ _ s
 exact wpAny_pure ⟨_,rfl,"dict_itemiterator",_,hT,F.slot_dict_itemiterator_next.lookup,h⟩
theorem turn_items {P:Program} {w:World} {K:PySem.W.Frag} {es:List Expr} {n:Nat} {pos:Pos} (it a:Addr) (o:Obj) (us:List (Key × V)) (ee:Array DictEntry) (ep:Nat) (ed:o.data=.dict ee ep) (na:a ≠ it):
  Turn P w K (.Tuple es n pos) (Iti a o us) [it] it (fun i h=>∃ ok ov,IsItemIter h it a i us.length ep ok ov) where
 mem:=by simp
 obj:=fun i h ⟨ok,ov,st⟩ c hc=>by
  simp only [List.mem_cons,List.not_mem_nil,or_false] at hc
  subst hc
  exact ⟨_,st,fun v z=>by cases z⟩
 keep:=fun i h h' ⟨ok,ov,st⟩ q=>⟨ok,ov,q it (by simp) _ st⟩
 item:=by
  intro X hP hw hK hc i pins s σ H E I hf ⟨ok,ov,st⟩ hg
  subst hP hw hK
  obtain ⟨ha,⟨k,x⟩,hx⟩:=hg
  obtain ⟨vs,rel,dd,_⟩:=frz_at I ha ed
  obtain ⟨v,hv,rv⟩:=rel.getI hx
  have hl:=rel.length
  rw [hl] at st
  have hlt:∀ c ∈ [it],c < s.heap.objs.size:=fun c hc=>by
   simp only [List.mem_cons,List.not_mem_nil,or_false] at hc
   subst hc
   exact Heap.lt_size st
  refine wpAny_pyNext_items_item st dd hv fun key h' hk a1 a2 a3 a4=>⟨_,rfl,?_⟩
  refine wpAny_letOwnedTupleGo_items (s:={ s with heap:=h' }) a1 fun h2' hz' hs'=>?_
  have up:∀ c ob,c ≠ it→h'.get? c=some ob→h2'.get? c=some ob:=fun c ob n q=>SQ.sb hs' n q
  refine ⟨.ref s.heap.objs.size,_,I.turnedP (t':=s.toks) (h':=h2') hf hlt (kV_of_is hk) rv (fun c ob hc q=>up c ob (fun r=>hc (by simp [r])) (a4 c ob (fun r=>hc (by simp [r])) q)) (up _ _ (Nat.ne_of_gt (Heap.lt_size st)) a2),rfl,
   ⟨_,k,x,rfl,I.fresh,rfl,hx⟩,⟨_,_,by rw [hl]; exact hz'⟩,fp_none hf hlt⟩
 done:=by
  intro X hP hw hK hc i pins s σ H E I hf ⟨ok,ov,st⟩ hg
  subst hP hw hK
  obtain ⟨ha,hx⟩:=hg
  obtain ⟨vs,rel,dd,_⟩:=frz_at I ha ed
  have hl:=rel.length
  rw [hl] at st
  exact wpAny_pyNext_items_end (I.ok.hd hc) st dd (by simp; omega) fun h' eb=>⟨rfl,I.turnedS (t':=s.toks) (fun b ob hb q=>eb b ob (fun r=>hb (by simp [r])) q) hf⟩
 self:=fun _ _ _ _ _ ⟨_,_,st⟩ h=>iter_itemit st h
theorem Inv.freeze {X:Cx} {pins:List (Addr × Obj)} {σ:St} {H:Hp} {s:Shared} {a:Addr} {us:List (Key × V)} (I:Inv X pins σ H s) (h:H a=some (.dK us)):∃ o,Inv X pins σ (upd H a (.frz o (.dK us))) s:=by
 obtain ⟨z,hd,vs,rel,⟨o,es,ep,ho,r⟩⟩:ObjOk X.prog X.w H s.heap a (.dK us):=I.hok a _ h
 have I2:Inv X pins σ (upd H a (.frz o (.dK us))) { s with heap:=s.heap,toks:=s.toks }:=I.write (x:=a) (e:=a) (by rw [h]; exact True.intro) (.inl rfl) (fun b u _ q=>q) ⟨o,ho⟩ ⟨ho,z,hd,vs,rel,⟨o,es,ep,ho,r⟩⟩
 exact ⟨o,I2⟩
def iItems (td:TE):TI:=fun σ H R=>td σ H fun x H1=>∃ a us,x=.ref a∧((H1 a=some (.dK us)∧∀ o,R (Iti a o us) (upd H1 a (.frz o (.dK us)))) ∨ ∃ o,H1 a=some (.frz o (.dK us))∧R (Iti a o us) H1)
theorem pi_items {X:Cx} {es:List Expr} {n:Nat} {tp:Pos} {d:Expr} {td:TE} {apos pos:Pos} (hd:PE X d td) (hbase:autoParam (attributeBase d "items" X.env (eval d X.env)=eval d X.env) Au.h0._auto_1) (hline:autoParam ((apos.endLine == pos.line)=true) Au.h0._auto_1)
  (hfew:autoParam (((backTo pos (starEach [] X.env)).all (fun x=>!x.1) && (backToKw pos (keywordEach [] X.env)).all (fun x=>x.1.isSome) && decide (([]:List Expr).length + ([]:List Keyword).length + (if ([]:List Keyword).isEmpty then 0 else 1) < 30))=true) Au.h0._auto_1):
  PI X (.Tuple es n tp) (.Call (.Attribute d "items" apos) [] [] pos) (iItems td):=by
 intro pins s σ H R I h
 refine wpAny_Call_method (T:="dict") (id:="dict.items") hbase hfew hline F.plainAttrs_dict F.slot_dict_items F.type_dict_items (thn (hd pins s σ H _ I h) fun u s1 zq=>?_)
 obtain ⟨x,H1,I1,rx,a,us,ex,q1⟩:=zq
 subst ex
 obtain rfl:u=Value.ref a:=rx
 have main:∀ (H2:Hp) (o:Obj),Inv X pins σ H2 s1→H2 a=some (.frz o (.dK us))→R (Iti a o us) H2→s1.TypeIs (.ref a) "dict"∧(∀ b,Value.ref a=.ref b→∃ ob,s1.heap.get? b=some ob∧ob.dict=none)∧
   wpAny (model X.prog X.w) X.A (callWith pos (.builtin "dict.items") [.ref a] (backTo pos (starEach [] X.env)) []) (fun v s2=>wpAny (model X.prog X.w) X.A (pyIter v) (PIE X pins σ (.Tuple es n tp) R) X.xe s2) X.xe s1:=fun H2 o I2 hH2 q=>by
  obtain ⟨t1,t2,t3⟩:=isD_at I2 (a:=a) (.inl ⟨us,.inr ⟨o,hH2⟩⟩)
  refine ⟨t1,t2,?_⟩
  obtain ⟨eo,z,hdd,vs,rel,⟨o',ee,ep,ho,hx,hdat,k1,k2,k3⟩⟩:s1.heap.get? a=some o∧ObjOk X.prog X.w H2 s1.heap a (.dK us):=I2.hok a _ hH2
  rw [eo] at ho; cases ho
  have dat:s1.heap.DictAt (mixKind X.prog X.w) a vs ep:=⟨o,ee,eo,hx,hdat,k1,k2,k3⟩
  show wpAny _ _ (callWith pos (.builtin "dict.items") [.ref a] [] []) _ _ s1
  refine method_meetsIn F.slot_dict_items F.entry_dict_items rfl (PySem.evalArgs_none ⟨rfl,t1,F.args_dict_items_1 _,_,meets_dict_items (mixKind X.prog X.w) a t3,⟨vs,dat.dictOf⟩,?_⟩)
  have I3:Inv X pins σ H2 { s1 with heap:=s1.heap.push { cls:=.type "dict_items",data:=.fields #[.ref a] } }:=I2.kept (t':=s1.toks) fun b u e=>Heap.get?_push_of_some _ e
  refine wpAny_pyIter_items (s:={ s1 with heap:=s1.heap.push { cls:=.type "dict_items",data:=.fields #[.ref a] } }) ⟨_,Heap.get?_push_size _ rfl,rfl,rfl⟩ (dat.push _) ?_
  have hl:=rel.length
  have la:a < s1.heap.objs.size:=Heap.lt_size eo
  have sz:({ s1 with heap:=s1.heap.push { cls:=.type "dict_items",data:=.fields #[.ref a] } }:Shared).heap.objs.size=s1.heap.objs.size + 1:=Heap.size_push ..
  refine ⟨_,[_],_,_,H2,rfl,I3.kept (t':=s1.toks) fun b u e=>Heap.get?_push_of_some _ e,turn_items _ a o us ee ep hdat (by rw [sz]; exact Nat.ne_of_lt (Nat.lt_succ_of_lt la)),⟨.none,.none,by rw [hl]; exact Heap.get?_push_size _ rfl⟩,fun c hc=>?_,q⟩
  have ec:c=({ s1 with heap:=s1.heap.push { cls:=.type "dict_items",data:=.fields #[.ref a] } }:Shared).heap.objs.size:=by simpa using hc
  subst ec
  exact I3.fpOk (Nat.le_refl _) (I3.hok.fresh (Nat.le_refl _))
 rcases q1 with ⟨hH,q⟩ | ⟨o,hH,q⟩
 ·obtain ⟨o,I2⟩:=I1.freeze hH
  exact main _ o I2 upd_same (q o)
 ·exact main _ o I1 hH q
end L2
namespace PD
open PySem PySem.Spec PyProof.Rows L2
def kD:KD→D
 | .inl i=>.int i
 | .inr x=>.str x
def pairD (kv:KD × D):D:=.tup [kD kv.1,kv.2]
def aItems (m:EM):AM:=fun r S=>(m r S).bind fun d S1=>match d with
 | .ref n=>match S1[n]? with
  | some (.dic kvs)=>.ok (kvs.map pairD) (S1.set n (.fdic kvs))
  | some (.fdic kvs)=>.ok (kvs.map pairD) S1
  | _=>.bad
 | _=>.bad
theorem RDk.getI {K:PySem.W.Frag} {w:Wd} {H:Hp}:∀ {ds:List (KD × D)} {us:List (Key × V)} {i:Nat} {k:KD} {d:D},RDk K w H ds us→ds[i]?=some (k,d)→∃ v,us[i]?=some (k,v)∧RD K w H d v
 | [],_,_,_,_,_,h=>by simp at h
 | (j,e) :: ds,_,i,k,d,q,h=>by
  obtain ⟨v,r,rfl,p,t⟩:=q.cons_inv
  cases i with
  | zero=>simp at h; obtain ⟨rfl,rfl⟩:=h; exact ⟨v,by simp,p⟩
  | succ i=>simpa using RDk.getI t (by simpa using h)
theorem kD_rel {K:PySem.W.Frag} {w:Wd} {H:Hp} (k:KD):RD K w H (kD k) (kV k):=by
 cases k with
 | inl i=>unfold kD RD; rfl
 | inr x=>unfold kD RD; rfl
theorem ri_items {K:PySem.W.Frag} {w:Wd} {H:Hp} {a:Addr} {o:Obj} {kvs:List (KD × D)} {us:List (Key × V)} (hst:∀ w' H',Ext w H w' H'→H' a=some (.frz o (.dK us))) (rk:RDk K w H kvs us):RI K w H (kvs.map pairD) (Iti a o us):=by
 intro i w' H' x'
 have rk':=RDk.ext x' _ _ rk
 have hl:=rk.length
 have ha:=hst w' H' x'
 refine ⟨fun hi=>?_,fun hi=>⟨ha,by rw [List.length_map] at hi; omega⟩⟩
 rw [List.length_map] at hi
 refine ⟨⟨ha,us[i]'(by omega),List.getElem?_eq_getElem _⟩,fun v H'' y=>?_⟩
 obtain ⟨p,k,x,rfl,hp,rfl,hx⟩:=y
 obtain ⟨v2,e2,r2⟩:=rk'.getI (i:=i) (k:=kvs[i].1) (d:=kvs[i].2) (by rw [List.getElem?_eq_getElem hi])
 rw [hx] at e2
 cases e2
 refine ⟨.inr ⟨p,_,hp,rfl⟩,fun S hS=>⟨pairD kvs[i],by simp [hi],?_⟩⟩
 unfold pairD RD
 refine ⟨p,[kV kvs[i].1,x],rfl,.inl ⟨upd_same,hS.fresh hp⟩,?_⟩
 unfold RDs RDs RDs
 exact ⟨_,_,rfl,kD_rel _,_,_,rfl,RD.ext (Ext.new hp) _ _ r2,rfl⟩
section
variable {X:Cx} {E:XK}
theorem si_items {es:List Expr} {n:Nat} {tp:Pos} {d:Expr} {md:EM} {apos pos:Pos} (ha:SE X E d md) (hbase:autoParam (attributeBase d "items" X.env (eval d X.env)=eval d X.env) Au.h0._auto_1) (hline:autoParam ((apos.endLine == pos.line)=true) Au.h0._auto_1)
  (hfew:autoParam (((backTo pos (starEach [] X.env)).all (fun x=>!x.1) && (backToKw pos (keywordEach [] X.env)).all (fun x=>x.1.isSome) && decide (([]:List Expr).length + ([]:List Keyword).length + (if ([]:List Keyword).isEmpty then 0 else 1) < 30))=true) Au.h0._auto_1):
  SI X E (.Tuple es n tp) (.Call (.Attribute d "items" apos) [] [] pos) (aItems md):=⟨
 pi_weak (pi_items ha.out hbase hline hfew) fun s H Q zq=>ex6 zq fun w r S hr hS hp=>⟨w,r,S,hr,hS,hp.bind hS fun d S1 w1 H1 v x1 q1 s1 p1=>by
  cases d with
  | ref m=>
   obtain ⟨pp,rfl,hp⟩:=q1.refI
   have hm:pp ∈ w1.st:=List.mem_of_getElem? hp
   cases e:S1[m]? with
   | none=>simp only [e] at p1; exact p1.elim
   | some ob=>
    obtain ⟨p',hp',ro⟩:=s1.obj _ _ e
    rw [hp] at hp'; cases hp'
    cases ob with
    | dic kvs=>
     simp only [e] at p1
     obtain ⟨us,hv,rk⟩:=ro
     refine ⟨pp,us,rfl,.inl ⟨hv,fun o=>?_⟩⟩
     have rk':=RDk.ext (Ext.mut hm hv (o:=.frz o (.dK us))) _ _ rk
     exact Post.at p1 (Ext.mut hm hv) (ri_items (fun w' H' x'=>x'.frz _ _ _ upd_same) rk') (s1.mut hp hv ⟨o,us,upd_same,rk'⟩)
    | fdic kvs=>
     simp only [e] at p1
     obtain ⟨o,us,hv,rk⟩:=ro
     exact ⟨pp,us,rfl,.inr ⟨o,hv,Post.ret p1 (ri_items (fun w' H' x'=>x'.frz _ _ _ hv) rk) s1⟩⟩
    | lst xs=>simp only [e] at p1; exact p1.elim
    | ins c fs=>simp only [e] at p1; exact p1.elim
    | flst xs=>simp only [e] at p1; exact p1.elim
  | _=>exact p1.elim⟩⟩
end
end PD
namespace PD
open PySem PySem.Spec PyProof.Rows L2
def TupAt (K:PySem.W.Frag) (mg:Str→Option Value) (x:Str) (is:List Int):Prop:=∃ a,mg x=some (.ref a)∧KTup K a (is.map .int)
section
variable {X:Cx} {E:XK}
theorem rdi {K:PySem.W.Frag} {w:Wd} {H:Hp}:∀ is:List Int,RDs K w H (is.map .int) (is.map .int)
 | []=>.nil
 | i :: is=>.cons (by unfold RD; rfl) (rdi is)
theorem se_gt {x:Str} {is:List Int} {pos:Pos} (h:TupAt X.K X.mg x is) (hg:Gl X x) (hd:autoParam ((x == ("__debug__":Str))=false) Au.h3._auto_1):SE X E (.Name x pos) (eC (.tup (is.map .int))):=by
 obtain ⟨a,hm,k⟩:=h
 exact se_c (pe_glob hg hm (v:=.ref a) rfl hd) fun _ _=>by unfold RD; exact ⟨a,_,rfl,.inr k,rdi is⟩
end
theorem tup2_mk {K:PySem.W.Frag} {h:Heap} {mg:Str→Option Value} (X:K.In h) (G:h.Ns mainGlobals mg) {x:Str} {a:Addr} {od:Option Addr} {n:Nat} {sl:Array (Option Value)} {i j:Int} {t1 t2:Tok} (hn:PySem.W.nsIn K mainGlobals x=some (some (.ref a))) (hl:K.lookup a=some ⟨.type "tuple",od,.seq #[.int i t1,.int j t2] n,sl⟩):TupAt K mg x [i,j]:=
 ⟨a,PySem.W.mg_of X G hn,_,_,n,hl,rfl,rfl,by show 2≤sizeLine; decide,.cons ⟨t1,rfl⟩ (.cons ⟨t2,rfl⟩ .nil)⟩
section
variable {K:PySem.W.Frag} {w:Wd} {H:Hp}
theorem Mv.adopt {p:Addr} {o:HO} (hh:p ∈ w.hid):Mv w H ((w.unhide p).add p) (upd H p o):=
  ⟨fun n a h=>by
      show (w.st ++ [p])[n]?=some a
      rw [List.getElem?_append_left (List.getElem?_eq_some_iff.mp h).1]; exact h,
   fun a u h=>⟨by rw [upd_ne (fun z:a=p=>h.2.2 (z ▸ hh))]; exact h.1,fun z=>by
      rcases List.mem_append.mp z with z | z
      · exact h.2.1 z
      · exact h.2.2 (by rw [List.mem_singleton.mp z]; exact hh),fun z=>h.2.2 (Wd.mem_unhide z).1⟩⟩
theorem RS.adopt {p:Addr} {o:HO} {so:SO} {S:Sto} (s:RS K w H S) (hh:p ∈ w.hid) (r:RO K ((w.unhide p).add p) (upd H p o) p so):RS K ((w.unhide p).add p) (upd H p o) (S ++ [so]):=by
 have np:=(s.hid p hh).1
 refine ⟨?_,by simp [Wd.add,Wd.unhide,s.len],fun n so' e=>?_,fun a ha=>?_⟩
 ·show (w.st ++ [p]).Nodup
  rw [List.nodup_append]
  exact ⟨s.nd,by simp,fun a ha b hb=>by
   have:b=p:=by simpa using hb
   subst this
   rintro rfl
   exact np ha⟩
 ·by_cases hn:n < S.length
  ·rw [List.getElem?_append_left hn] at e
   obtain ⟨a,ha,q⟩:=s.obj n so' e
   have ne:a ≠ p:=fun z=>np (z ▸ List.mem_of_getElem? ha)
   exact ⟨a,(Mv.adopt (H:=H) (o:=o) hh).st n a ha,q.mv (Mv.adopt hh) fun u z=>by rw [upd_ne ne]; exact z⟩
  ·have hn':n=S.length:=by
    have:=(List.getElem?_eq_some_iff.mp e).1
    simp at this; omega
   subst hn'
   simp at e; subst e
   exact ⟨p,by show (w.st ++ [p])[S.length]?=some p; rw [← s.len]; simp,r⟩
 ·obtain ⟨h1,h2⟩:=Wd.mem_unhide ha
  obtain ⟨h3,u,e⟩:=s.hid a h1
  refine ⟨?_,u,by rw [upd_ne h2]; exact e⟩
  show a ∉ w.st ++ [p]
  intro z
  rcases List.mem_append.mp z with z | z
  ·exact h3 z
  ·exact h2 (by simpa using z)
end
section
variable {X:Cx} {E:XK} {pos:Pos}
theorem se_dicN {keys:List (Option Expr)} {values:List Expr} {ms:List (EM × EM)} (h:SPs X E pos keys values ms) (hall:autoParam (keys.all (·.isSome)=true) Au.h0._auto_1) (hl:autoParam (keys.length=values.length) Au.h0._auto_1) (h0:keys ≠ []:=by intro z; cases z) (h15:autoParam (keys.length≤15) Au.h3._auto_1):
  SE X E (.Dict keys values pos) (eDicN ms):=⟨
 pe_weak (pe_disp h.out hall hl h0 h15) fun s H Q q=>disp_core (keys:=keys) (values:=values) (m:=eDicN ms) (fin:=fun kvs S1=>R.ok (D.ref S1.length) (S1 ++ [SO.dic (mergeD [] kvs)])) (fun r S=>rfl) (fun kvs us w0 w H0 H S0 S p hp s0 s x hh rk p1=>by
  have hpn:=(s.hid p hh).1
  refine Post.at p1 (w1:=(w.unhide p).add p) ⟨fun a o h n=>by rw [upd_ne (ne_of_none h hp)]; exact x.keep a o h n,?_,fun a h=>List.mem_filter.mpr ⟨x.hid a h,decide_eq_true fun z=>(s0.fresh hp).2 (z ▸ h)⟩,fun a h=>x.hnew a (Wd.mem_unhide h).1,fun a o u h=>by rw [upd_ne (ne_of_none h hp)]; exact x.frz a o u h⟩ ?_ (s.adopt hh ⟨_,upd_same,RDk.mv (Mv.adopt hh) _ _ rk⟩)
  ·obtain ⟨l,e,f⟩:=x.sub
   exact ⟨l ++ [p],by show w.st ++ [p]=_; rw [e,List.append_assoc],fun a ha=>(List.mem_append.mp ha).elim (f a) fun z=>by rw [List.mem_singleton.mp z]; exact hp⟩
  ·unfold RD
   exact ⟨p,rfl,by show (w.st ++ [p])[S.length]?=some p; rw [← s.len]; simp⟩) q⟩
def eDicE:EM:=fun _ S=>.ok (.ref S.length) (S ++ [.dic []])
theorem se_dicE:SE X E (.Dict [] [] pos) eDicE:=⟨
 pe_weak pe_dnewK fun s H Q zq=>ex6 zq fun w r S hr hS hp=>fun p hpn=>Post.at hp (Ext.alloc hpn) hS.lastRef (hS.alloc hpn ⟨[],upd_same,RDk.nil⟩)⟩
end
end PD
namespace PD
open PySem PySem.Spec PyProof.Rows L2
def minZ:Int→List Int→Int
 | m,[]=>m
 | m,x :: r=>minZ (if x < m then x else m) r
theorem minZ_le:∀ (l:List Int) (m:Int),(minZ m l≤m∧∀ x ∈ l,minZ m l≤x)∧(minZ m l=m ∨ minZ m l ∈ l)
 | [],m=>⟨⟨Int.le_refl _,fun x h=>nomatch h⟩,.inl rfl⟩
 | x :: r,m=>by
  obtain ⟨⟨h1,h2⟩,h3⟩:=minZ_le r (if x < m then x else m)
  show (minZ (if x < m then x else m) r≤m∧∀ y ∈ x :: r,minZ (if x < m then x else m) r≤y)∧(minZ (if x < m then x else m) r=m ∨ minZ (if x < m then x else m) r ∈ x :: r)
  generalize minZ (if x < m then x else m) r=z at *
  by_cases hx:x < m
  ·rw [if_pos hx] at h1 h3
   refine ⟨⟨by omega,fun y hy=>?_⟩,.inr ?_⟩
   ·rcases List.mem_cons.mp hy with e | hy
    ·rw [e]; exact h1
    ·exact h2 y hy
   ·rcases h3 with e | h3
    ·rw [e]; exact .head _
    ·exact .tail _ h3
  ·rw [if_neg hx] at h1 h3
   refine ⟨⟨h1,fun y hy=>?_⟩,?_⟩
   ·rcases List.mem_cons.mp hy with e | hy
    ·rw [e]; omega
    ·exact h2 y hy
   ·rcases h3 with e | h3
    ·exact .inl e
    ·exact .inr (.tail _ h3)
def isLst (S:Sto):D→Option (List D)
 | .lst a=>some a
 | .ref n=>match S[n]? with
  | some (.lst a)=>some a
  | _=>none
 | _=>none
section
variable {X:Cx} {E:XK}
theorem lst_at {K:PySem.W.Frag} {w:Wd} {H:Hp} {S:Sto} {d:D} {v:V} {a:List D} (s:RS K w H S) (q:RD K w H d v) (h:isLst S d=some a):∃ p vs,v=.ref p∧SqL K H p vs∧RDs K w H a vs:=by
 unfold isLst at h
 split at h
 ·cases h; obtain ⟨p,vs,e,z,r⟩:=q.lstI; exact ⟨p,vs,e,SqL.of z.1,r⟩
 ·rename_i n
  split at h
  ·rename_i e; cases h
   obtain ⟨p,rfl,hp⟩:=q.refI
   obtain ⟨p',hp',vs,hv,r⟩:=s.obj _ _ e
   rw [hp] at hp'; cases hp'
   exact ⟨p,vs,rfl,SqL.of hv,r⟩
  ·cases h
 ·cases h
end
end PD
namespace L2
open PySem PySem.Spec PyProof.Rows
section
variable {X:Cx} {tg:Expr}
end
end L2
namespace PD
open PySem PySem.Spec PyProof.Rows L2
section
variable {X:Cx} {E:XK} {a b c:Expr} {pos:Pos}
end
end PD
namespace PySem
open PyProof.Rows
namespace F
end F
section
variable {prog:Program} {w:World} {A:Around} {E:Value→Shared→Prop} {s:Shared}
end
end PySem
namespace L2
open PySem PySem.Spec PyProof.Rows
section
variable {X:Cx} {tg:Expr}
end
end L2
namespace PD
open PySem PySem.Spec PyProof.Rows L2
section
variable {X:Cx} {E:XK} {a:Expr} {pos:Pos}
end
end PD
namespace PD
open PySem PySem.Spec PyProof.Rows L2
section
variable {X:Cx} {E:XK} {pos:Pos}
theorem se_dic0:SE X E (.Dict [] [] pos) (eDic []):=⟨
 pe_weak pe_dnewK fun s H Q zq=>ex6 zq fun w r S hr hS hp=>fun p hpn=>Post.at (show Post X.K E (RD X.K) w H (R.ok (D.dic []) S) Q from hp) (Ext.new hpn) (by unfold RD; exact ⟨p,[],rfl,⟨upd_same,hS.fresh hpn⟩,RDk.nil⟩) (hS.new hpn)⟩
end
end PD
namespace L2
open PySem PySem.Spec PyProof.Rows
def Itk (a:Addr) (o:Obj) (us:List (Key × V)):It:=
  ⟨fun i H=>H a=some (.frz o (.dK us))∧∃ kv,us[i]?=some kv,
   fun i H v H'=>H'=H∧∃ k x,v=kV k∧us[i]?=some (k,x),
   fun i H=>H a=some (.frz o (.dK us))∧us.length≤i⟩
theorem turn_keys {P:Program} {w:World} {K:PySem.W.Frag} {tg:Expr} (it a:Addr) (o:Obj) (us:List (Key × V)) (ee:Array DictEntry) (ep:Nat) (ed:o.data=.dict ee ep):
  Turn P w K tg (Itk a o us) [it] it (fun i h=>h.IsKeyIter it a i us.length ep) where
 mem:=by simp
 obj:=fun i h st b hb=>by
  have e:b=it:=by simpa using hb
  subst e
  obtain ⟨ob,e,c,d⟩:=st
  exact ⟨ob,e,fun v z=>by rw [d] at z; cases z⟩
 keep:=fun i h h' st k=>st.at fun ob e=>k it (by simp) ob e
 item:=by
  intro X hP hw hK hc i pins s σ H E I hf st hg
  subst hP hw hK
  obtain ⟨ha,⟨k,x⟩,hx⟩:=hg
  obtain ⟨vs,rel,dd,_⟩:=frz_at I ha ed
  obtain ⟨v,hv,rv⟩:=rel.getI hx
  have hl:=rel.length
  rw [hl] at st
  obtain ⟨f0,f1,f2,f3,f4,f5⟩:=hf it (by simp)
  refine wpAny_pyNext_dict_item st dd hv fun key h' hk st' sb=>?_
  have I1:Inv X pins σ H { s with heap:=h' }:=I.turned (t':=s.toks) (fun b ob hb e=>(sb.2 b hb).trans e) f0 f1 f3 f4 f5
  rw [← hl] at st'
  obtain ⟨ob,e,c,d⟩:=id st'
  exact ⟨key,rfl,go_of (s:={ s with heap:=h' }) e c d (by decide) ⟨kV k,H,I1,kV_of_is hk,⟨rfl,k,x,rfl,hx⟩,st',fun b hb=>(hf b hb).1⟩⟩
 done:=by
  intro X hP hw hK hc i pins s σ H E I hf st hg
  subst hP hw hK
  obtain ⟨ha,hx⟩:=hg
  obtain ⟨vs,rel,dd,_⟩:=frz_at I ha ed
  have hl:=rel.length
  rw [hl] at st
  obtain ⟨f0,f1,f2,f3,f4,f5⟩:=hf it (by simp)
  exact wpAny_pyNext_dict_end (I.ok.hd hc) st dd (by simp; omega) fun h' eb=>⟨rfl,I.turned (t':=s.toks) (fun b ob hb e=>eb b ob hb e) f0 f1 f3 f4 f5⟩
 self:=fun _ _ _ _ _ st h=>wpAny_pyIter_keyiter st h
section
variable {X:Cx} {tg:Expr}
def iKeys (td:TE):TI:=fun σ H R=>td σ H fun x H1=>∃ a us,x=.ref a∧((H1 a=some (.dK us)∧∀ o,R (Itk a o us) (upd H1 a (.frz o (.dK us)))) ∨ ∃ o,H1 a=some (.frz o (.dK us))∧R (Itk a o us) H1)
theorem pi_keys {d:Expr} {td:TE} (hd:PE X d td):PI X tg d (iKeys td):=by
 intro pins s σ H R I h
 refine thn (hd pins s σ H _ I h) fun u s1 zq=>?_
 obtain ⟨x,H1,I1,rx,a,us,ex,q1⟩:=zq
 subst ex
 obtain rfl:u=Value.ref a:=rx
 have main:∀ (H2:Hp) (o:Obj),Inv X pins σ H2 s1→H2 a=some (.frz o (.dK us))→R (Itk a o us) H2→wpAny (model X.prog X.w) X.A (pyIter (.ref a)) (PIE X pins σ tg R) X.xe s1:=fun H2 o I2 hH2 q=>by
  obtain ⟨eo,z,hdd,vs,rel,⟨o',ee,ep,ho,hx,hdat,k1,k2,k3⟩⟩:s1.heap.get? a=some o∧ObjOk X.prog X.w H2 s1.heap a (.dK us):=I2.hok a _ hH2
  rw [eo] at ho; cases ho
  have dat:s1.heap.DictAt (mixKind X.prog X.w) a vs ep:=⟨o,ee,eo,hx,hdat,k1,k2,k3⟩
  have hl:=rel.length
  refine wpAny_pyIter_dict hdd dat ?_
  refine ⟨s1.heap.objs.size,[s1.heap.objs.size],_,_,H2,rfl,I2.kept (t':=s1.toks) fun b u e=>Heap.get?_push_of_some _ e,turn_keys _ a o us ee ep hdat,⟨_,Heap.get?_push_size _ rfl,rfl,by rw [hl]; rfl⟩,fun b hb=>?_,q⟩
  have e:b=s1.heap.objs.size:=by simpa using hb
  subst e
  exact I2.fpOk (Nat.le_refl _) (I2.hok.fresh (Nat.le_refl _))
 rcases q1 with ⟨hH,q⟩ | ⟨o,hH,q⟩
 ·obtain ⟨o,I2⟩:=I1.freeze hH
  exact main _ o I2 upd_same (q o)
 ·exact main _ o I1 hH q
end
end L2
namespace PD
open PySem PySem.Spec PyProof.Rows L2
def aKeys (m:EM):AM:=fun r S=>(m r S).bind fun d S1=>match d with
 | .ref n=>match S1[n]? with
  | some (.dic kvs)=>.ok (kvs.map fun kv=>kD kv.1) (S1.set n (.fdic kvs))
  | some (.fdic kvs)=>.ok (kvs.map fun kv=>kD kv.1) S1
  | _=>.bad
 | _=>.bad
theorem ri_keys {K:PySem.W.Frag} {w:Wd} {H:Hp} {a:Addr} {o:Obj} {kvs:List (KD × D)} {us:List (Key × V)} (hst:∀ w' H',Ext w H w' H'→H' a=some (.frz o (.dK us))) (rk:RDk K w H kvs us):RI K w H (kvs.map fun kv=>kD kv.1) (Itk a o us):=by
 intro i w' H' x'
 have rk':=RDk.ext x' _ _ rk
 have hl:=rk.length
 have ha:=hst w' H' x'
 refine ⟨fun hi=>?_,fun hi=>⟨ha,by rw [List.length_map] at hi; omega⟩⟩
 rw [List.length_map] at hi
 refine ⟨⟨ha,us[i]'(by omega),List.getElem?_eq_getElem _⟩,fun v H'' y=>?_⟩
 obtain ⟨rfl,k,x,rfl,hx⟩:=y
 obtain ⟨v2,e2,r2⟩:=rk'.getI (i:=i) (k:=kvs[i].1) (d:=kvs[i].2) (by rw [List.getElem?_eq_getElem hi])
 rw [hx] at e2
 cases e2
 exact ⟨.inl rfl,fun S hS=>⟨kD kvs[i].1,by simp [hi],kD_rel _⟩⟩
section
variable {X:Cx} {E:XK}
theorem si_keys {tg:Expr} {d:Expr} {md:EM} (ha:SE X E d md):SI X E tg d (aKeys md):=⟨
 pi_weak (pi_keys ha.out) fun s H Q zq=>ex6 zq fun w r S hr hS hp=>⟨w,r,S,hr,hS,hp.bind hS fun d S1 w1 H1 v x1 q1 s1 p1=>by
  cases d with
  | ref m=>
   obtain ⟨pp,rfl,hp⟩:=q1.refI
   have hm:pp ∈ w1.st:=List.mem_of_getElem? hp
   cases e:S1[m]? with
   | none=>simp only [e] at p1; exact p1.elim
   | some ob=>
    obtain ⟨p',hp',ro⟩:=s1.obj _ _ e
    rw [hp] at hp'; cases hp'
    cases ob with
    | dic kvs=>
     simp only [e] at p1
     obtain ⟨us,hv,rk⟩:=ro
     refine ⟨pp,us,rfl,.inl ⟨hv,fun o=>?_⟩⟩
     have rk':=RDk.ext (Ext.mut hm hv (o:=.frz o (.dK us))) _ _ rk
     exact Post.at p1 (Ext.mut hm hv) (ri_keys (fun w' H' x'=>x'.frz _ _ _ upd_same) rk') (s1.mut hp hv ⟨o,us,upd_same,rk'⟩)
    | fdic kvs=>
     simp only [e] at p1
     obtain ⟨o,us,hv,rk⟩:=ro
     exact ⟨pp,us,rfl,.inr ⟨o,hv,Post.ret p1 (ri_keys (fun w' H' x'=>x'.frz _ _ _ hv) rk) s1⟩⟩
    | lst xs=>simp only [e] at p1; exact p1.elim
    | ins c fs=>simp only [e] at p1; exact p1.elim
    | flst xs=>simp only [e] at p1; exact p1.elim
  | _=>exact p1.elim⟩⟩
end
end PD
namespace L2
open PySem PySem.Spec PyProof.Rows
end L2
namespace PD
open PySem PySem.Spec PyProof.Rows L2
section
variable {X:Cx} {E:XK}
end
end PD
namespace PySem
open PyProof.Rows
section
variable {prog:Program} {w:World} {A:Around} {E:Value→Shared→Prop} {s:Shared} {K:Type} [DecidableEq K] {knd:KeyKind prog w K}
end
end PySem
namespace PD
open PySem PySem.Spec PyProof.Rows L2
section
variable {X:Cx} {E:XK}
end
end PD
namespace PD
open PySem PySem.Spec PyProof.Rows L2
open AutoSeq1 (wpAny_loadPart')
open MeetsSeq MeetsSeq2 MeetsSeq3 SeqRoads2 PySem.SeqAt
def ltZ:List Int→List Int→Bool
 | [],[]=>false
 | [],_ :: _=>true
 | _ :: _,[]=>false
 | x :: xs,y :: ys=>if x=y then ltZ xs ys else decide (x < y)
theorem ltZ_eq {x y:Int} {xs ys:List Int} (h:x=y):ltZ (x :: xs) (y :: ys)=ltZ xs ys:=if_pos h
theorem ltZ_ne {x y:Int} {xs ys:List Int} (h:¬ x=y):ltZ (x :: xs) (y :: ys)=decide (x < y):=if_neg h
theorem intLtAt {A:Around} {s:Shared} {a b:Int} {t u:Tok} (prog:Program) (w:World) {E:Value→Shared→Prop} {Q:Value→Shared→Prop} (h:Q (.bool (decide (a < b))) s):wpAny (model prog w) A (richCompare .Lt (.int a t) (.int b u)) Q E s:=
 richCompare_gives (op:=.Lt) (typeIs_int s _ t) (typeIs_int s _ u) F.slot_int_lt F.entry_int_lt (F.args_int_lt_2 _ _) (gives_int_lt _ _ t u) (fun x=>nomatch x) h
theorem tuple_ltInts (l b:Addr) (items items2:Array Value) (n n2:Nat) (dd dd2:Option Addr) (sl sl2:Array (Option Value)) {xs ys:List Int} (hx:IntsAre items.toList xs) (hy:IntsAre items2.toList ys):
  Meets (Builtin.«tuple.__lt__» ⟨[.ref l,.ref b],[]⟩)
   (fun A R s=>s.heap.get? l=some { cls:=.type "tuple",dict:=dd,data:=.seq items n,slots:=sl }∧s.heap.get? b=some { cls:=.type "tuple",dict:=dd2,data:=.seq items2 n2,slots:=sl2 }∧
    R (.ok (.ret (.bool (ltZ xs ys)))) s):=
 .of_wp fun prog w A R s h=>by
  obtain ⟨hp,g,d,tk,os⟩:=s; obtain ⟨hl,hb,h⟩:=h
  have f2:=AutoSeq1.sub_tuple_tuple
  wp_walk using wpAny_loadPart' hl,wpAny_loadPart' hb,wpAny_forIn_list _ (fun rest b s'=>b.1=none∧s'=⟨hp,g,d,tk,os⟩∧∃ (as bs:List Value) (xs ys:List Int),rest=as.zip bs∧IntsAre as xs∧IntsAre bs ys∧as.length + items2.size=bs.length + items.size∧
   R (.ok (.ret (.bool (ltZ xs ys)))) ⟨hp,g,d,tk,os⟩) _
  case turn=>
   rintro ⟨y,x⟩ rest b s' ⟨hb',rfl,as,bs,xs,ys,hz,h1,h2,hlen,hR⟩
   cases h1 with
   | nil=>cases hz
   | cons a t h1=>
    cases h2 with
    | nil=>cases hz
    | cons c u h2=>
     cases hz
     refine wpAny_bind (EqAt.int_int a t c u prog w _ _ ?_)
     by_cases hac:a=c
     ·have e:(a == c)=true:=by simp [hac]
      rw [e]
      wp_walk
      refine ⟨rfl,rfl,_,_,_,_,rfl,h1,h2,by simp only [List.length_cons] at hlen; omega,?_⟩
      rw [ltZ_eq hac] at hR
      exact hR
     ·have e:(a == c)=false:=by simp [hac]
      rw [ltZ_ne hac] at hR
      rw [e]
      simp only [Bool.not_false,if_true]
      refine wpAny_bind (wpAny_rule ?_)
      refine wpAny_bind (intLtAt prog w ?_)
      wp_walk
      exact ⟨_,rfl,hR⟩
  case fin=>
   rintro ⟨b1,b2⟩ s' ⟨hb',rfl,as,bs,xs,ys,hz,h1,h2,hlen,hR⟩
   simp only at hb'
   subst hb'
   have e:ltZ xs ys=decide (items.size < items2.size):=by
    cases h1 with
    | nil=>
     cases h2 with
     | nil=>simp only [List.length_nil] at hlen; unfold ltZ; exact (decide_eq_false (by omega)).symm
     | cons c u h2=>simp only [List.length_nil,List.length_cons] at hlen; unfold ltZ; exact (decide_eq_true (by omega)).symm
    | cons a t h1=>
     cases h2 with
     | nil=>simp only [List.length_nil,List.length_cons] at hlen; unfold ltZ; exact (decide_eq_false (by omega)).symm
     | cons c u h2=>cases hz
   rw [e] at hR
   wp_walk
   exact ⟨_,rfl,by simpa [Builtin.Tuple.tupleCompareSizes] using hR⟩
  case h=>
   exact ⟨rfl,rfl,_,_,_,_,rfl,hx,hy,by simp [Nat.add_comm],h⟩
theorem tupLtAt {A:Around} {s:Shared} {l b:Addr} {items items2:Array Value} {xs ys:List Int} (hl:s.heap.IsTuple l items) (hb:s.heap.IsTuple b items2) (hx:IntsAre items.toList xs) (hy:IntsAre items2.toList ys) (hu:A.units < cLine) (prog:Program) (w:World) {E:Value→Shared→Prop} {Q:Value→Shared→Prop}
  (h:Q (.bool (ltZ xs ys)) s):wpAny (model prog w) A (richCompare .Lt (.ref l) (.ref b)) Q E s:=by
 obtain ⟨⟨cls,dd,data,sl⟩,ho,hc,n,hd⟩:=id hl
 obtain ⟨⟨cls2,dd2,data2,sl2⟩,ho2,hc2,n2,hd2⟩:=id hb
 simp only at hc hd hc2 hd2
 subst hc hd hc2 hd2
 exact richCompare_meets_room (op:=.Lt) ⟨_,ho,rfl⟩ ⟨_,ho2,rfl⟩ F.slot_tuple_lt F.entry_tuple_lt (F.args_tuple_lt_2 _ _) (tuple_ltInts l b items items2 n n2 dd dd2 sl sl2 hx hy)
  ⟨ho,ho2,show Value.bool (ltZ xs ys) ≠ Value.notImplemented∧Q (.bool (ltZ xs ys)) s from ⟨(fun x=>nomatch x),h⟩⟩ hu
end PD
namespace PD
open PySem PySem.Spec PyProof.Rows L2
def KCmp (prog:Program) (w:World) (A:Around) (h0:Heap) (P:Nat→Value→Prop) (bt:Nat→Nat→Bool):Prop:=
 ∀ (i j:Nat) (vi vj:Value) (s:Shared) (Q:Value→Shared→Prop) (E:Value→Shared→Prop),(∀ b o,h0.get? b=some o→s.heap.get? b=some o)→P i vi→P j vj→Q (.bool (bt i j)) s→wpAny (model prog w) A (richCompare .Lt vi vj) Q E s
abbrev cellS (vs:Array Value) (c:Nat):Obj:={ cls:=.type "list",dict:=none,data:=.seq vs c,slots:=#[] }
section
variable {prog:Program} {w:World} {A:Around} {R:Result→Shared→Prop} {I:Addr} {fp wr:List Addr} {n:Nat} {P:Nat→Value→Prop} {St:Nat→Heap→Prop} {h0:Heap} {bt:Nat→Nat→Bool} {S:Addr} {kw:List (Str × Value)}
theorem min_loopK (W:Walks prog w A.in1 I fp wr n P St) (hcmp:KCmp prog w A.in1 h0 P bt) (hSf:S ∉ fp) (hw:∀ b ∈ wr,h0.get? b=none) (hS0:h0.get? S=none):
  ∀ (k j:Nat) (s:Shared) (vb:Value) (c:Nat),n - (j + 1)=k→j + 1≤n→St (j + 1) s.heap→P (argBest bt j) vb→s.heap.get? S=some (cellS #[vb,vb] c)→(∀ b o,h0.get? b=some o→s.heap.get? b=some o)→
  (∀ v h' tk,P (argBest bt (n - 1)) v→(∀ b o,h0.get? b=some o→h'.get? b=some o)→R (.ok (.ret v)) { s with heap:=h',toks:=tk })→
  codeAny (model prog w) A (.builtin "min.loop" ⟨[.ref I,.none,.ref S],kw⟩) R s:=by
 have hSw:S ∉ wr:=fun h=>hSf (W.sub _ h)
 have nw:∀ {b:Addr} {o:Obj},h0.get? b=some o→b ∉ wr:=fun e h=>by rw [hw _ h] at e; cases e
 have nS:∀ {b:Addr} {o:Obj},h0.get? b=some o→S ≠ b:=fun e h=>by rw [← h,hS0] at e; cases e
 have hname:(toString "min" ++ toString ".loop":String) = "min.loop":=by decide
 intro k
 induction k with
 | zero=>
  intro j s vb c hk hj hst hPb hS hkp hR
  have hin:j + 1=n:=by omega
  refine codeAny_builtin F.entry_min_loop ?_
  rw [Around.under_plainId F.plain_min_loop _]
  show wpAny _ A.in1 (seqItems? (.ref S) >>= _) _ _ s
  refine wpAny_bind (wpAny_seqItems hS rfl ?_)
  show wpAny _ A.in1 (tryCatch (pyNext (.ref I)) _ >>= _) _ _ s
  refine wpAny_bind (wpAny_tryCatch (W.done s _ _ (hin ▸ hst) fun h' tk hk'=>?_))
  show wpAny _ A.in1 (updateSeq S (fun _=>#[]) >>= _) _ _ _
  refine wpAny_bind ?_
  refine wpAny_updateSeq (hk' S _ hSw hS) rfl (wpAny_bind (wpAny_letGo (wpAny_pure ?_)))
  exact hR vb _ tk (by rw [← hin]; exact hPb) fun b o e=>(Heap.get?_update_other _ _ (nS e)).trans (hk' b o (nw e) (hkp b o e))
 | succ k ih=>
  intro j s vb c hk hj hst hPb hS hkp hR
  have hlt:j + 1 < n:=by omega
  refine codeAny_builtin F.entry_min_loop ?_
  rw [Around.under_plainId F.plain_min_loop _]
  show wpAny _ A.in1 (seqItems? (.ref S) >>= _) _ _ s
  refine wpAny_bind (wpAny_seqItems hS rfl ?_)
  show wpAny _ A.in1 (tryCatch (pyNext (.ref I)) _ >>= _) _ _ s
  refine wpAny_bind (wpAny_tryCatch (W.item (j + 1) s _ _ hlt hst fun v h' tk hP hst' hk'=>?_))
  have hS':=hk' S _ hSw hS
  have hkp':∀ b o,h0.get? b=some o→h'.get? b=some o:=fun b o e=>hk' b o (nw e) (hkp b o e)
  show wpAny _ A.in1 (tryCatch (holding [v,v] (richCompare .Lt v vb >>= _)) _ >>= _) _ _ _
  refine wpAny_bind (wpAny_tryCatch (wpAny_holding (wpAny_bind (hcmp (j + 1) (argBest bt j) v vb _ _ _ hkp' hP hPb ?_))))
  refine wpAny_bind (wpAny_holding (wpAny_truthy_bool ?_))
  refine wpAny_bind (wpAny_letGo (wpAny_pure ?_))
  cases hb:bt (j + 1) (argBest bt j) with
  | true=>
   simp only [if_true]
   refine wpAny_bind ?_
   refine wpAny_updateSeq hS' rfl (wpAny_bind (wpAny_letGo ?_))
   rw [hname]
   refine wpAny_pure ⟨plainId_quiet F.plain_min_loop _,ih (j + 1) _ v _ (by omega) hlt (W.frame _ _ _ hst' fun b hbf o e=>(Heap.get?_update_other _ _ (fun h:S=b=>hSf (by rw [h]; exact hbf))).trans e) (by simp only [argBest,hb,if_true]; exact hP) (Heap.get?_update_self _ hS' rfl)
    (fun b o e=>(Heap.get?_update_other _ _ (nS e)).trans (hkp' b o e)) fun v' h'' tk'' hP' hk''=>hR v' h'' tk'' hP' hk''⟩
  | false=>
   simp only [Bool.false_eq_true,if_false]
   refine wpAny_bind (wpAny_letGo ?_)
   rw [hname]
   exact wpAny_pure ⟨plainId_quiet F.plain_min_loop _,ih (j + 1) _ vb c (by omega) hlt hst' (by simp only [argBest,hb,Bool.false_eq_true,if_false]; exact hPb) hS' hkp' fun v' h'' tk'' hP' hk''=>hR v' h'' tk'' hP' hk''⟩
theorem min_firstK (W:Walks prog w A.in1 I fp wr n P St) (hcmp:KCmp prog w A.in1 h0 P bt) (hSf:S ∉ fp) (hw:∀ b ∈ wr,h0.get? b=none) (hS0:h0.get? S=none) (hn:0 < n) {s:Shared} {c:Nat} (hst:St 0 s.heap)
  (hS:s.heap.get? S=some (cellS #[] c)) (hkp:∀ b o,h0.get? b=some o→s.heap.get? b=some o)
  (hR:∀ v h' tk,P (argBest bt (n - 1)) v→(∀ b o,h0.get? b=some o→h'.get? b=some o)→R (.ok (.ret v)) { s with heap:=h',toks:=tk }):
  codeAny (model prog w) A (.builtin "min.loop" ⟨[.ref I,.none,.ref S],kw⟩) R s:=by
 have hSw:S ∉ wr:=fun h=>hSf (W.sub _ h)
 have nw:∀ {b:Addr} {o:Obj},h0.get? b=some o→b ∉ wr:=fun e h=>by rw [hw _ h] at e; cases e
 have nS:∀ {b:Addr} {o:Obj},h0.get? b=some o→S ≠ b:=fun e h=>by rw [← h,hS0] at e; cases e
 have hname:(toString "min" ++ toString ".loop":String) = "min.loop":=by decide
 refine codeAny_builtin F.entry_min_loop ?_
 rw [Around.under_plainId F.plain_min_loop _]
 show wpAny _ A.in1 (seqItems? (.ref S) >>= _) _ _ s
 refine wpAny_bind (wpAny_seqItems hS rfl ?_)
 show wpAny _ A.in1 (tryCatch (pyNext (.ref I)) _ >>= _) _ _ s
 refine wpAny_bind (wpAny_tryCatch (W.item 0 s _ _ hn hst fun v h' tk hP hst' hk'=>?_))
 have hS':=hk' S _ hSw hS
 have hkp':∀ b o,h0.get? b=some o→h'.get? b=some o:=fun b o e=>hk' b o (nw e) (hkp b o e)
 show wpAny _ A.in1 (updateSeq S (fun _=>#[v,v]) >>= _) _ _ _
 refine wpAny_bind ?_
 refine wpAny_updateSeq hS' rfl ?_
 rw [hname]
 exact wpAny_pure ⟨plainId_quiet F.plain_min_loop _,min_loopK W hcmp hSf hw hS0 _ 0 _ v _ rfl hn (W.frame _ _ _ hst' fun b hbf o e=>(Heap.get?_update_other _ _ (fun h:S=b=>hSf (by rw [h]; exact hbf))).trans e) hP (Heap.get?_update_self _ hS' rfl)
  (fun b o e=>(Heap.get?_update_other _ _ (nS e)).trans (hkp' b o e)) fun v' h'' tk'' hP' hk''=>hR v' h'' tk'' hP' hk''⟩
theorem min_noneK {d:Value} {nm:Str} (W:Walks prog w A.in1 I fp wr 0 P St) (hSf:S ∉ fp) {s:Shared} {c:Nat} (hst:St 0 s.heap) (hS:s.heap.get? S=some (cellS #[] c))
  (hR:∀ h' tk,(∀ b o,b ∉ wr→s.heap.get? b=some o→h'.get? b=some o)→R (.ok (.ret d)) { s with heap:=h',toks:=tk }):
  codeAny (model prog w) A (.builtin "min.loop" ⟨[.ref I,.none,.ref S],[(nm,d)]⟩) R s:=by
 refine codeAny_builtin F.entry_min_loop ?_
 rw [Around.under_plainId F.plain_min_loop _]
 show wpAny _ A.in1 (seqItems? (.ref S) >>= _) _ _ s
 refine wpAny_bind (wpAny_seqItems hS rfl ?_)
 show wpAny _ A.in1 (tryCatch (pyNext (.ref I)) _ >>= _) _ _ s
 refine wpAny_bind (wpAny_tryCatch (W.done s _ _ hst fun h' tk hk'=>?_))
 show wpAny _ A.in1 (rule _ >>= _) _ _ _
 refine wpAny_bind (wpAny_rule (wpAny_pure ?_))
 exact hR h' tk hk'
theorem call_kw {id:String} {b:Builtin} {args:List Value} {Q:Value→Shared→Prop} {E:Value→Shared→Prop} {s:Shared} (hk:builtinKind id=none) (hp:plainId id=true)
  (hb:entryFor table id=some b) (ha:argsOk id ⟨args,kw⟩)
  (hc:wpAny (model prog w) A.in1 (b ⟨args,kw⟩) (fun fin s'=>match fin with
   | .done f=>(match (Except.ok f:Result) with | .ok (.ret v)=>Q v s' | .ok _=>False | .error e=>E e s')
   | .again c'=>c'.quiet=true∧codeAny (model prog w) A c' (fun r s'=>match r with | .ok (.ret v)=>Q v s' | .ok _=>False | .error e=>E e s') s') E s):
  wpAny (model prog w) A (call (.builtin id) args kw) Q E s:=by
 refine wpAny_call (codeAny_call_builtin hp hb ?_)
 simp only [checkBuiltinCall,hk]
 cases hsig:Manifest.signature? id with
 | none=>exact wpAny_pure hc
 | some sig=>
  have h2:Bind.checkArgs id sig ⟨args,kw⟩=pure ():=by simpa only [argsOk,hsig] using ha
  simp only [h2]
  exact wpAny_pure hc
theorem args_minD (a d:Value):argsOk "min" ⟨[a],[("default",d)]⟩:=by unfold argsOk; kernel_rfl
end
end PD
namespace PD
open PySem PySem.Spec PyProof.Rows L2
def minT (m:List Int) (l:List (List Int)):List Int:=l.foldl (fun m x=>if ltZ x m=true then x else m) m
def tupsOf:List D→Option (List (List Int))
 | []=>some []
 | .tup a :: r=>match intsOf a,tupsOf r with
  | some n,some ns=>some (n :: ns)
  | _,_=>none
 | _ :: _=>none
def TupsAre (h:Heap) (us:List Value) (ns:List (List Int)):Prop:=us.length=ns.length∧∀ (i:Nat) (v:Value),us[i]?=some v→∃ a items,v=.ref a∧h.IsTuple a items∧IntsAre items.toList (ns.getD i [])
theorem argBest_T (ns:List (List Int)):∀ k:Nat,k < ns.length→argBest (fun i j=>ltZ (ns.getD i []) (ns.getD j [])) k≤k∧ns.getD (argBest (fun i j=>ltZ (ns.getD i []) (ns.getD j [])) k) []=minT (ns.getD 0 []) ((ns.drop 1).take k)
 | 0,h=>⟨Nat.le_refl _,rfl⟩
 | k + 1,h=>by
  obtain ⟨h1,h2⟩:=argBest_T ns k (by omega)
  have hd:(ns.drop 1)[k]?=some (ns.getD (k + 1) []):=by
   rw [List.getElem?_drop,Nat.add_comm 1 k,List.getD_eq_getElem?_getD,List.getElem?_eq_getElem h]; rfl
  have ht:(ns.drop 1).take (k + 1)=(ns.drop 1).take k ++ [ns.getD (k + 1) []]:=by
   rw [List.take_succ,hd]; rfl
  rw [ht]
  unfold minT at h2 ⊢
  rw [List.foldl_append,← h2]
  simp only [argBest,List.foldl_cons,List.foldl_nil]
  by_cases hb:ltZ (ns.getD (k + 1) []) (ns.getD (argBest (fun i j=>ltZ (ns.getD i []) (ns.getD j [])) k) [])=true
  ·rw [if_pos hb,if_pos hb]; exact ⟨Nat.le_refl _,rfl⟩
  ·rw [if_neg hb,if_neg hb]; exact ⟨by omega,rfl⟩
theorem ints_back:∀ {ds:List D} {ns:List Int},intsOf ds=some ns→ds=ns.map .int
 | [],ns,h=>by unfold intsOf at h; cases h; rfl
 | d :: r,ns,h=>by
  unfold intsOf at h
  split at h
  ·rename_i e; cases e
  ·rename_i b r' e
   cases e
   cases e:intsOf r with
   | none=>rw [e] at h; cases h
   | some cs=>rw [e] at h; cases h; rw [ints_back e]; rfl
  ·cases h
section
variable {X:Cx} {E:XK} {pins:List (Addr × Obj)} {σ:L2.St} {H:Hp} {s:Shared}
theorem tups_are {w:Wd} (I:Inv X pins σ H s):∀ {ds:List D} {vs:List V} {us:List Value} {ns:List (List Int)},RDs X.K w H ds vs→Vals vs us→tupsOf ds=some ns→TupsAre s.heap us ns∧∀ (i:Nat) (v:Value),us[i]?=some v→∃ y,RelV y v∧RD X.K w H (.tup ((ns.getD i []).map .int)) y
 | [],_,_,_,q,r,h=>by
  rw [q.nil_inv] at r
  cases r
  unfold tupsOf at h
  cases h
  exact ⟨⟨rfl,fun i v h=>by simp at h⟩,fun i v h=>by simp at h⟩
 | d :: ds,_,_,ns,q,r,h=>by
  obtain ⟨y,vs,rfl,p,t⟩:=q.cons_inv
  unfold tupsOf at h
  split at h
  ·rename_i e; cases e
  ·rename_i a r' eq
   cases eq
   split at h
   ·rename_i n ns' e1 e2
    cases h
    cases r with
    | cons rv rr=>
     obtain ⟨⟨l,g⟩,g2⟩:=tups_are I t rr e2
     obtain ⟨pa,xs,rfl,za,ra⟩:=p.tupI
     obtain ⟨its,r1,p1,_⟩:=I.tuple (SqT_of za)
     cases rv
     refine ⟨⟨by simp [l],fun i v hv=>?_⟩,fun i v hv=>?_⟩
     ·cases i with
      | zero=>cases hv; exact ⟨pa,its.toArray,rfl,p1,by simpa using ints_are ra r1 e1⟩
      | succ i=>exact g i v (by simpa using hv)
     ·cases i with
      | zero=>cases hv; exact ⟨.ref pa,rfl,by have:=ints_back e1; subst this; exact p⟩
      | succ i=>exact g2 i v (by simpa using hv)
   ·cases h
  ·cases h
end
section
variable {prog:Program} {w:World} {A:Around} {E:Value→Shared→Prop} {s:Shared}
theorem kcmp_tups {h0:Heap} {us:List Value} {ns:List (List Int)} (t:TupsAre h0 us ns) (hu:A.units < cLine):KCmp prog w A h0 (fun i v=>us.toArray[i]?=some v) fun i j=>ltZ (ns.getD i []) (ns.getD j []):=by
 intro i j vi vj s Q E hk hi hj h
 obtain ⟨a,xs,rfl,ta,ia⟩:=t.2 i vi (by simpa using hi)
 obtain ⟨b,ys,rfl,tb,ib⟩:=t.2 j vj (by simpa using hj)
 exact tupLtAt (ta.at fun o e=>hk _ o e) (tb.at fun o e=>hk _ o e) ia ib hu prog w h
theorem min_listK {l:Addr} {us:List Value} {bt:Nat→Nat→Bool} {kw:List (Str × Value)} {df:Option Value} {Q:Value→Shared→Prop} (hh:A.handled=none) (hl:s.heap.IsList l us.toArray) (hne:0 < us.length)
  (ha:argsOk "min" ⟨[.ref l],kw⟩) (hb:Builtin.Builtins.bindParams "min" ["key","default"] 0 ⟨[],kw⟩=pure [none,df])
  (hcmp:KCmp prog w A.in1 s.heap (fun i v=>us.toArray[i]?=some v) bt)
  (h:∀ v h' tk,us[argBest bt (us.length - 1)]?=some v→(∀ b o,s.heap.get? b=some o→h'.get? b=some o)→Q v { s with heap:=h',toks:=tk }):
  wpAny (model prog w) A (call (.builtin "min") [.ref l] kw) Q E s:=by
 have hname:(toString "min" ++ toString ".loop":String) = "min.loop":=by decide
 have hlt:l < s.heap.objs.size:=by obtain ⟨_,e,_⟩:=hl; exact Heap.lt_size e
 refine call_kw F.kind_min F.plain_min F.entry_min ha ?_
 show wpAny _ A.in1 (Builtin.Builtins.bindParams "min" ["key","default"] 0 ⟨[],kw⟩ >>= _) _ _ s
 refine wpAny_bind (wpAny_of_eq hb ?_)
 refine wpAny_bind (wpAny_pure ?_)
 refine wpAny_bind (wpAny_pyIter_list hl ?_)
 refine wpAny_bind (wpAny_newObj_type ?_)
 have hsz:(s.heap.push { cls:=.type "list_iterator",data:=.fields #[.ref l,.int 0 0] }).objs.size=s.heap.objs.size + 1:=Heap.size_push ..
 have W:=Walks.list (prog:=prog) (w:=w) (A:=A.in1) hh s.heap.objs.size l (Nat.ne_of_lt hlt) us.toArray
 have hSf:s.heap.objs.size + 1 ∉ [s.heap.objs.size,l]:=fun hm=>by
  rcases List.mem_cons.mp hm with e | hm
  ·exact absurd e (Nat.succ_ne_self _)
  ·rcases List.mem_cons.mp hm with e | hm
   ·exact Nat.lt_irrefl _ (Nat.lt_of_succ_lt (e ▸ hlt:s.heap.objs.size + 1 < s.heap.objs.size))
   ·cases hm
 rw [hname]
 refine wpAny_pure ⟨plainId_quiet F.plain_min_loop _,?_⟩
 show codeAny _ A (.builtin "min.loop" ⟨[.ref s.heap.objs.size,.none,.ref (s.heap.push _).objs.size],_⟩) _ _
 rw [hsz]
 refine min_firstK (h0:=s.heap) W hcmp hSf (fun b hb=>?_) (Heap.get?_none_of_le (Nat.le_succ _)) (by simpa using hne) (W.frame _ _ _ ⟨⟨_,Heap.get?_push_size _ rfl,rfl,rfl⟩,hl.push _⟩ fun b _ o e=>Heap.get?_push_of_some _ e) (by rw [← hsz]; exact Heap.get?_push_size _ rfl)
  (fun b o e=>Heap.get?_push_of_some _ (Heap.get?_push_of_some _ e)) fun v h' tk hP hk=>h v h' tk (by simpa using hP) hk
 ·simp at hb; rw [hb]; exact Heap.get?_none_of_le (Nat.le_refl _)
theorem min_emptyK {l:Addr} {d:Value} {Q:Value→Shared→Prop} (hh:A.handled=none) (hl:s.heap.IsList l #[])
  (h:∀ h' tk,(∀ b o,s.heap.get? b=some o→h'.get? b=some o)→Q d { s with heap:=h',toks:=tk }):
  wpAny (model prog w) A (call (.builtin "min") [.ref l] [("default",d)]) Q E s:=by
 have hname:(toString "min" ++ toString ".loop":String) = "min.loop":=by decide
 have hlt:l < s.heap.objs.size:=by obtain ⟨_,e,_⟩:=hl; exact Heap.lt_size e
 refine call_kw F.kind_min F.plain_min F.entry_min (args_minD _ _) ?_
 show wpAny _ A.in1 (Builtin.Builtins.bindParams "min" ["key","default"] 0 ⟨[],[("default",d)]⟩ >>= _) _ _ s
 refine wpAny_bind (wpAny_of_eq (show Builtin.Builtins.bindParams "min" ["key","default"] 0 ⟨[],[("default",d)]⟩=pure [none,some d] from rfl) ?_)
 refine wpAny_bind (wpAny_pure ?_)
 refine wpAny_bind (wpAny_pyIter_list hl ?_)
 refine wpAny_bind (wpAny_newObj_type ?_)
 have hsz:(s.heap.push { cls:=.type "list_iterator",data:=.fields #[.ref l,.int 0 0] }).objs.size=s.heap.objs.size + 1:=Heap.size_push ..
 have W:=Walks.list (prog:=prog) (w:=w) (A:=A.in1) hh s.heap.objs.size l (Nat.ne_of_lt hlt) #[]
 have hSf:s.heap.objs.size + 1 ∉ [s.heap.objs.size,l]:=fun hm=>by
  rcases List.mem_cons.mp hm with e | hm
  ·exact absurd e (Nat.succ_ne_self _)
  ·rcases List.mem_cons.mp hm with e | hm
   ·exact Nat.lt_irrefl _ (Nat.lt_of_succ_lt (e ▸ hlt:s.heap.objs.size + 1 < s.heap.objs.size))
   ·cases hm
 rw [hname]
 refine wpAny_pure ⟨plainId_quiet F.plain_min_loop _,?_⟩
 show codeAny _ A (.builtin "min.loop" ⟨[.ref s.heap.objs.size,.none,.ref (s.heap.push _).objs.size],[("default",d)]⟩) _ _
 rw [hsz]
 refine min_noneK W hSf (W.frame _ _ _ ⟨⟨_,Heap.get?_push_size _ rfl,rfl,rfl⟩,hl.push _⟩ fun b _ o e=>Heap.get?_push_of_some _ e) (by rw [← hsz]; exact Heap.get?_push_size _ rfl) fun h' tk hk=>h h' tk fun b o e=>hk b o (fun hm=>?_) (Heap.get?_push_of_some _ (Heap.get?_push_of_some _ e))
 simp at hm
 exact absurd (hm ▸ Heap.lt_size e) (Nat.lt_irrefl _)
end
end PD
namespace PD
open PySem PySem.Spec PyProof.Rows L2
section
variable {prog:Program} {w:World} {A:Around} {E:Value→Shared→Prop} {s:Shared}
end
theorem minZ_app:∀ (l:List Int) (m x:Int),minZ m (l ++ [x])=if x < minZ m l then x else minZ m l
 | [],m,x=>rfl
 | y :: l,m,x=>minZ_app l (if y < m then y else m) x
theorem argBest_Z (ns:List Int):∀ k:Nat,k < ns.length→ns.getD (argBest (fun i j=>decide (ns.getD i 0 < ns.getD j 0)) k) 0=minZ (ns.getD 0 0) ((ns.drop 1).take k)
 | 0,h=>rfl
 | k + 1,h=>by
  have h2:=argBest_Z ns k (by omega)
  have hd:(ns.drop 1)[k]?=some (ns.getD (k + 1) 0):=by
   rw [List.getElem?_drop,Nat.add_comm 1 k,List.getD_eq_getElem?_getD,List.getElem?_eq_getElem h]; rfl
  have ht:(ns.drop 1).take (k + 1)=(ns.drop 1).take k ++ [ns.getD (k + 1) 0]:=by
   rw [List.take_succ,hd]; rfl
  rw [ht,minZ_app,← h2]
  simp only [argBest]
  by_cases hb:ns.getD (k + 1) 0 < ns.getD (argBest (fun i j=>decide (ns.getD i 0 < ns.getD j 0)) k) 0
  ·rw [if_pos (decide_eq_true hb),if_pos hb]
  ·rw [if_neg (by simpa using hb),if_neg hb]
theorem intsAt:∀ {vs:List Value} {ns:List Int},IntsAre vs ns→∀ (i:Nat) (v:Value),vs[i]?=some v→∃ t,v=.int (ns.getD i 0) t
 | _,_,.nil,i,v,h=>by simp at h
 | _,_,.cons n t r,0,v,h=>by cases h; exact ⟨t,rfl⟩
 | _,_,.cons n t r,i + 1,v,h=>intsAt r i v (by simpa using h)
def fMinD:Sto→List D→Option D
 | S,[d]=>match isLst S d with
  | some []=>some .non
  | some (x :: a)=>match tupsOf (x :: a),intsOf (x :: a) with
   | some (n :: ns),_=>some (.tup ((minT n ns).map .int))
   | none,some (n :: ns)=>some (.int (minZ n ns))
   | _,_=>none
  | none=>none
 | _,_=>none
def CallK (X:Cx) (f:Value) (kw:List (Str × Value)) (r:List V→Hp→VK→Prop):Prop:=
 ∀ (pins:List (Addr × Obj)) (s:Shared) (σ:L2.St) (H:Hp) (xs:List V) (us:List Value) (Q:VK),Inv X pins σ H s→Vals xs us→r xs H Q→
  wpAny (model X.prog X.w) X.A (call f us kw) (EP X pins σ Q) X.xe s
section
variable {X:Cx} {E:XK}
theorem xk_minD {k:Nat} (hc:X.calm=true) (hr:Room k X.A):CallK X (.builtin "min") [("default",.none)] (xC X.K E fMinD):=by
 rintro pins s σ H xs us Q I r ⟨w,S,ds,hS,qs,p⟩
 obtain ⟨z,hz,p'⟩:=p.of
 clear p
 unfold fMinD at hz
 split at hz
 ·rename_i d
  obtain ⟨v,rfl,q⟩:=qs.one_inv
  obtain ⟨u,rfl,rx⟩:=vals1 r
  split at hz
  ·rename_i ha
   cases hz
   obtain ⟨pa,vs,rfl,sq,ra⟩:=lst_at hS q ha
   cases rx
   obtain ⟨its,r',pl,_⟩:=I.list sq
   rw [ra.nil_inv] at r'
   cases r'
   exact min_emptyK (I.ok.hd hc) pl.isList fun h' tk hk=>⟨.non,H,I.kept (t':=tk) hk,rfl,p'.ret (by unfold RD; rfl) hS⟩
  ·rename_i x a ha
   obtain ⟨pa,vs,rfl,sq,ra⟩:=lst_at hS q ha
   cases rx
   obtain ⟨its,r',pl,_⟩:=I.list sq
   split at hz
   ·rename_i n ns e
    cases hz
    obtain ⟨t,g⟩:=tups_are I ra r' e
    have hl:its.length=ns.length + 1:=by rw [t.1]; rfl
    refine min_listK (df:=some .none) (I.ok.hd hc) pl.isList (by omega) (args_minD _ _) rfl (kcmp_tups t (by have:=hr.un; show X.A.units + 1 < cLine; omega)) fun v h' tk hv hk=>?_
    obtain ⟨y,ry,rd⟩:=g _ v hv
    obtain ⟨_,b2⟩:=argBest_T (n :: ns) (its.length - 1) (by rw [hl]; exact Nat.lt_succ_self _)
    have b3:minT ((n :: ns).getD 0 []) (((n :: ns).drop 1).take (its.length - 1))=minT n ns:=by
     rw [hl]
     show minT n (ns.take ns.length)=minT n ns
     rw [List.take_length]
    rw [b2,b3] at rd
    exact ⟨y,H,I.kept (t':=tk) hk,ry,p'.ret rd hS⟩
   ·rename_i n ns _ e
    cases hz
    have ia:=ints_are ra r' e
    have hl:its.length=(n :: ns).length:=ia.length
    have hcmp:KCmp X.prog X.w X.A.in1 s.heap (fun i v=>its.toArray[i]?=some v) (fun i j=>decide ((n :: ns).getD i 0 < (n :: ns).getD j 0)):=by
     intro i j vi vj s1 Q1 E1 hk hi hj h
     obtain ⟨t1,rfl⟩:=intsAt ia i vi (by simpa using hi)
     obtain ⟨t2,rfl⟩:=intsAt ia j vj (by simpa using hj)
     exact intLtAt X.prog X.w h
    refine min_listK (df:=some .none) (I.ok.hd hc) pl.isList (by rw [hl]; exact Nat.succ_pos _) (args_minD _ _) rfl hcmp fun v h' tk hv hk=>?_
    obtain ⟨t1,rfl⟩:=intsAt ia _ v hv
    have b:=argBest_Z (n :: ns) (its.length - 1) (by rw [hl]; exact Nat.lt_succ_self _)
    have b3:minZ ((n :: ns).getD 0 0) (((n :: ns).drop 1).take (its.length - 1))=minZ n ns:=by
     rw [hl]
     show minZ n (ns.take ns.length)=minZ n ns
     rw [List.take_length]
    rw [b3] at b
    refine ⟨.int (minZ n ns),H,I.kept (t':=tk) hk,⟨t1,?_⟩,p'.ret RD.mkI hS⟩
    rw [b]
   ·cases hz
  ·cases hz
 ·cases hz
variable {a:Expr} {ms:AM} {x:Str} {p pos kp:Pos} {id:String} {nm:Str}
theorem pe_callBD {r:List V→Hp→VK→Prop} {t:TA} {j:Nat} {cp:Pos} (hc:CallK X (.builtin id) [(nm,.none)] r) (hg:Gl X x) (hm:X.mg x=none) (hv:bootBuiltins x=some (.builtin id)) (ha:PA X [a] t) (hn:autoParam (x ≠ "__name__") Au.h2._auto_1) (hdb:autoParam ((x == ("__debug__":Str))=false) Au.h2._auto_1)
  (he:autoParam (backTo pos (starEach [a] X.env)=(false,eval a X.env) :: backTo pos (starEach [] X.env)) Au.h1._auto_1) (hpl:autoParam ((backTo pos (starEach [a] X.env)).any (·.1)=false) Au.h1._auto_1):PE X (.Call (.Name x p) [a] [⟨some nm,.Constant .none j cp,kp⟩] pos) (tCB r t):=by
 intro pins s σ H Q I h
 refine wpAny_Call_Name_kw (ld_blt I hg hm hv ?_ hn hdb)
 refine callWith_kw (thn (ha pos pins s σ H _ I h) fun us s1 zq=>ex5 zq fun vs H1 I1 r1 q1=>kws_cons ?_) he hpl
 exact Constant_none (kws_nil (hc pins s1 σ H1 vs us Q I1 r1 q1))
theorem se_callBD {f:Sto→List D→Option D} {j:Nat} {cp:Pos} (hc:CallK X (.builtin id) [(nm,.none)] (xC X.K E f)) (hg:Gl X x) (hm:X.mg x=none) (hv:bootBuiltins x=some (.builtin id)) (ha:SA X E [a] ms) (hn:autoParam (x ≠ "__name__") Au.h3._auto_1) (hdb:autoParam ((x == ("__debug__":Str))=false) Au.h3._auto_1)
  (he:autoParam (backTo pos (starEach [a] X.env)=(false,eval a X.env) :: backTo pos (starEach [] X.env)) Au.h0._auto_1) (hpl:autoParam ((backTo pos (starEach [a] X.env)).any (·.1)=false) Au.h0._auto_1):SE X E (.Call (.Name x p) [a] [⟨some nm,.Constant .none j cp,kp⟩] pos) (eB f ms):=⟨
 pe_weak (pe_callBD hc hg hm hv ha.out hn hdb he hpl) fun s H Q zq=>ex6 zq fun w r S hr hS hp=>⟨w,r,S,hr,hS,hp.bind hS fun ds S1 w1 H1 vs x1 q1 s1 p1=>⟨w1,S1,ds,s1,q1,p1⟩⟩⟩
end
end PD
namespace SR
open PySem PyProof.Rows
abbrev SM (α:Type):=StateT SortSt Sem α
def Up (xs:Array Keyed) (lo hi:Nat):Prop:=∀ i j,lo≤i→i≤j→j < hi→K xs i≤K xs j
def Dn (xs:Array Keyed) (lo hi:Nat):Prop:=∀ i j,lo≤i→i≤j→j < hi→K xs j≤K xs i
def Num (p:Keyed):Prop:=∃ n t,p.1=.int n t
def IK (xs:Array Keyed):Prop:=∀ p ∈ xs.toList,Num p
theorem IK.get {xs:Array Keyed} (h:IK xs) {i:Nat} (hi:i < xs.size):Num xs[i]:=h _ (by simp)
theorem K_get {xs:Array Keyed} {i:Nat} (hi:i < xs.size):K xs i=numOf xs[i].1:=by unfold K; rw [getElem?_pos xs i hi]
section
variable {prog:Program} {w:World} {A:Around} {E:Value→Shared→Prop} {s:Shared}
theorem lt_ok {st:SortSt} {p q:Keyed} {Q:Option Bool→SortSt→Prop} (hk:kindOf st=oneType') (hp:Num p) (hq:Num q) (h:Q (some (decide (numOf p.1 < numOf q.1))) st):wpS (model prog w) A E s (lt' p q) Q st:=by
 obtain ⟨p1,p2⟩:=p
 obtain ⟨q1,q2⟩:=q
 obtain ⟨a,t,e1⟩:=hp
 obtain ⟨b,u,e2⟩:=hq
 dsimp only at e1 e2
 subst e1 e2
 rw [lt'_eq]
 refine wpS_bind (wpS_get ?_)
 rw [hk,keyLt'_oneType]
 exact wpS_bind (wpS_lift (wpAny_attempt (oneLt_int ⟨rfl,wpS_pure h⟩)))
theorem elem_ok {st:SortSt} {xs:Array Keyed} {i:Nat} {Q:Keyed→SortSt→Prop} (hi:i < xs.size) (h:Q xs[i] st):wpS (model prog w) A E s (elem' xs i) Q st:=by
 rw [elem'_eq,getElem?_pos xs i hi]
 exact wpS_pure h
end
def gal:Bool→Keyed→Array Keyed→Nat→Nat→Nat→SM (Option Nat):=sortPriv% PySem.Builtin.gallop
def by1 (left:Bool) (key:Keyed) (arr:Array Keyed) (z:Nat):SM (Option Bool):=do
 let x ← elem' arr z
 if left then lt' x key else return (← lt' key x).map (!·)
theorem gal_eq (left:Bool) (key:Keyed) (arr:Array Keyed) (base n hint:Nat):gal left key arr base n hint=(do
 let f:Nat→SM (Option Bool):=fun i=>by1 left key arr (base + i)
 let mut l1:=0
 let mut o1:=1
 let mut lo:=0
 let mut hi:=0
 let some rg ← f hint | return none
 if rg then
  let mx:=n - hint
  for _ in [0:n] do
   if o1 ≥ mx then break
   let some b ← f (hint + o1) | return none
   if !b then break
   l1:=o1
   o1:=2 * o1 + 1
  lo:=hint + l1 + 1
  hi:=hint + min o1 mx
 else
  let mx:=hint + 1
  for _ in [0:n] do
   if o1 ≥ mx then break
   let some b ← f (hint - o1) | return none
   if b then break
   l1:=o1
   o1:=2 * o1 + 1
  lo:=hint + 1 - min o1 mx
  hi:=hint - l1
 for _ in [0:n] do
  if lo ≥ hi then break
  let m:=lo + (hi - lo) / 2
  let some b ← f m | return none
  if b then lo:=m + 1 else hi:=m
 return some hi):=rfl
section
variable {prog:Program} {w:World} {A:Around} {E:Value→Shared→Prop} {s:Shared}
def bef (left:Bool) (key:Keyed) (arr:Array Keyed) (i:Nat):Bool:=if left=true then decide (K arr i < numOf key.1) else !decide (numOf key.1 < K arr i)
theorem bef_mono {left:Bool} {key:Keyed} {arr:Array Keyed} {lo hi:Nat} (hs:Up arr lo hi) {i j:Nat} (hi1:lo≤i) (hij:i≤j) (hj:j < hi) (h:bef left key arr j=true):bef left key arr i=true:=by
 have z:=hs i j hi1 hij hj
 cases left
 ·simp [bef] at h ⊢; omega
 ·simp [bef] at h ⊢; omega
theorem by1_ok {left:Bool} {key:Keyed} {arr:Array Keyed} {i:Nat} {st:SortSt} {Q:Option Bool→SortSt→Prop} (hk:kindOf st=oneType') (ha:IK arr) (hy:Num key) (hi:i < arr.size) (h:Q (some (bef left key arr i)) st):wpS (model prog w) A E s (by1 left key arr i) Q st:=by
 unfold by1
 refine wpS_bind (elem_ok hi ?_)
 have e:=K_get hi
 cases left
 ·refine wpS_bind (lt_ok hk hy (ha.get hi) (wpS_pure ?_))
  simpa [bef,e] using h
 ·refine lt_ok hk (ha.get hi) hy ?_
  simpa [bef,e] using h
theorem bs_ok {left:Bool} {key:Keyed} {arr:Array Keyed} {base n lo hi:Nat} {st:SortSt} {Q:Option (Option Nat) × Nat × Nat→SortSt→Prop} (hk:kindOf st=oneType') (ha:IK arr) (hy:Num key) (hn:base + n≤arr.size) (hs:Up arr base (base + n))
  (h1:lo≤hi) (h2:hi≤n) (h3:∀ i,i < lo→bef left key arr (base + i)=true) (h4:∀ i,hi≤i→i < n→bef left key arr (base + i)=false)
  (h:∀ l k,k≤n→(∀ i,i < k→bef left key arr (base + i)=true)→(∀ i,k≤i→i < n→bef left key arr (base + i)=false)→Q (none,l,k) st):
  wpS (model prog w) A E s (forIn [0:n] ((none,lo,hi):Option (Option Nat) × Nat × Nat) fun _ c=>
    if c.2.1 ≥ c.2.2 then pure (.done (none,c.2.1,c.2.2)) else do
     match ← by1 left key arr (base + (c.2.1 + (c.2.2 - c.2.1) / 2)) with
     | some b=>if b=true then pure (.yield (none,c.2.1 + (c.2.2 - c.2.1) / 2 + 1,c.2.2)) else pure (.yield (none,c.2.1,c.2.1 + (c.2.2 - c.2.1) / 2))
     | _=>pure (.done (some none,c.2.1,c.2.2))) Q st:=by
 refine wpS_mono (wpS_forRange (I:=fun x c st'=>st'=st∧∃ l u,c=(none,l,u)∧l≤u∧u≤n∧u - l≤n - x∧(∀ i,i < l→bef left key arr (base + i)=true)∧(∀ i,u≤i→i < n→bef left key arr (base + i)=false))
  (Q:=fun c st'=>st'=st∧∃ l u,c=(none,l,u)∧u≤n∧(∀ i,i < u→bef left key arr (base + i)=true)∧(∀ i,u≤i→i < n→bef left key arr (base + i)=false)) ?a ?b ⟨rfl,lo,hi,rfl,h1,h2,by omega,h3,h4⟩) ?c
 case b=>
  rintro c st' ⟨rfl,l,u,rfl,b1,b2,b3,b4,b5⟩
  have:l=u:=by omega
  subst this
  exact ⟨rfl,l,l,rfl,b2,b4,b5⟩
 case c=>
  rintro c st' ⟨rfl,l,u,rfl,b2,b4,b5⟩
  exact h l u b2 b4 b5
 case a=>
  rintro x c st' _ hx ⟨rfl,l,u,rfl,b1,b2,b3,b4,b5⟩
  dsimp only
  by_cases g:l ≥ u
  ·rw [if_pos g]
   have:l=u:=by omega
   subst this
   exact wpS_pure ⟨rfl,l,l,rfl,b2,b4,b5⟩
  ·rw [if_neg g]
   refine wpS_bind (by1_ok hk ha hy (by omega) ?_)
   dsimp only
   cases eb:bef left key arr (base + (l + (u - l) / 2)) with
   | true=>
    rw [if_pos rfl]
    refine wpS_pure ⟨rfl,_,_,rfl,by omega,b2,by omega,fun i hi=>?_,b5⟩
    exact bef_mono hs (by omega) (by omega) (by omega) eb
   | false=>
    rw [if_neg Bool.false_ne_true]
    refine wpS_pure ⟨rfl,_,_,rfl,by omega,by omega,by omega,b4,fun i h1 h2=>?_⟩
    cases e2:bef left key arr (base + i) with
    | false=>rfl
    | true=>
     have:=bef_mono (left:=left) (key:=key) hs (i:=base + (l + (u - l) / 2)) (j:=base + i) (by omega) (by omega) (by omega) e2
     rw [eb] at this
     cases this
theorem gal_ok {left:Bool} {key:Keyed} {arr:Array Keyed} {base n hint:Nat} {st:SortSt} {Q:Option Nat→SortSt→Prop} (hk:kindOf st=oneType') (ha:IK arr) (hy:Num key) (hn:base + n≤arr.size) (hh:hint < n) (hs:Up arr base (base + n))
  (h:∀ k,k≤n→(∀ i,i < k→bef left key arr (base + i)=true)→(∀ i,k≤i→i < n→bef left key arr (base + i)=false)→Q (some k) st):
  wpS (model prog w) A E s (gal left key arr base n hint) Q st:=by
 have no:∀ i j,i≤j→j < n→bef left key arr (base + i)=false→bef left key arr (base + j)=false:=fun i j h1 h2 e=>by
  cases e2:bef left key arr (base + j) with
  | false=>rfl
  | true=>
   have:=bef_mono (left:=left) (key:=key) hs (i:=base + i) (j:=base + j) (by omega) (by omega) (by omega) e2
   rw [e] at this
   cases this
 have ys:∀ i j,i≤j→j < n→bef left key arr (base + j)=true→bef left key arr (base + i)=true:=fun i j h1 h2 e=>
  bef_mono hs (by omega) (by omega) (by omega) e
 rw [gal_eq]
 dsimp only
 refine wpS_bind (by1_ok hk ha hy (by omega) ?_)
 dsimp only
 cases e0:bef left key arr (base + hint) with
 | true=>
  rw [if_pos rfl]
  refine wpS_bind (wpS_mono (wpS_forRange (I:=fun x c st'=>st'=st∧∃ l o,c=(none,l,o)∧l < o∧x + 1≤o∧l < n - hint∧bef left key arr (base + (hint + l))=true)
   (Q:=fun c st'=>st'=st∧∃ l o,c=(none,l,o)∧l < o∧l < n - hint∧bef left key arr (base + (hint + l))=true∧(o < n - hint→bef left key arr (base + (hint + o))=false)) ?a ?b ⟨rfl,0,1,rfl,by omega,by omega,by omega,e0⟩) ?c)
  case b=>
   rintro c st' ⟨rfl,l,o,rfl,b1,b2,b3,b4⟩
   exact ⟨rfl,l,o,rfl,b1,b3,b4,fun z=>by omega⟩
  case a=>
   rintro x c st' _ hx ⟨rfl,l,o,rfl,b1,b2,b3,b4⟩
   dsimp only
   by_cases g:o ≥ n - hint
   ·rw [if_pos g]
    exact wpS_pure ⟨rfl,l,o,rfl,b1,b3,b4,fun z=>by omega⟩
   ·rw [if_neg g]
    refine wpS_bind (by1_ok hk ha hy (by omega) ?_)
    dsimp only
    cases eb:bef left key arr (base + (hint + o)) with
    | false=>
     rw [if_pos (by decide)]
     exact wpS_pure ⟨rfl,l,o,rfl,b1,b3,b4,fun _=>eb⟩
    | true=>
     rw [if_neg (by decide)]
     exact wpS_pure ⟨rfl,o,2 * o + 1,rfl,by omega,by omega,by omega,eb⟩
  case c=>
   rintro c st' ⟨rfl,l,o,rfl,b1,b3,b4,b5⟩
   dsimp only
   refine wpS_bind (bs_ok (lo:=hint + l + 1) (hi:=hint + min o (n - hint)) hk ha hy hn hs (by omega) (by omega) (fun i hi=>?_) (fun i h1 h2=>?_) fun _ k a b c=>wpS_pure (h k a b c))
   ·exact ys i (hint + l) (by omega) (by omega) b4
   ·by_cases g:o < n - hint
    ·exact no (hint + o) i (by omega) h2 (b5 g)
    ·omega
 | false=>
  rw [if_neg Bool.false_ne_true]
  refine wpS_bind (wpS_mono (wpS_forRange (I:=fun x c st'=>st'=st∧∃ l o,c=(none,l,o)∧l < o∧x + 1≤o∧l≤hint∧bef left key arr (base + (hint - l))=false)
   (Q:=fun c st'=>st'=st∧∃ l o,c=(none,l,o)∧l < o∧l≤hint∧bef left key arr (base + (hint - l))=false∧(o≤hint→bef left key arr (base + (hint - o))=true)) ?a ?b ⟨rfl,0,1,rfl,by omega,by omega,by omega,e0⟩) ?c)
  case b=>
   rintro c st' ⟨rfl,l,o,rfl,b1,b2,b3,b4⟩
   exact ⟨rfl,l,o,rfl,b1,b3,b4,fun z=>by omega⟩
  case a=>
   rintro x c st' _ hx ⟨rfl,l,o,rfl,b1,b2,b3,b4⟩
   dsimp only
   by_cases g:o ≥ hint + 1
   ·rw [if_pos g]
    exact wpS_pure ⟨rfl,l,o,rfl,b1,b3,b4,fun z=>by omega⟩
   ·rw [if_neg g]
    refine wpS_bind (by1_ok hk ha hy (by omega) ?_)
    dsimp only
    cases eb:bef left key arr (base + (hint - o)) with
    | true=>
     rw [if_pos rfl]
     exact wpS_pure ⟨rfl,l,o,rfl,b1,b3,b4,fun _=>eb⟩
    | false=>
     rw [if_neg Bool.false_ne_true]
     exact wpS_pure ⟨rfl,o,2 * o + 1,rfl,by omega,by omega,by omega,eb⟩
  case c=>
   rintro c st' ⟨rfl,l,o,rfl,b1,b3,b4,b5⟩
   dsimp only
   refine wpS_bind (bs_ok (lo:=hint + 1 - min o (hint + 1)) (hi:=hint - l) hk ha hy hn hs (by omega) (by omega) (fun i hi=>?_) (fun i h1 h2=>?_) fun _ k a b c=>wpS_pure (h k a b c))
   ·by_cases g:o≤hint
    ·exact ys i (hint - o) (by omega) (by omega) (b5 g)
    ·omega
   ·exact no (hint - l) i (by omega) h2 b4
end
end SR
namespace SR
open PySem PyProof.Rows
def mLo:Array Keyed→Array Keyed→SM (Array Keyed):=sortPriv% PySem.Builtin.mergeLo
def sMG:Nat→SM Unit:=sortPriv% PySem.Builtin.setMinGallop
theorem mLo_eq (a b:Array Keyed):mLo a b=(do
 rule "list.sort.merge-lo"
 let tt:=a.size + b.size
 let dn (o:Array Keyed) (i j:Nat):=o ++ a.extract i a.size ++ b.extract j b.size
 let la (o:Array Keyed) (i j:Nat):=o ++ b.extract j b.size ++ a.extract i a.size
 let mut o:Array Keyed:=#[← elem' b 0]
 let mut i:=0
 let mut j:=1
 if j == b.size then return dn o i j
 if i + 1 == a.size then return la o i j
 let mut g:=gallopOf (← get)
 for _ in [0:tt] do
  let mut ca:=0
  let mut cb:=0
  for _ in [0:tt] do
   let some v ← lt' (← elem' b j) (← elem' a i) | return dn o i j
   if v then
    o:=o.push (← elem' b j); j:=j + 1; cb:=cb + 1; ca:=0
    if j == b.size then return dn o i j
    if cb ≥ g then break
   else
    o:=o.push (← elem' a i); i:=i + 1; ca:=ca + 1; cb:=0
    if i + 1 == a.size then return la o i j
    if ca ≥ g then break
  rule "list.sort.gallop"
  g:=g + 1
  for _ in [0:tt] do
   if g > 1 then g:=g - 1
   sMG g
   let some k ← gal false (← elem' b j) a i (a.size - i) 0 | return dn o i j
   ca:=k
   if k > 0 then
    o:=o ++ a.extract i (i + k); i:=i + k
    if i + 1 == a.size then return la o i j
    if i == a.size then return dn o i j
   o:=o.push (← elem' b j); j:=j + 1
   if j == b.size then return dn o i j
   let some k ← gal true (← elem' a i) b j (b.size - j) 0 | return dn o i j
   cb:=k
   if k > 0 then
    o:=o ++ b.extract j (j + k); j:=j + k
    if j == b.size then return dn o i j
   o:=o.push (← elem' a i); i:=i + 1
   if i + 1 == a.size then return la o i j
   if ca < 7 && cb < 7 then break
  g:=g + 1
  sMG g
 unsupported "internal:list.sort.merge-bound"):=rfl
def ke (p:Keyed):Int:=numOf p.1
def Sd (l:List Keyed):Prop:=l.Pairwise fun p q=>ke p≤ke q
structure Ml (tot o X Y:List Keyed):Prop where
 perm:(o ++ (X ++ Y)).Perm tot
 sd:Sd o
 le:∀ p ∈ o,∀ q ∈ X ++ Y,ke p≤ke q
theorem Ml.left {tot o L X Y:List Keyed} (h:Ml tot o (L ++ X) Y) (hs:Sd (L ++ X)) (hl:∀ p ∈ L,∀ q ∈ Y,ke p≤ke q):Ml tot (o ++ L) X Y:=by
 obtain ⟨s1,s2,s3⟩:=List.pairwise_append.mp hs
 refine ⟨by simpa [List.append_assoc] using h.perm,List.pairwise_append.mpr ⟨h.sd,s1,fun p hp q hq=>h.le p hp q (by simp [hq])⟩,fun p hp q hq=>?_⟩
 rcases List.mem_append.mp hp with hp | hp
 ·refine h.le p hp q ?_
  rcases List.mem_append.mp hq with hq | hq <;> simp [hq]
 ·rcases List.mem_append.mp hq with hq | hq
  ·exact s3 p hp q hq
  ·exact hl p hp q hq
theorem Ml.swap {tot o X Y:List Keyed} (h:Ml tot o X Y):Ml tot o Y X:=⟨(List.perm_append_comm.append_left o).trans h.perm,h.sd,fun p hp q hq=>h.le p hp q (by rcases List.mem_append.mp hq with z | z <;> simp [z])⟩
theorem Ml.right {tot o L X Y:List Keyed} (h:Ml tot o X (L ++ Y)) (hs:Sd (L ++ Y)) (hl:∀ p ∈ L,∀ q ∈ X,ke p≤ke q):Ml tot (o ++ L) X Y:=(h.swap.left hs hl).swap
theorem Ml.done {tot o:List Keyed} (h:Ml tot o [] []):o.Perm tot∧Sd o:=⟨by simpa using h.perm,h.sd⟩
def Mg (a b o:Array Keyed) (i j:Nat):Prop:=Ml (a.toList ++ b.toList) o.toList (a.toList.drop i) (b.toList.drop j)
def Good (a b r:Array Keyed):Prop:=r.toList.Perm (a.toList ++ b.toList)∧Sd r.toList
theorem sd_of {a:Array Keyed} (h:Up a 0 a.size):Sd a.toList:=by
 unfold Sd
 rw [List.pairwise_iff_getElem]
 intro i j hi hj hij
 have hi':i < a.size:=by simpa using hi
 have hj':j < a.size:=by simpa using hj
 have z:=h i j (Nat.zero_le _) (Nat.le_of_lt hij) hj'
 rw [K_get hi',K_get hj'] at z
 simpa [ke] using z
theorem up_of {a:Array Keyed} (h:Sd a.toList):Up a 0 a.size:=by
 intro i j _ hij hj
 by_cases e:i=j
 ·subst e; exact Int.le_refl _
 ·unfold Sd at h
  rw [List.pairwise_iff_getElem] at h
  have z:=h i j (by simpa using (by omega:i < a.size)) (by simpa using hj) (by omega)
  rw [K_get (by omega),K_get hj]
  simpa [ke] using z
theorem Sd.drop {l:List Keyed} (h:Sd l) (i:Nat):Sd (l.drop i):=List.Pairwise.sublist (List.drop_sublist i l) h
theorem drop_get {a:Array Keyed} {i:Nat} (hi:i < a.size):a.toList.drop i=[a[i]] ++ a.toList.drop (i + 1):=by
 rw [List.drop_eq_getElem_cons (by simpa using hi)]
 simp
theorem drop_cut {a:Array Keyed} (i k:Nat):a.toList.drop i=(a.toList.drop i).take k ++ a.toList.drop (i + k):=by
 rw [← List.drop_drop,List.take_append_drop]
theorem ext_list (a:Array Keyed) (i j:Nat):(a.extract i j).toList=(a.toList.drop i).take (j - i):=by
 rw [Array.toList_extract]
theorem mem_drop {a:Array Keyed} {i:Nat} {p:Keyed} (h:p ∈ a.toList.drop i):∃ t,i≤t∧t < a.size∧ke p=K a t:=by
 obtain ⟨n,hn,e⟩:=List.mem_iff_getElem.mp h
 have hl:i + n < a.size:=by simp at hn; omega
 refine ⟨i + n,by omega,hl,?_⟩
 rw [K_get hl,← e]
 simp [ke]
theorem mem_cut {a:Array Keyed} {i k:Nat} {p:Keyed} (h:p ∈ (a.toList.drop i).take k):∃ t,t < k∧i + t < a.size∧ke p=K a (i + t):=by
 obtain ⟨n,hn,e⟩:=List.mem_iff_getElem.mp h
 have hl:n < k∧i + n < a.size:=by simp at hn; omega
 refine ⟨n,hl.1,hl.2,?_⟩
 rw [K_get hl.2,← e]
 simp [ke]
section
variable {a b o:Array Keyed} {i j k:Nat}
theorem Mg.bulkA (ha:Up a 0 a.size) (hb:Up b 0 b.size) (h:Mg a b o i j) (hj:j < b.size) (hk:∀ t,t < k→i + t < a.size→K a (i + t)≤K b j):Mg a b (o ++ a.extract i (i + k)) (i + k) j:=by
 unfold Mg at h ⊢
 have e:(o ++ a.extract i (i + k)).toList=o.toList ++ (a.toList.drop i).take k:=by rw [Array.toList_append,ext_list]; simp
 rw [e]
 rw [drop_cut i k] at h
 refine h.left (by rw [← drop_cut]; exact (sd_of ha).drop i) fun p hp q hq=>?_
 obtain ⟨t,t1,t2,e1⟩:=mem_cut hp
 obtain ⟨u,u1,u2,e2⟩:=mem_drop hq
 have:=hk t t1 t2
 have:=hb j u (Nat.zero_le _) u1 u2
 omega
theorem Mg.bulkB (ha:Up a 0 a.size) (hb:Up b 0 b.size) (h:Mg a b o i j) (hi:i < a.size) (hk:∀ t,t < k→j + t < b.size→K b (j + t)≤K a i):Mg a b (o ++ b.extract j (j + k)) i (j + k):=by
 unfold Mg at h ⊢
 have e:(o ++ b.extract j (j + k)).toList=o.toList ++ (b.toList.drop j).take k:=by rw [Array.toList_append,ext_list]; simp
 rw [e]
 rw [drop_cut j k] at h
 refine h.right (by rw [← drop_cut]; exact (sd_of hb).drop j) fun p hp q hq=>?_
 obtain ⟨t,t1,t2,e1⟩:=mem_cut hp
 obtain ⟨u,u1,u2,e2⟩:=mem_drop hq
 have:=hk t t1 t2
 have:=ha i u (Nat.zero_le _) u1 u2
 omega
theorem Mg.pushA (ha:Up a 0 a.size) (hb:Up b 0 b.size) (h:Mg a b o i j) (hi:i < a.size) (hj:j < b.size) (hk:K a i≤K b j):Mg a b (o.push a[i]) (i + 1) j:=by
 unfold Mg at h ⊢
 rw [drop_get hi] at h
 rw [Array.toList_push]
 refine h.left (by rw [← drop_get hi]; exact (sd_of ha).drop i) fun p hp q hq=>?_
 rw [List.mem_singleton.mp hp]
 obtain ⟨u,u1,u2,e2⟩:=mem_drop hq
 have:=hb j u (Nat.zero_le _) u1 u2
 have e:=K_get hi
 unfold ke at e2 ⊢
 omega
theorem Mg.pushB (ha:Up a 0 a.size) (hb:Up b 0 b.size) (h:Mg a b o i j) (hi:i < a.size) (hj:j < b.size) (hk:K b j≤K a i):Mg a b (o.push b[j]) i (j + 1):=by
 unfold Mg at h ⊢
 rw [drop_get hj] at h
 rw [Array.toList_push]
 refine h.right (by rw [← drop_get hj]; exact (sd_of hb).drop j) fun p hp q hq=>?_
 rw [List.mem_singleton.mp hp]
 obtain ⟨u,u1,u2,e2⟩:=mem_drop hq
 have:=ha i u (Nat.zero_le _) u1 u2
 have e:=K_get hj
 unfold ke at e2 ⊢
 omega
theorem ext_all (a:Array Keyed) (i:Nat):(a.extract i a.size).toList=a.toList.drop i:=by
 rw [ext_list,List.take_of_length_le (by simp)]
theorem Mg.dn (ha:Up a 0 a.size) (hb:Up b 0 b.size) (h:Mg a b o i j) (hz:j=b.size ∨ i=a.size):Good a b (o ++ a.extract i a.size ++ b.extract j b.size):=by
 unfold Mg at h
 unfold Good
 rw [Array.toList_append,Array.toList_append,ext_all,ext_all]
 rcases hz with rfl | rfl
 ·have e:b.toList.drop b.size=[]:=by simp
  rw [e] at h ⊢
  rw [List.append_nil]
  refine Ml.done (Ml.left (by simpa using h) (by simpa using (sd_of ha).drop i) fun p hp q hq=>by cases hq)
 ·have e:a.toList.drop a.size=[]:=by simp
  rw [e] at h ⊢
  rw [List.append_nil]
  refine Ml.done (Ml.right (by simpa using h) (by simpa using (sd_of hb).drop j) fun p hp q hq=>by cases hq)
theorem Mg.la (ha:Up a 0 a.size) (hb:Up b 0 b.size) (h:Mg a b o i j) (hi:i + 1=a.size) (hl:∀ t,t < b.size→K b t≤K a (a.size - 1)):Good a b (o ++ b.extract j b.size ++ a.extract i a.size):=by
 unfold Mg at h
 unfold Good
 rw [Array.toList_append,Array.toList_append,ext_all,ext_all]
 have h1:Ml (a.toList ++ b.toList) (o.toList ++ b.toList.drop j) (a.toList.drop i) []:=by
  refine Ml.right (by simpa using h) (by simpa using (sd_of hb).drop j) fun p hp q hq=>?_
  obtain ⟨t,t1,t2,e1⟩:=mem_drop hp
  obtain ⟨u,u1,u2,e2⟩:=mem_drop hq
  have:=hl t t2
  have:u=a.size - 1:=by omega
  subst this
  omega
 exact Ml.done (Ml.left (by simpa using h1) (by simpa using (sd_of ha).drop i) fun p hp q hq=>by cases hq)
end
section
variable {prog:Program} {w:World} {A:Around} {E:Value→Shared→Prop} {s:Shared}
def Sg (st st':SortSt):Prop:=kindOf st'=kindOf st∧arrOf st'=arrOf st∧pendingOf st'=pendingOf st∧failedOf st'=failedOf st
theorem Sg.refl (st:SortSt):Sg st st:=⟨rfl,rfl,rfl,rfl⟩
theorem sMG_ok {st0 st:SortSt} {g:Nat} {Q:Unit→SortSt→Prop} (h0:Sg st0 st) (h:∀ st',Sg st0 st'→Q () st'):wpS (model prog w) A E s (sMG g) Q st:=by
 have e:sMG g=modify fun st=>SortSt.mk' (kindOf st) (arrOf st) (pendingOf st) g (failedOf st):=rfl
 rw [e]
 exact wpS_modify (h _ ⟨h0.1,h0.2.1,h0.2.2.1,h0.2.2.2⟩)
end
end SR
namespace SR
open PySem PyProof.Rows
section
variable {prog:Program} {w:World} {A:Around} {E:Value→Shared→Prop} {s:Shared}
structure Mid (a b o:Array Keyed) (i j:Nat):Prop where
 mg:Mg a b o i j
 ia:i + 1 < a.size
 jb:j < b.size
theorem wp_ite2 {σ α β:Type} {M:Model} {c:Prop} {dc:Decidable c} {T:β→StateT σ Sem α} {p:StateT σ Sem α} {Q:α→σ→Prop} {st:σ} {y x:β} (hp:p=T x) (h:∀ g,wpS M A E s (T g) Q st):wpS M A E s (if c then p else T y) Q st:=by
 split
 ·rw [hp]; exact h x
 ·exact h y
theorem wp_key {σ α β γ:Type} {M:Model} {c:Prop} {dc:Decidable c} {T:β→γ→StateT σ Sem α} {p:StateT σ Sem α} {Q:α→σ→Prop} {st:σ} {I:β→γ→Prop} {y1:β} {y2:γ} (hn:¬ c→I y1 y2)
  (ht:∀ o i,I o i→wpS M A E s (T o i) Q st) (hp:c→(∀ o i,I o i→wpS M A E s (T o i) Q st)→wpS M A E s p Q st):wpS M A E s (if c then p else T y1 y2) Q st:=by
 by_cases hc:c
 ·rw [if_pos hc]; exact hp hc ht
 ·rw [if_neg hc]; exact ht _ _ (hn hc)
theorem mLo_ok {a b:Array Keyed} {st:SortSt} {Q:Array Keyed→SortSt→Prop} (hk:kindOf st=oneType') (ia:IK a) (ib:IK b) (ha:Up a 0 a.size) (hb:Up b 0 b.size) (a1:1≤a.size) (b1:1≤b.size) (h0:K b 0≤K a 0) (hl:∀ t,t < b.size→K b t≤K a (a.size - 1))
  (h:∀ r st',Good a b r→Sg st st'→Q r st'):wpS (model prog w) A E s (mLo a b) Q st:=by
 rw [mLo_eq]
 dsimp only
 refine wpS_bind (wpS_lift (wpAny_rule ⟨rfl,?_⟩))
 refine wpS_bind (elem_ok (by omega) ?_)
 have m0:Mg a b #[b[0]] 0 1:=by
  have z:Mg a b #[] 0 0:=⟨by simp,List.Pairwise.nil,fun p hp=>by cases hp⟩
  exact z.pushB ha hb (by omega) (by omega) h0
 by_cases g1:1=b.size
 ·rw [if_pos (by simpa using g1)]
  exact wpS_pure (h _ _ (m0.dn ha hb (.inl g1)) (Sg.refl st))
 rw [if_neg (by simpa using g1)]
 by_cases g2:0 + 1=a.size
 ·rw [if_pos (by simpa using g2)]
  exact wpS_pure (h _ _ (m0.la ha hb g2 hl) (Sg.refl st))
 rw [if_neg (by simpa using g2)]
 refine wpS_bind (wpS_get ?_)
 have kd:∀ {st'},Sg st st'→kindOf st'=oneType':=fun z=>z.1.trans hk
 refine wpS_bind (wpS_mono (wpS_forRange (I:=fun x c st'=>Sg st st'∧∃ o i j g,c=(none,o,i,j,g)∧Mid a b o i j∧x + 1≤i + j)
  (Q:=fun c st'=>Sg st st'∧∃ r,c.1=some r∧Good a b r) ?step ?fin ⟨Sg.refl st,_,0,1,_,rfl,⟨m0,by omega,by omega⟩,by omega⟩) ?post)
 case fin=>
  rintro c st' ⟨_,o,i,j,g,_,m,hx⟩
  have:=m.ia; have:=m.jb
  omega
 case post=>
  rintro ⟨c,o,i,j,g⟩ st' ⟨z,r,e,hr⟩
  cases e
  exact wpS_pure (h r st' hr z)
 case step=>
  rintro x c st' _ hx ⟨z,o,i,j,g,rfl,m,hp⟩
  dsimp only
  refine wpS_bind (wpS_mono (wpS_forRange (I:=fun y c st'=>Sg st st'∧∃ o' i' j' ca cb,c=(none,o',i',j',ca,cb)∧Mid a b o' i' j'∧i + j + y≤i' + j')
   (Q:=fun c st'=>Sg st st'∧((∃ r,c.1=some r∧Good a b r) ∨ ∃ o' i' j' ca cb,c=(none,o',i',j',ca,cb)∧Mid a b o' i' j'∧i + j + 1≤i' + j')) ?s1 ?f1 ⟨z,o,i,j,0,0,rfl,m,by omega⟩) ?p1)
  case f1=>
   rintro c st' ⟨z,o',i',j',ca,cb,rfl,m,hy⟩
   exact ⟨z,.inr ⟨o',i',j',ca,cb,rfl,m,by omega⟩⟩
  case s1=>
   rintro y c st' _ hy ⟨z,o',i',j',ca,cb,rfl,m,hp'⟩
   dsimp only
   have mi:=m.ia
   have mj:=m.jb
   refine wpS_bind (elem_ok mj ?_)
   refine wpS_bind (elem_ok (by omega) ?_)
   refine wpS_bind (lt_ok (kd z) (ib.get mj) (ia.get (by omega)) ?_)
   dsimp only
   rw [← K_get mj,← K_get (show i' < a.size by omega)]
   by_cases hlt:K b j' < K a i'
   ·rw [if_pos (by simpa using hlt)]
    refine wpS_bind (elem_ok mj ?_)
    have m2:=m.mg.pushB ha hb (by omega) mj (Int.le_of_lt hlt)
    by_cases e1:j' + 1=b.size
    ·rw [if_pos (by simpa using e1)]
     exact wpS_pure ⟨z,.inl ⟨_,rfl,m2.dn ha hb (.inl e1)⟩⟩
    ·rw [if_neg (by simpa using e1)]
     split
     ·exact wpS_pure ⟨z,.inr ⟨_,_,_,_,_,rfl,⟨m2,by omega,by omega⟩,by omega⟩⟩
     ·exact wpS_pure ⟨z,_,_,_,_,_,rfl,⟨m2,by omega,by omega⟩,by omega⟩
   ·rw [if_neg (by simpa using hlt)]
    refine wpS_bind (elem_ok (by omega) ?_)
    have m2:=m.mg.pushA ha hb (by omega) mj (Int.not_lt.mp hlt)
    by_cases e1:i' + 1 + 1=a.size
    ·rw [if_pos (by simpa using e1)]
     exact wpS_pure ⟨z,.inl ⟨_,rfl,m2.la ha hb e1 hl⟩⟩
    ·rw [if_neg (by simpa using e1)]
     split
     ·exact wpS_pure ⟨z,.inr ⟨_,_,_,_,_,rfl,⟨m2,by omega,by omega⟩,by omega⟩⟩
     ·exact wpS_pure ⟨z,_,_,_,_,_,rfl,⟨m2,by omega,by omega⟩,by omega⟩
  case p1=>
   rintro c st' ⟨z,⟨r,e,hr⟩ | ⟨o',i',j',ca,cb,rfl,m,hp'⟩⟩
   ·obtain ⟨c,o',i',j',ca,cb⟩:=c
    cases e
    exact wpS_pure ⟨z,r,rfl,hr⟩
   dsimp only
   refine wpS_bind (wpS_lift (wpAny_rule ⟨rfl,?_⟩))
   refine wpS_bind (wpS_mono (wpS_forRange (I:=fun y c st'=>Sg st st'∧∃ o2 i2 j2 g ca cb,c=(none,o2,i2,j2,g,ca,cb)∧Mid a b o2 i2 j2∧i + j + 1≤i2 + j2)
    (Q:=fun c st'=>Sg st st'∧((∃ r,c.1=some r∧Good a b r) ∨ ∃ o2 i2 j2 g ca cb,c=(none,o2,i2,j2,g,ca,cb)∧Mid a b o2 i2 j2∧i + j + 1≤i2 + j2)) ?s2 ?f2 ⟨z,_,_,_,_,_,_,rfl,m,hp'⟩) ?p2)
   case f2=>
    rintro c st' ⟨z,o2,i2,j2,g2,ca,cb,rfl,m,hy⟩
    exact ⟨z,.inr ⟨o2,i2,j2,g2,ca,cb,rfl,m,hy⟩⟩
   case p2=>
    rintro c st' ⟨z,⟨r,e,hr⟩ | ⟨o2,i2,j2,g2,ca,cb,rfl,m,hp'⟩⟩
    ·obtain ⟨c,o2,i2,j2,g2,ca,cb⟩:=c
     cases e
     exact wpS_pure ⟨z,r,rfl,hr⟩
    dsimp only
    exact wpS_bind (sMG_ok z fun st' z=>wpS_pure ⟨z,_,_,_,_,rfl,m,by omega⟩)
   case s2=>
    rintro y c st' _ hy ⟨z,o2,i2,j2,g2,ca,cb,rfl,m,hp'⟩
    dsimp only
    have mi:=m.ia
    have mj:=m.jb
    have hm:=m.mg
    clear m
    apply wp_ite2 (y:=g2) (x:=g2 - 1)
    case hp=>rfl
    intro g3
    refine wpS_bind (sMG_ok z fun st' z=>?_)
    refine wpS_bind (elem_ok mj ?_)
    refine wpS_bind (gal_ok (kd z) ia (ib.get mj) (by omega) (by omega) (fun p q _ hpq hq=>ha p q (Nat.zero_le _) hpq (by omega)) fun k k1 k2 k3=>?_)
    dsimp only
    have q2:∀ t,t < k→i2 + t < a.size→K a (i2 + t)≤K b j2:=fun t ht _=>by
     have:=k2 t ht
     rw [K_get mj]
     simpa [bef] using this
    have q3:k < a.size - i2→K b j2≤K a (i2 + k):=fun hkk=>by
     have:=k3 k (Nat.le_refl _) hkk
     rw [K_get mj]
     exact Int.le_of_lt (by simpa [bef] using this)
    have hm':=hm.bulkA ha hb mj q2
    apply wp_key (I:=fun o3 i3=>Mg a b o3 i3 j2∧i3 + 1 < a.size∧i2≤i3∧K b j2≤K a i3) (y1:=o2) (y2:=i2)
    case hn=>
     intro hk0
     have hk1:k=0:=by omega
     subst hk1
     have hq3:=q3 (by omega)
     rw [Nat.add_zero] at hq3
     exact ⟨hm,by omega,Nat.le_refl _,hq3⟩
    case hp=>
     intro hk0 key
     split
     ·rename_i e3
      exact wpS_pure ⟨z,.inl ⟨_,rfl,hm'.la ha hb (by simpa using e3) hl⟩⟩
     ·rename_i e3
      split
      ·rename_i e4
       exact wpS_pure ⟨z,.inl ⟨_,rfl,hm'.dn ha hb (.inr (by simpa using e4))⟩⟩
      ·rename_i e4
       simp at e3 e4
       exact key _ _ ⟨hm',by omega,by omega,q3 (by omega)⟩
    intro o3 i3 y3
    obtain ⟨hm3,hi3,le3,hq3⟩:=y3
    have hi4:i3 < a.size:=by omega
    refine wpS_bind (elem_ok mj ?_)
    have m4:=hm3.pushB ha hb (by omega) mj hq3
    by_cases e4:j2 + 1=b.size
    ·rw [if_pos (by simpa using e4)]
     exact wpS_pure ⟨z,.inl ⟨_,rfl,m4.dn ha hb (.inl e4)⟩⟩
    rw [if_neg (by simpa using e4)]
    generalize o3.push b[j2]=o5 at m4 ⊢
    generalize ej:j2 + 1=j5 at m4 e4 ⊢
    refine wpS_bind (elem_ok hi4 ?_)
    refine wpS_bind (gal_ok (kd z) ib (ia.get hi4) (by omega) (by omega) (fun p q _ hpq hq=>hb p q (Nat.zero_le _) hpq (by omega)) fun u u1 u2 u3=>?_)
    dsimp only
    apply wp_key (I:=fun o4 j4=>Mg a b o4 i3 j4∧j4 < b.size∧j2 + 1≤j4∧K a i3≤K b j4) (y1:=o5) (y2:=j5)
    case hn=>
     intro hu
     have hu0:u=0:=by omega
     subst hu0
     have hq6:=u3 0 (Nat.le_refl _) (by omega)
     simp [bef] at hq6
     rw [← K_get hi4] at hq6
     exact ⟨m4,by omega,by omega,hq6⟩
    case hp=>
     intro hu key
     have hm6:=m4.bulkB (k:=u) ha hb hi4 fun t ht _=>by
      have:=u2 t ht
      rw [K_get hi4]
      exact Int.le_of_lt (by simpa [bef] using this)
     split
     ·rename_i e5
      exact wpS_pure ⟨z,.inl ⟨_,rfl,hm6.dn ha hb (.inl (by simpa using e5))⟩⟩
     ·rename_i e5
      simp at e5
      have hq6:=u3 u (Nat.le_refl _) (by omega)
      simp [bef] at hq6
      rw [← K_get hi4] at hq6
      exact key _ _ ⟨hm6,by omega,by omega,hq6⟩
    intro o4 j4 y4
    obtain ⟨hm6,hj6,le6,hq6⟩:=y4
    refine wpS_bind (elem_ok (by omega) ?_)
    have m6:=hm6.pushA ha hb (by omega) hj6 hq6
    split
    ·rename_i e6
     exact wpS_pure ⟨z,.inl ⟨_,rfl,m6.la ha hb (by simpa using e6) hl⟩⟩
    ·rename_i e6
     simp at e6
     split
     ·exact wpS_pure ⟨z,.inr ⟨_,_,_,_,_,_,rfl,⟨m6,by omega,by omega⟩,by omega⟩⟩
     ·exact wpS_pure ⟨z,_,_,_,_,_,_,rfl,⟨m6,by omega,by omega⟩,by omega⟩
end
end SR
namespace SR
open PySem PyProof.Rows
def mHi:Array Keyed→Array Keyed→SM (Array Keyed):=sortPriv% PySem.Builtin.mergeHi
theorem mHi_eq (a b:Array Keyed):mHi a b=(do
 rule "list.sort.merge-hi"
 let tt:=a.size + b.size
 let dn (o:Array Keyed) (i j:Nat):=a.extract 0 i ++ b.extract 0 j ++ o.reverse
 let fb (o:Array Keyed) (i j:Nat):=b.extract 0 j ++ a.extract 0 i ++ o.reverse
 let mut i:=a.size - 1
 let mut j:=b.size
 let mut o:Array Keyed:=#[← elem' a i]
 if i == 0 then return dn o i j
 if j == 1 then return fb o i j
 let mut g:=gallopOf (← get)
 for _ in [0:tt] do
  let mut ca:=0
  let mut cb:=0
  for _ in [0:tt] do
   let some v ← lt' (← elem' b (j - 1)) (← elem' a (i - 1)) | return dn o i j
   if v then
    i:=i - 1; o:=o.push (← elem' a i); ca:=ca + 1; cb:=0
    if i == 0 then return dn o i j
    if ca ≥ g then break
   else
    j:=j - 1; o:=o.push (← elem' b j); cb:=cb + 1; ca:=0
    if j == 1 then return fb o i j
    if cb ≥ g then break
  rule "list.sort.gallop"
  g:=g + 1
  for _ in [0:tt] do
   if g > 1 then g:=g - 1
   sMG g
   let some z ← gal false (← elem' b (j - 1)) a 0 i (i - 1) | return dn o i j
   let k:=i - z
   ca:=k
   if k > 0 then
    o:=o ++ (a.extract z i).reverse; i:=z
    if i == 0 then return dn o i j
   j:=j - 1; o:=o.push (← elem' b j)
   if j == 1 then return fb o i j
   let some z ← gal true (← elem' a (i - 1)) b 0 j (j - 1) | return dn o i j
   let k:=j - z
   cb:=k
   if k > 0 then
    o:=o ++ (b.extract z j).reverse; j:=z
    if j == 1 then return fb o i j
    if j == 0 then return dn o i j
   i:=i - 1; o:=o.push (← elem' a i)
   if i == 0 then return dn o i j
   if ca < 7 && cb < 7 then break
  g:=g + 1
  sMG g
 unsupported "internal:list.sort.merge-bound"):=rfl
structure Mr (tot X Y o:List Keyed):Prop where
 perm:(X ++ Y ++ o).Perm tot
 sd:Sd o
 le:∀ q ∈ X ++ Y,∀ p ∈ o,ke q≤ke p
theorem Mr.swap {tot o X Y:List Keyed} (h:Mr tot X Y o):Mr tot Y X o:=⟨(List.perm_append_comm.append_right o).trans h.perm,h.sd,fun q hq=>h.le q (by rcases List.mem_append.mp hq with z | z <;> simp [z])⟩
theorem Mr.left {tot o L X Y:List Keyed} (h:Mr tot Y (X ++ L) o) (hs:Sd (X ++ L)) (hl:∀ q ∈ Y,∀ p ∈ L,ke q≤ke p):Mr tot Y X (L ++ o):=by
 obtain ⟨s1,s2,s3⟩:=List.pairwise_append.mp hs
 refine ⟨by simpa [List.append_assoc] using h.perm,List.pairwise_append.mpr ⟨s2,h.sd,fun p hp q hq=>h.le p (by simp [hp]) q hq⟩,fun q hq p hp=>?_⟩
 rcases List.mem_append.mp hp with hp | hp
 ·rcases List.mem_append.mp hq with hq | hq
  ·exact hl q hq p hp
  ·exact s3 q hq p hp
 ·refine h.le q ?_ p hp
  rcases List.mem_append.mp hq with hq | hq <;> simp [hq]
theorem Mr.right {tot o L X Y:List Keyed} (h:Mr tot (X ++ L) Y o) (hs:Sd (X ++ L)) (hl:∀ q ∈ Y,∀ p ∈ L,ke q≤ke p):Mr tot X Y (L ++ o):=(h.swap.left hs hl).swap
theorem Mr.done {tot o:List Keyed} (h:Mr tot [] [] o):o.Perm tot∧Sd o:=⟨by simpa using h.perm,h.sd⟩
def Mt (a b o:Array Keyed) (i j:Nat):Prop:=Mr (a.toList ++ b.toList) (a.toList.take i) (b.toList.take j) o.toList.reverse
theorem Sd.take {l:List Keyed} (h:Sd l) (i:Nat):Sd (l.take i):=List.Pairwise.sublist (List.take_sublist i l) h
theorem mem_take {a:Array Keyed} {i:Nat} {p:Keyed} (h:p ∈ a.toList.take i):∃ t,t < i∧t < a.size∧ke p=K a t:=by
 obtain ⟨t,h1,h2,e⟩:=mem_cut (i:=0) (k:=i) (a:=a) (p:=p) (by simpa using h)
 exact ⟨t,h1,by omega,by simpa using e⟩
theorem take_get {a:Array Keyed} {i:Nat} (hi:i < a.size):a.toList.take (i + 1)=a.toList.take i ++ [a[i]]:=by
 rw [List.take_succ_eq_append_getElem (by simpa using hi)]
 simp
theorem take_cut {a:Array Keyed} {z i:Nat} (hz:z≤i):a.toList.take i=a.toList.take z ++ (a.toList.drop z).take (i - z):=by
 have e:i=z + (i - z):=by omega
 conv=>lhs; rw [e,List.take_add]
theorem ext_take (a:Array Keyed) (i:Nat):(a.extract 0 i).toList=a.toList.take i:=by
 rw [ext_list]; simp
section
variable {a b o:Array Keyed} {i j k z:Nat}
theorem Mt.bulkA (ha:Up a 0 a.size) (hb:Up b 0 b.size) (h:Mt a b o i j) (hj:j≤b.size) (j1:1≤j) (hz:z≤i) (hi:i≤a.size) (hk:∀ t,z≤t→t < i→K b (j - 1)≤K a t):Mt a b (o ++ (a.extract z i).reverse) z j:=by
 unfold Mt at h ⊢
 have e:(o ++ (a.extract z i).reverse).toList.reverse=(a.toList.drop z).take (i - z) ++ o.toList.reverse:=by rw [Array.toList_append,List.reverse_append,Array.toList_reverse,List.reverse_reverse,ext_list]
 rw [e]
 rw [take_cut hz] at h
 refine h.right (by rw [← take_cut hz]; exact (sd_of ha).take i) fun q hq p hp=>?_
 obtain ⟨t,t1,t2,e1⟩:=mem_cut hp
 obtain ⟨u,u1,u2,e2⟩:=mem_take hq
 have:=hk (z + t) (by omega) (by omega)
 have:=hb u (j - 1) (Nat.zero_le _) (by omega) (by omega)
 omega
theorem Mt.bulkB (ha:Up a 0 a.size) (hb:Up b 0 b.size) (h:Mt a b o i j) (hj:j≤b.size) (i1:1≤i) (hz:z≤j) (hi:i≤a.size) (hk:∀ t,z≤t→t < j→K a (i - 1)≤K b t):Mt a b (o ++ (b.extract z j).reverse) i z:=by
 unfold Mt at h ⊢
 have e:(o ++ (b.extract z j).reverse).toList.reverse=(b.toList.drop z).take (j - z) ++ o.toList.reverse:=by rw [Array.toList_append,List.reverse_append,Array.toList_reverse,List.reverse_reverse,ext_list]
 rw [e]
 rw [take_cut hz] at h
 refine h.left (by rw [← take_cut hz]; exact (sd_of hb).take j) fun q hq p hp=>?_
 obtain ⟨t,t1,t2,e1⟩:=mem_cut hp
 obtain ⟨u,u1,u2,e2⟩:=mem_take hq
 have:=hk (z + t) (by omega) (by omega)
 have:=ha u (i - 1) (Nat.zero_le _) (by omega) (by omega)
 omega
theorem Mt.pushA (ha:Up a 0 a.size) (hb:Up b 0 b.size) (h:Mt a b o (i + 1) j) (hi:i < a.size) (hk:∀ t,t < j→t < b.size→K b t≤K a i):Mt a b (o.push a[i]) i j:=by
 unfold Mt at h ⊢
 rw [take_get hi] at h
 rw [Array.toList_push,List.reverse_append]
 refine h.right (by rw [← take_get hi]; exact (sd_of ha).take _) fun q hq p hp=>?_
 rw [List.mem_singleton.mp hp]
 obtain ⟨u,u1,u2,e2⟩:=mem_take hq
 have:=hk u u1 u2
 have e:=K_get hi
 unfold ke at e2 ⊢
 omega
theorem Mt.pushB (ha:Up a 0 a.size) (hb:Up b 0 b.size) (h:Mt a b o i (j + 1)) (hj:j < b.size) (hk:∀ t,t < i→t < a.size→K a t≤K b j):Mt a b (o.push b[j]) i j:=by
 unfold Mt at h ⊢
 rw [take_get hj] at h
 rw [Array.toList_push,List.reverse_append]
 refine h.left (by rw [← take_get hj]; exact (sd_of hb).take _) fun q hq p hp=>?_
 rw [List.mem_singleton.mp hp]
 obtain ⟨u,u1,u2,e2⟩:=mem_take hq
 have:=hk u u1 u2
 have e:=K_get hj
 unfold ke at e2 ⊢
 omega
theorem Mt.dn (ha:Up a 0 a.size) (hb:Up b 0 b.size) (h:Mt a b o i j) (hz:i=0 ∨ j=0):Good a b (a.extract 0 i ++ b.extract 0 j ++ o.reverse):=by
 unfold Mt at h
 unfold Good
 rw [Array.toList_append,Array.toList_append,ext_take,ext_take,Array.toList_reverse]
 rcases hz with rfl | rfl
 ·rw [List.take_zero] at h ⊢
  rw [List.nil_append]
  exact Mr.done (Mr.left (by simpa using h) (by simpa using (sd_of hb).take j) fun q hq=>by cases hq)
 ·rw [List.take_zero] at h ⊢
  rw [List.append_nil]
  exact Mr.done (Mr.right (by simpa using h) (by simpa using (sd_of ha).take i) fun q hq=>by cases hq)
theorem Mt.fb (ha:Up a 0 a.size) (hb:Up b 0 b.size) (h:Mt a b o i j) (hj:j=1) (hl:∀ t,t < a.size→K b 0≤K a t):Good a b (b.extract 0 j ++ a.extract 0 i ++ o.reverse):=by
 subst hj
 unfold Mt at h
 unfold Good
 rw [Array.toList_append,Array.toList_append,ext_take,ext_take,Array.toList_reverse,List.append_assoc]
 have h1:Mr (a.toList ++ b.toList) [] (b.toList.take 1) (a.toList.take i ++ o.toList.reverse):=by
  refine Mr.right (by simpa using h) (by simpa using (sd_of ha).take i) fun q hq p hp=>?_
  obtain ⟨t,t1,t2,e1⟩:=mem_take hp
  obtain ⟨u,u1,u2,e2⟩:=mem_take hq
  have:=hl t t2
  have:u=0:=by omega
  subst this
  omega
 exact Mr.done (Mr.left (by simpa using h1) (by simpa using (sd_of hb).take 1) fun q hq=>by cases hq)
end
section
variable {prog:Program} {w:World} {A:Around} {E:Value→Shared→Prop} {s:Shared}
structure Mie (a b o:Array Keyed) (i j:Nat):Prop where
 mg:Mt a b o i j
 i1:1≤i
 ia:i≤a.size
 j1:2≤j
 jb:j≤b.size
set_option maxHeartbeats 2000000 in
theorem mHi_ok {a b:Array Keyed} {st:SortSt} {Q:Array Keyed→SortSt→Prop} (hk:kindOf st=oneType') (ia:IK a) (ib:IK b) (ha:Up a 0 a.size) (hb:Up b 0 b.size) (a1:1≤a.size) (b1:1≤b.size) (hl:∀ t,t < a.size→K b 0≤K a t) (h0:∀ t,t < b.size→K b t≤K a (a.size - 1))
  (h:∀ r st',Good a b r→Sg st st'→Q r st'):wpS (model prog w) A E s (mHi a b) Q st:=by
 rw [mHi_eq]
 dsimp only
 refine wpS_bind (wpS_lift (wpAny_rule ⟨rfl,?_⟩))
 refine wpS_bind (elem_ok (by omega) ?_)
 have m0:Mt a b #[a[a.size - 1]] (a.size - 1) b.size:=by
  have z:Mt a b #[] (a.size - 1 + 1) b.size:=⟨by rw [show a.size - 1 + 1=a.size by omega,List.take_of_length_le (by simp),List.take_of_length_le (by simp)]; simp,List.Pairwise.nil,fun q hq p hp=>by cases hp⟩
  exact z.pushA ha hb (by omega) fun t _ ht=>h0 t ht
 by_cases g1:a.size - 1=0
 ·rw [if_pos (by simpa using g1)]
  exact wpS_pure (h _ _ (m0.dn ha hb (.inl g1)) (Sg.refl st))
 rw [if_neg (by simpa using g1)]
 by_cases g2:b.size=1
 ·rw [if_pos (by simpa using g2)]
  exact wpS_pure (h _ _ (m0.fb ha hb g2 hl) (Sg.refl st))
 rw [if_neg (by simpa using g2)]
 refine wpS_bind (wpS_get ?_)
 have kd:∀ {st'},Sg st st'→kindOf st'=oneType':=fun z=>z.1.trans hk
 refine wpS_bind (wpS_mono (wpS_forRange (I:=fun x c st'=>Sg st st'∧∃ o i j g,c=(none,i,j,o,g)∧Mie a b o i j∧i + j + x + 1≤a.size + b.size)
  (Q:=fun c st'=>Sg st st'∧∃ r,c.1=some r∧Good a b r) ?step ?fin ⟨Sg.refl st,_,_,_,_,rfl,⟨m0,by omega,by omega,by omega,by omega⟩,by omega⟩) ?post)
 all_goals skip
 case fin=>
  rintro c st' ⟨_,o,i,j,g,_,m,hx⟩
  have:=m.i1
  omega
 case post=>
  rintro ⟨c,i,j,o,g⟩ st' ⟨z,r,e,hr⟩
  cases e
  exact wpS_pure (h r st' hr z)
 case step=>
  rintro x c st' _ hx ⟨z,o,i,j,g,rfl,m,hp⟩
  dsimp only
  refine wpS_bind (wpS_mono (wpS_forRange (I:=fun y c st'=>Sg st st'∧∃ o' i' j' ca cb,c=(none,i',j',o',ca,cb)∧Mie a b o' i' j'∧i' + j' + y≤i + j)
   (Q:=fun c st'=>Sg st st'∧((∃ r,c.1=some r∧Good a b r) ∨ ∃ o' i' j' ca cb,c=(none,i',j',o',ca,cb)∧Mie a b o' i' j'∧i' + j' + 1≤i + j)) ?s1 ?f1 ⟨z,_,_,_,0,0,rfl,m,by omega⟩) ?p1)
  case f1=>
   rintro c st' ⟨z,o',i',j',ca,cb,rfl,m,hy⟩
   exact ⟨z,.inr ⟨o',i',j',ca,cb,rfl,m,by omega⟩⟩
  case s1=>
   rintro y c st' _ hy ⟨z,o',i',j',ca,cb,rfl,⟨mm,mi1,mi,mj1,mj⟩,hp'⟩
   dsimp only
   have hj9:j' - 1 < b.size:=by omega
   have hi9:i' - 1 < a.size:=by omega
   refine wpS_bind (elem_ok hj9 ?_)
   refine wpS_bind (elem_ok hi9 ?_)
   refine wpS_bind (lt_ok (kd z) (ib.get hj9) (ia.get hi9) ?_)
   dsimp only
   rw [← K_get hj9,← K_get hi9]
   by_cases hlt:K b (j' - 1) < K a (i' - 1)
   ·rw [if_pos (by simpa using hlt)]
    refine wpS_bind (elem_ok hi9 ?_)
    have m2:=Mt.pushA (i:=i' - 1) ha hb (by rw [show i' - 1 + 1=i' by omega]; exact mm) hi9 fun t h1 h2=>Int.le_trans (hb t (j' - 1) (Nat.zero_le _) (by omega) hj9) (Int.le_of_lt hlt)
    by_cases e1:i' - 1=0
    ·rw [if_pos (by simpa using e1)]
     exact wpS_pure ⟨z,.inl ⟨_,rfl,m2.dn ha hb (.inl e1)⟩⟩
    ·rw [if_neg (by simpa using e1)]
     split
     ·exact wpS_pure ⟨z,.inr ⟨_,_,_,_,_,rfl,⟨m2,by omega,by omega,by omega,by omega⟩,by omega⟩⟩
     ·exact wpS_pure ⟨z,_,_,_,_,_,rfl,⟨m2,by omega,by omega,by omega,by omega⟩,by omega⟩
   ·rw [if_neg (by simpa using hlt)]
    refine wpS_bind (elem_ok hj9 ?_)
    have m2:=Mt.pushB (j:=j' - 1) ha hb (by rw [show j' - 1 + 1=j' by omega]; exact mm) hj9 fun t h1 h2=>Int.le_trans (ha t (i' - 1) (Nat.zero_le _) (by omega) hi9) (Int.not_lt.mp hlt)
    by_cases e1:j' - 1=1
    ·rw [if_pos (by simpa using e1)]
     exact wpS_pure ⟨z,.inl ⟨_,rfl,m2.fb ha hb e1 hl⟩⟩
    ·rw [if_neg (by simpa using e1)]
     split
     ·exact wpS_pure ⟨z,.inr ⟨_,_,_,_,_,rfl,⟨m2,by omega,by omega,by omega,by omega⟩,by omega⟩⟩
     ·exact wpS_pure ⟨z,_,_,_,_,_,rfl,⟨m2,by omega,by omega,by omega,by omega⟩,by omega⟩
  case p1=>
   rintro c st' ⟨z,⟨r,e,hr⟩ | ⟨o',i',j',ca,cb,rfl,m,hp'⟩⟩
   ·obtain ⟨c,o',i',j',ca,cb⟩:=c
    cases e
    exact wpS_pure ⟨z,r,rfl,hr⟩
   dsimp only
   refine wpS_bind (wpS_lift (wpAny_rule ⟨rfl,?_⟩))
   refine wpS_bind (wpS_mono (wpS_forRange (I:=fun y c st'=>Sg st st'∧∃ o2 i2 j2 g ca cb,c=(none,i2,j2,o2,g,ca,cb)∧Mie a b o2 i2 j2∧i2 + j2 + 1≤i + j)
    (Q:=fun c st'=>Sg st st'∧((∃ r,c.1=some r∧Good a b r) ∨ ∃ o2 i2 j2 g ca cb,c=(none,i2,j2,o2,g,ca,cb)∧Mie a b o2 i2 j2∧i2 + j2 + 1≤i + j)) ?s2 ?f2 ⟨z,_,_,_,_,_,_,rfl,m,hp'⟩) ?p2)
   case f2=>
    rintro c st' ⟨z,o2,i2,j2,g2,ca,cb,rfl,m,hy⟩
    exact ⟨z,.inr ⟨o2,i2,j2,g2,ca,cb,rfl,m,hy⟩⟩
   case p2=>
    rintro c st' ⟨z,⟨r,e,hr⟩ | ⟨o2,i2,j2,g2,ca,cb,rfl,m,hp'⟩⟩
    ·obtain ⟨c,o2,i2,j2,g2,ca,cb⟩:=c
     cases e
     exact wpS_pure ⟨z,r,rfl,hr⟩
    dsimp only
    exact wpS_bind (sMG_ok z fun st' z=>wpS_pure ⟨z,_,_,_,_,rfl,m,by omega⟩)
   case s2=>
    rintro y c st' _ hy ⟨z,o2,i2,j2,g2,ca,cb,rfl,⟨hm,mi1,mi,mj1,mj⟩,hp'⟩
    dsimp only
    have hj9:j2 - 1 < b.size:=by omega
    by_cases hg:g2 > 1
    all_goals (first | rw [if_pos hg] | rw [if_neg hg])
    all_goals
     refine wpS_bind (sMG_ok z fun st' z=>?_)
     refine wpS_bind (elem_ok hj9 ?_)
     refine wpS_bind (gal_ok (kd z) ia (ib.get hj9) (by omega) (by omega) (fun p q _ hpq hq=>ha p q (Nat.zero_le _) hpq (by omega)) fun k k1 k2 k3=>?_)
     dsimp only
     have q2:∀ t,t < k→t < a.size→K a t≤K b (j2 - 1):=fun t ht _=>by
      have:=k2 t ht
      rw [K_get hj9]
      simpa [bef] using this
     have q3:∀ t,k≤t→t < i2→K b (j2 - 1)≤K a t:=fun t h1 h2=>by
      have:=k3 t h1 h2
      rw [K_get hj9]
      exact Int.le_of_lt (by simpa [bef] using this)
     by_cases hk0:i2 - k > 0
     ·rw [if_pos hk0]
      have hm3:=hm.bulkA (z:=k) ha hb mj (by omega) k1 mi q3
      split
      ·rename_i e3
       exact wpS_pure ⟨z,.inl ⟨_,rfl,hm3.dn ha hb (.inl (by simpa using e3))⟩⟩
      ·rename_i e3
       simp at e3
       obtain ⟨i3,hi3⟩:∃ i3,i3=k:=⟨k,rfl⟩
       subst hi3
       have hq3:=q2
       refine wpS_bind (elem_ok (by omega) ?_)
       have m4:=Mt.pushB (j:=j2 - 1) ha hb (by rw [show j2 - 1 + 1=j2 by omega]; exact hm3) (by omega) hq3
       split
       ·rename_i e4
        exact wpS_pure ⟨z,.inl ⟨_,rfl,m4.fb ha hb (by simpa using e4) hl⟩⟩
       rename_i e4
       simp at e4
       have hi4:i3 - 1 < a.size:=by omega
       refine wpS_bind (elem_ok hi4 ?_)
       refine wpS_bind (gal_ok (kd z) ib (ia.get hi4) (by omega) (by omega) (fun p q _ hpq hq=>hb p q (Nat.zero_le _) hpq (by omega)) fun u u1 u2 u3=>?_)
       dsimp only
       have v2:∀ t,t < u→K b t≤K a (i3 - 1):=fun t ht=>by
        have:=u2 t ht
        rw [K_get hi4]
        exact Int.le_of_lt (by simpa [bef] using this)
       have v3:∀ t,u≤t→t < j2 - 1→K a (i3 - 1)≤K b t:=fun t h1 h2=>by
        have:=u3 t h1 h2
        rw [K_get hi4]
        simpa [bef] using this
       by_cases hu:j2 - 1 - u > 0
       ·rw [if_pos hu]
        have hm6:=m4.bulkB (z:=u) ha hb (by omega) (by omega) (by omega) (by omega) v3
        split
        ·rename_i e5
         exact wpS_pure ⟨z,.inl ⟨_,rfl,hm6.fb ha hb (by simpa using e5) hl⟩⟩
        ·rename_i e5
         split
         ·rename_i e7
          exact wpS_pure ⟨z,.inl ⟨_,rfl,hm6.dn ha hb (.inr (by simpa using e7))⟩⟩
         ·rename_i e7
          simp at e5 e7
          have hq6:∀ t,t < u→t < b.size→K b t≤K a (i3 - 1):=fun t h1 _=>v2 t h1
          refine wpS_bind (elem_ok (by omega) ?_)
          have m6:=Mt.pushA (i:=i3 - 1) ha hb (by rw [show i3 - 1 + 1=i3 by omega]; exact hm6) (by omega) hq6
          split
          ·rename_i e6
           exact wpS_pure ⟨z,.inl ⟨_,rfl,m6.dn ha hb (.inl (by simpa using e6))⟩⟩
          ·rename_i e6
           simp at e6
           split
           ·exact wpS_pure ⟨z,.inr ⟨_,_,_,_,_,_,rfl,⟨m6,by omega,by omega,by omega,by omega⟩,by omega⟩⟩
           ·exact wpS_pure ⟨z,_,_,_,_,_,_,rfl,⟨m6,by omega,by omega,by omega,by omega⟩,by omega⟩
       ·rw [if_neg hu]
        have hu0:u=j2 - 1:=by omega
        have hm6:=m4
        have hq6:∀ t,t < j2 - 1→t < b.size→K b t≤K a (i3 - 1):=fun t h1 _=>v2 t (by omega)
        refine wpS_bind (elem_ok (by omega) ?_)
        have m6:=Mt.pushA (i:=i3 - 1) ha hb (by rw [show i3 - 1 + 1=i3 by omega]; exact hm6) (by omega) hq6
        split
        ·rename_i e6
         exact wpS_pure ⟨z,.inl ⟨_,rfl,m6.dn ha hb (.inl (by simpa using e6))⟩⟩
        ·rename_i e6
         simp at e6
         split
         ·exact wpS_pure ⟨z,.inr ⟨_,_,_,_,_,_,rfl,⟨m6,by omega,by omega,by omega,by omega⟩,by omega⟩⟩
         ·exact wpS_pure ⟨z,_,_,_,_,_,_,rfl,⟨m6,by omega,by omega,by omega,by omega⟩,by omega⟩
     ·rw [if_neg hk0]
      have hk1:k=i2:=by omega
      subst hk1
      have hm3:=hm
      obtain ⟨i3,hi3⟩:∃ i3,i3=k:=⟨k,rfl⟩
      subst hi3
      have hq3:=q2
      refine wpS_bind (elem_ok (by omega) ?_)
      have m4:=Mt.pushB (j:=j2 - 1) ha hb (by rw [show j2 - 1 + 1=j2 by omega]; exact hm3) (by omega) hq3
      split
      ·rename_i e4
       exact wpS_pure ⟨z,.inl ⟨_,rfl,m4.fb ha hb (by simpa using e4) hl⟩⟩
      rename_i e4
      simp at e4
      have hi4:i3 - 1 < a.size:=by omega
      refine wpS_bind (elem_ok hi4 ?_)
      refine wpS_bind (gal_ok (kd z) ib (ia.get hi4) (by omega) (by omega) (fun p q _ hpq hq=>hb p q (Nat.zero_le _) hpq (by omega)) fun u u1 u2 u3=>?_)
      dsimp only
      have v2:∀ t,t < u→K b t≤K a (i3 - 1):=fun t ht=>by
       have:=u2 t ht
       rw [K_get hi4]
       exact Int.le_of_lt (by simpa [bef] using this)
      have v3:∀ t,u≤t→t < j2 - 1→K a (i3 - 1)≤K b t:=fun t h1 h2=>by
       have:=u3 t h1 h2
       rw [K_get hi4]
       simpa [bef] using this
      by_cases hu:j2 - 1 - u > 0
      ·rw [if_pos hu]
       have hm6:=m4.bulkB (z:=u) ha hb (by omega) (by omega) (by omega) (by omega) v3
       split
       ·rename_i e5
        exact wpS_pure ⟨z,.inl ⟨_,rfl,hm6.fb ha hb (by simpa using e5) hl⟩⟩
       ·rename_i e5
        split
        ·rename_i e7
         exact wpS_pure ⟨z,.inl ⟨_,rfl,hm6.dn ha hb (.inr (by simpa using e7))⟩⟩
        ·rename_i e7
         simp at e5 e7
         have hq6:∀ t,t < u→t < b.size→K b t≤K a (i3 - 1):=fun t h1 _=>v2 t h1
         refine wpS_bind (elem_ok (by omega) ?_)
         have m6:=Mt.pushA (i:=i3 - 1) ha hb (by rw [show i3 - 1 + 1=i3 by omega]; exact hm6) (by omega) hq6
         split
         ·rename_i e6
          exact wpS_pure ⟨z,.inl ⟨_,rfl,m6.dn ha hb (.inl (by simpa using e6))⟩⟩
         ·rename_i e6
          simp at e6
          split
          ·exact wpS_pure ⟨z,.inr ⟨_,_,_,_,_,_,rfl,⟨m6,by omega,by omega,by omega,by omega⟩,by omega⟩⟩
          ·exact wpS_pure ⟨z,_,_,_,_,_,_,rfl,⟨m6,by omega,by omega,by omega,by omega⟩,by omega⟩
      ·rw [if_neg hu]
       have hu0:u=j2 - 1:=by omega
       have hm6:=m4
       have hq6:∀ t,t < j2 - 1→t < b.size→K b t≤K a (i3 - 1):=fun t h1 _=>v2 t (by omega)
       refine wpS_bind (elem_ok (by omega) ?_)
       have m6:=Mt.pushA (i:=i3 - 1) ha hb (by rw [show i3 - 1 + 1=i3 by omega]; exact hm6) (by omega) hq6
       split
       ·rename_i e6
        exact wpS_pure ⟨z,.inl ⟨_,rfl,m6.dn ha hb (.inl (by simpa using e6))⟩⟩
       ·rename_i e6
        simp at e6
        split
        ·exact wpS_pure ⟨z,.inr ⟨_,_,_,_,_,_,rfl,⟨m6,by omega,by omega,by omega,by omega⟩,by omega⟩⟩
        ·exact wpS_pure ⟨z,_,_,_,_,_,_,rfl,⟨m6,by omega,by omega,by omega,by omega⟩,by omega⟩
end
end SR
namespace SR
open PySem PyProof.Rows
structure SB (a0 A0:Array Keyed) (P:Array (Nat × Nat × Nat)) (lo:Nat) (st:SortSt):Prop where
 perm:(arrOf st).Perm a0
 kind:kindOf st=oneType'
 failed:failedOf st=none
 pend:pendingOf st=P
 low:∀ t,t < lo→K (arrOf st) t=K A0 t
theorem SB.size {a0 A0:Array Keyed} {P:Array (Nat × Nat × Nat)} {lo:Nat} {st:SortSt} (h:SB a0 A0 P lo st):(arrOf st).size=a0.size:=h.perm.size_eq
theorem ik_perm {a b:Array Keyed} (h:IK b) (p:a.Perm b):IK a:=fun x hx=>h x ((Array.perm_iff_toList_perm.mp p).mem_iff.mp hx)
theorem SB.arr {a0 A0:Array Keyed} {P:Array (Nat × Nat × Nat)} {lo:Nat} {st:SortSt} (h:SB a0 A0 P lo st) {xs:Array Keyed} (p:xs.Perm (arrOf st)) (hl:∀ t,t < lo→K xs t=K (arrOf st) t):SB a0 A0 P lo (setArr st xs):=
 ⟨p.trans h.perm,h.kind,h.failed,h.pend,fun t ht=>(hl t ht).trans (h.low t ht)⟩
section
variable {prog:Program} {w:World} {A:Around} {E:Value→Shared→Prop} {s:Shared} {a0 A0:Array Keyed} {P:Array (Nat × Nat × Nat)} {lo:Nat}
theorem at_ok {st:SortSt} {i j:Nat} {Q:Option Bool→SortSt→Prop} (hB:SB a0 A0 P lo st) (h0:IK a0) (hi:i < a0.size) (hj:j < a0.size) (h:Q (some (decide (K (arrOf st) i < K (arrOf st) j))) st):wpS (model prog w) A E s (ltAt' i j) Q st:=by
 have h1:i < (arrOf st).size:=by rw [hB.size]; exact hi
 have h2:j < (arrOf st).size:=by rw [hB.size]; exact hj
 have ik:=ik_perm h0 hB.perm
 rw [ltAt'_eq]
 refine wpS_bind (wpS_get ?_)
 refine wpS_bind (elem_ok h1 (wpS_bind (elem_ok h2 (lt_ok hB.kind (ik.get h1) (ik.get h2) ?_))))
 rw [K_get h1,K_get h2] at h
 exact h
theorem rev_ok {st:SortSt} {i j:Nat} {Q:Unit→SortSt→Prop} (hB:SB a0 A0 P lo st) (hi:lo≤i) (hj:j≤a0.size) (h:SB a0 A0 P lo (setArr st (mirror (arrOf st) i j ((j - i) / 2)))→Q () (setArr st (mirror (arrOf st) i j ((j - i) / 2)))):wpS (model prog w) A E s (reverseSlice' i j) Q st:=by
 rw [reverseSlice'_eq]
 refine wpS_modify (h (hB.arr (mirror_perm _ _ _ _) fun t ht=>?_))
 rw [K_mirror (by rw [hB.size]; exact hj),if_neg (by omega)]
theorem bins_ok {st:SortSt} {n ok:Nat} {Q:Bool→SortSt→Prop} (h0:IK a0) (hn:lo + n≤a0.size) (hB:SB a0 A0 P lo st) (hs:Up (arrOf st) lo (lo + ok)) (hok:ok≤n)
  (h:∀ st',SB a0 A0 P lo st'→Up (arrOf st') lo (lo + n)→Q true st'):wpS (model prog w) A E s (binarySort' lo n ok) Q st:=by
 rw [binarySort'_eq]
 refine wpS_bind (wpS_mono (wpS_forRange (I:=fun k c st'=>c=(none,())∧SB a0 A0 P lo st'∧Up (arrOf st') lo (lo + min k n))
  (Q:=fun c st'=>c=(none,())∧SB a0 A0 P lo st'∧Up (arrOf st') lo (lo + n)) ?ste ?fi ⟨rfl,hB,?ini⟩) ?po)
 case ini=>
  intro i j h1 h2 h3
  by_cases z:ok=0
  ·have:i=j:=by omega
   subst this; exact Int.le_refl _
  ·exact hs i j h1 h2 (by omega)
 case po=>
  rintro c st' ⟨rfl,b1,b2⟩
  exact wpS_pure (h st' b1 b2)
 case fi=>
  rintro c st' ⟨hc,b1,b2⟩
  rw [show min (max (max ok 1) n) n=n by omega] at b2
  exact ⟨hc,b1,b2⟩
 case ste=>
  rintro k c st' hak hkn ⟨rfl,b1,b2⟩
  rw [show min k n=k by omega] at b2
  refine wpS_bind (wpS_mono (wpS_forRange (I:=fun x c st2=>st2=st'∧∃ l r,c=(none,l,r)∧l≤r∧r≤k∧r - l≤k - x∧(∀ i,lo≤i→i < lo + l→K (arrOf st') i≤K (arrOf st') (lo + k))∧(∀ i,lo + r≤i→i < lo + k→K (arrOf st') (lo + k) < K (arrOf st') i))
   (Q:=fun c st2=>st2=st'∧∃ l r,c=(none,l,r)∧l≤k∧(∀ i,lo≤i→i < lo + l→K (arrOf st') i≤K (arrOf st') (lo + k))∧(∀ i,lo + l≤i→i < lo + k→K (arrOf st') (lo + k) < K (arrOf st') i)) ?a ?b ⟨rfl,0,k,rfl,by omega,by omega,by omega,fun i _ hi=>by omega,fun i _ _=>by omega⟩) ?c)
  case b=>
   rintro c st2 ⟨rfl,l,r,rfl,c1,c2,c3,c4,c5⟩
   have:l=r:=by omega
   subst this
   exact ⟨rfl,l,l,rfl,c2,c4,c5⟩
  case a=>
   rintro x c st2 _ hx ⟨rfl,l,r,rfl,c1,c2,c3,c4,c5⟩
   dsimp only
   by_cases g:l ≥ r
   ·rw [if_pos g]
    have:l=r:=by omega
    subst this
    exact wpS_pure ⟨rfl,l,l,rfl,c2,c4,c5⟩
   ·rw [if_neg g]
    refine wpS_bind (at_ok b1 h0 (by omega) (by omega) ?_)
    by_cases hl:K (arrOf st2) (lo + k) < K (arrOf st2) (lo + (l + r) / 2)
    ·simp only [hl,decide_true,if_true]
     exact wpS_pure ⟨rfl,l,(l + r) / 2,rfl,by omega,by omega,by omega,c4,fun i h1 h2=>Int.lt_of_lt_of_le hl (b2 _ _ (by omega) h1 h2)⟩
    ·simp only [hl,decide_false,Bool.false_eq_true,if_false]
     exact wpS_pure ⟨rfl,(l + r) / 2 + 1,r,rfl,by omega,by omega,by omega,fun i h1 h2=>Int.le_trans (b2 i (lo + (l + r) / 2) h1 (by omega) (by omega)) (Int.not_lt.mp hl),c5⟩
  case c=>
   rintro c st2 ⟨rfl,l,r,rfl,c2,c4,c5⟩
   show wpS _ _ _ _ (do moveDown' (lo + k) (lo + l); pure (ForInStep.yield (none,()))) _ _
   rw [moveDown'_eq]
   have hks:lo + k < (arrOf st2).size:=by rw [b1.size]; omega
   have kb:=fun t=>K_bubble (xs:=arrOf st2) (src:=lo + k) (d:=lo + k - (lo + l)) hks (by omega) t
   rw [show lo + k - (lo + k - (lo + l))=lo + l by omega] at kb
   refine wpS_bind (wpS_modify (wpS_pure ⟨rfl,b1.arr (bubble_perm _ _ _) fun t ht=>?_,fun i j h1 h2 h3=>?_⟩))
   ·rw [kb,if_neg (by omega),if_neg (by omega)]
   ·rw [show min (k + 1) n=k + 1 by omega] at h3
    show K (bubble _ _ _) i≤K (bubble _ _ _) j
    rw [kb,kb]
    repeat' split
    all_goals first
     | (exfalso; omega)
     | exact Int.le_refl _
     | exact c4 _ (by omega) (by omega)
     | exact Int.le_of_lt (c5 _ (by omega) (by omega))
     | exact b2 _ _ (by omega) (by omega) (by omega)
end
end SR
namespace SR
open PySem PyProof.Rows
theorem mir {xs:Array Keyed} {i j:Nat} (hj:j≤xs.size) (h:∀ k,i≤k→k < j→K xs k=K xs (j - 1)) (k:Nat):K (mirror xs i j ((j - i) / 2)) k=K xs k:=by
 rw [K_mirror hj]
 split
 ·rw [h _ (by omega) (by omega),h k (by omega) (by omega)]
 ·rfl
section
variable {prog:Program} {w:World} {A:Around} {E:Value→Shared→Prop} {s:Shared} {a0 A0:Array Keyed} {P:Array (Nat × Nat × Nat)} {lo:Nat}
abbrev AS:=Option (Option Nat) × Nat
theorem asc_ok {st:SortSt} {a nrem:Nat} {f:Nat→AS→SM (ForInStep AS)} {Q:AS→SortSt→Prop} (h0:IK a0) (hn:lo + nrem≤a0.size) (ha:1≤a) (han:a≤nrem) (hB:SB a0 A0 P lo st) (hs:Up (arrOf st) lo (lo + a))
  (hf:∀ x n (R:ForInStep AS→SortSt→Prop),wpS (model prog w) A E s (ltAt' (lo + n) (lo + n - 1)) (fun r st'=>∃ b,r=some b∧R (if b=true then .done (none,n) else .yield (none,n + 1)) st') st→wpS (model prog w) A E s (f x (none,n)) R st)
  (h:∀ n,a≤n→n≤nrem→Up (arrOf st) lo (lo + n)→(n=nrem ∨ K (arrOf st) (lo + n) < K (arrOf st) (lo + n - 1))→Q (none,n) st):wpS (model prog w) A E s (forIn [a:nrem] ((none,a):AS) f) Q st:=by
 refine wpS_forRange (I:=fun x c st'=>st'=st∧c=(none,x)∧Up (arrOf st) lo (lo + x)) ?a ?b ⟨rfl,rfl,hs⟩
 case b=>
  rintro c st' ⟨rfl,rfl,b1⟩
  rw [show max a nrem=nrem by omega] at b1 ⊢
  exact h nrem han (Nat.le_refl _) b1 (.inl rfl)
 case a=>
  rintro x c st' h1 h2 ⟨rfl,rfl,b1⟩
  refine hf _ _ _ (at_ok hB h0 (by omega) (by omega) ⟨_,rfl,?_⟩)
  by_cases hl:K (arrOf st') (lo + x) < K (arrOf st') (lo + x - 1)
  ·simp only [hl,decide_true,if_true]
   exact h x h1 (by omega) b1 (.inr hl)
  ·simp only [hl,decide_false,Bool.false_eq_true,if_false]
   refine ⟨trivial,trivial,fun i j i1 i2 i3=>?_⟩
   by_cases hj:j < lo + x
   ·exact b1 i j i1 i2 hj
   ·have hj':j=lo + x:=by omega
    subst hj'
    by_cases e:i=lo + x
    ·subst e; exact Int.le_refl _
    ·exact Int.le_trans (b1 i (lo + x - 1) i1 (by omega) (by omega)) (Int.not_lt.mp hl)
set_option maxHeartbeats 2000000 in
theorem run_ok {st:SortSt} {nrem:Nat} {Q:Option Nat→SortSt→Prop} (h0:IK a0) (hn:lo + nrem≤a0.size) (h1:1≤nrem) (hB:SB a0 A0 P lo st)
  (h:∀ m st',SB a0 A0 P lo st'→1≤m→m≤nrem→Up (arrOf st') lo (lo + m)→Q (some m) st'):wpS (model prog w) A E s (countRun' lo nrem) Q st:=by
 rw [countRun'_eq]
 dsimp only
 refine wpS_bind (asc_ok h0 hn (Nat.le_refl 1) h1 hB (fun i j i1 i2 i3=>by rw [show i=j by omega]; exact Int.le_refl _) ?hf fun n n1 n2 u ho=>?_)
 case hf=>
  intro x n R hR
  dsimp only
  refine wpS_bind (wpS_mono hR ?_)
  rintro r st' ⟨b,rfl,hb⟩
  cases b
  ·exact wpS_pure hb
  ·exact wpS_pure hb
 dsimp only
 by_cases e:n=nrem
 ·rw [if_pos (by simpa using e)]
  exact wpS_pure (h n st hB n1 n2 u)
 rw [if_neg (by simpa using e)]
 have hlt:K (arrOf st) (lo + n) < K (arrOf st) (lo + n - 1):=ho.resolve_left e
 by_cases g:n > 1
 ·rw [if_pos g]
  refine wpS_bind (at_ok hB h0 (by omega) (by omega) ?_)
  by_cases hr:K (arrOf st) lo < K (arrOf st) (lo + n - 1)
  ·simp only [hr,decide_true,if_true]
   exact wpS_pure (h n st hB n1 n2 u)
  ·simp only [hr,decide_false,Bool.false_eq_true,if_false]
   have hsz:lo + n≤(arrOf st).size:=by rw [hB.size]; omega
   have all:∀ k,lo≤k→k < lo + n→K (arrOf st) k=K (arrOf st) (lo + n - 1):=fun k k1 k2=>by
    have a1:=u lo k (Nat.le_refl _) k1 k2
    have a2:=u k (lo + n - 1) k1 (by omega) (by omega)
    omega
   refine wpS_bind (rev_ok hB (Nat.le_refl _) (by omega) fun hB1=>?_)
   have hD1:Dn (mirror (arrOf st) lo (lo + n) ((lo + n - lo) / 2)) lo (lo + (n + 1)):=fun i j i1 i2 i3=>by
    rw [mir hsz all,mir hsz all]
    by_cases hj:j < lo + n
    ·rw [all i i1 (by omega),all j (by omega) hj]; exact Int.le_refl _
    ·have hj':j=lo + n:=by omega
     subst hj'
     by_cases e:i=lo + n
     ·subst e; exact Int.le_refl _
     ·rw [all i i1 (by omega)]; exact Int.le_of_lt hlt
   refine wpS_bind (wpS_lift (wpAny_rule ⟨rfl,?_⟩))
   refine wpS_bind (wpS_mono (wpS_forRange (I:=fun x c st'=>∃ neq,c=(none,x,neq)∧SB a0 A0 P lo st'∧Dn (arrOf st') lo (lo + x)∧neq + 1≤x∧(∀ i,lo + x - (neq + 1)≤i→i < lo + x→K (arrOf st') i=K (arrOf st') (lo + x - 1)))
    (Q:=fun c st'=>∃ m neq,c=(none,m,neq)∧n + 1≤m∧m≤nrem∧SB a0 A0 P lo st'∧Dn (arrOf st') lo (lo + m)∧neq + 1≤m∧(∀ i,lo + m - (neq + 1)≤i→i < lo + m→K (arrOf st') i=K (arrOf st') (lo + m - 1))) ?a ?b ⟨0,rfl,hB1,hD1,by omega,fun i i1 i2=>by congr 1; omega⟩) ?c)
   case b=>
    rintro c st' ⟨neq,rfl,b1,b2,b3,b4⟩
    rw [show max (n + 1) nrem=nrem by omega] at b2 b3 b4 ⊢
    exact ⟨nrem,neq,rfl,by omega,Nat.le_refl _,b1,b2,b3,b4⟩
   case a=>
    rintro x c st' x1 x2 ⟨neq,rfl,b1,b2,b3,b4⟩
    dsimp only
    have hsz:lo + x≤(arrOf st').size:=by rw [b1.size]; omega
    refine wpS_bind (at_ok b1 h0 (by omega) (by omega) ?_)
    have more:∀ xs:Array Keyed,(∀ k,K xs k=K (arrOf st') k)→K (arrOf st') (lo + x)≤K (arrOf st') (lo + x - 1)→Dn xs lo (lo + (x + 1)):=by
     intro xs hk hle i j i1 i2 i3
     rw [hk,hk]
     by_cases hj:j < lo + x
     ·exact b2 i j i1 i2 hj
     ·have hj':j=lo + x:=by omega
      subst hj'
      by_cases e:i=lo + x
      ·subst e; exact Int.le_refl _
      ·exact Int.le_trans hle (b2 i (lo + x - 1) i1 (by omega) (by omega))
    by_cases hl:K (arrOf st') (lo + x) < K (arrOf st') (lo + x - 1)
    ·simp only [hl,decide_true,if_true]
     by_cases hq:neq > 0
     ·rw [if_pos hq]
      refine wpS_bind (rev_ok b1 (by omega) (by omega) fun b9=>wpS_pure ⟨0,rfl,b9,more _ (mir hsz b4) (Int.le_of_lt hl),by omega,fun i i1 i2=>by congr 1; omega⟩)
     ·rw [if_neg hq]
      exact wpS_pure ⟨0,rfl,b1,more _ (fun _=>rfl) (Int.le_of_lt hl),by omega,fun i i1 i2=>by congr 1; omega⟩
    ·simp only [hl,decide_false,Bool.false_eq_true,if_false]
     refine wpS_bind (at_ok b1 h0 (by omega) (by omega) ?_)
     by_cases hg:K (arrOf st') (lo + x - 1) < K (arrOf st') (lo + x)
     ·simp only [hg,decide_true,if_true]
      exact wpS_pure ⟨x,neq,rfl,x1,by omega,b1,b2,b3,b4⟩
     ·simp only [hg,decide_false,Bool.false_eq_true,if_false]
      have he:K (arrOf st') (lo + x)=K (arrOf st') (lo + x - 1):=by omega
      refine wpS_pure ⟨neq + 1,rfl,b1,more _ (fun _=>rfl) (by omega),by omega,fun i i1 i2=>?_⟩
      rw [show lo + (x + 1) - 1=lo + x by omega]
      by_cases e:i=lo + x
      ·subst e; rfl
      ·rw [he]; exact b4 i (by omega) (by omega)
   case c=>
    rintro c st' ⟨m,neq,rfl,m1,m2,b1,b2,b3,b4⟩
    dsimp only
    have hsz:lo + m≤(arrOf st').size:=by rw [b1.size]; omega
    have last:∀ st2,SB a0 A0 P lo st2→Dn (arrOf st2) lo (lo + m)→Up (mirror (arrOf st2) lo (lo + m) ((lo + m - lo) / 2)) lo (lo + m):=fun st2 c1 c2 i j i1 i2 i3=>by
     rw [K_mirror (by rw [c1.size]; omega),K_mirror (by rw [c1.size]; omega),if_pos (by omega),if_pos (by omega)]
     exact c2 _ _ (by omega) (by omega) (by omega)
    by_cases hq:neq > 0
    ·rw [if_pos hq]
     refine wpS_bind (rev_ok b1 (by omega) (by omega) fun b9=>?_)
     have d9:Dn (mirror (arrOf st') (lo + m - (neq + 1)) (lo + m) ((lo + m - (lo + m - (neq + 1))) / 2)) lo (lo + m):=fun i j i1 i2 i3=>by
      rw [mir hsz b4,mir hsz b4]; exact b2 i j i1 i2 i3
     refine wpS_bind (rev_ok b9 (Nat.le_refl _) (by omega) fun b8=>?_)
     refine wpS_bind (asc_ok h0 hn (by omega) m2 b8 (last _ b9 d9) ?_ fun n2 n1 n3 u _=>wpS_pure (h n2 _ b8 (by omega) n3 u))
     intro x n R hR
     dsimp only
     refine wpS_bind (wpS_mono hR ?_)
     rintro r st' ⟨b,rfl,hb⟩
     cases b
     ·exact wpS_pure hb
     ·exact wpS_pure hb
    ·rw [if_neg hq]
     refine wpS_bind (rev_ok b1 (Nat.le_refl _) (by omega) fun b8=>?_)
     refine wpS_bind (asc_ok h0 hn (by omega) m2 b8 (last _ b1 b2) ?_ fun n2 n1 n3 u _=>wpS_pure (h n2 _ b8 (by omega) n3 u))
     intro x n R hR
     dsimp only
     refine wpS_bind (wpS_mono hR ?_)
     rintro r st' ⟨b,rfl,hb⟩
     cases b
     ·exact wpS_pure hb
     ·exact wpS_pure hb
 ·rw [if_neg g]
  have hn1:n=1:=by omega
  have hB1:=hB
  have hD1:Dn (arrOf st) lo (lo + (n + 1)):=fun i j i1 i2 i3=>by
   by_cases e:i=j
   ·subst e; exact Int.le_refl _
   ·have e1:i=lo + n - 1:=by omega
    have e2:j=lo + n:=by omega
    rw [e1,e2]
    exact Int.le_of_lt hlt
  refine wpS_bind (wpS_lift (wpAny_rule ⟨rfl,?_⟩))
  refine wpS_bind (wpS_mono (wpS_forRange (I:=fun x c st'=>∃ neq,c=(none,x,neq)∧SB a0 A0 P lo st'∧Dn (arrOf st') lo (lo + x)∧neq + 1≤x∧(∀ i,lo + x - (neq + 1)≤i→i < lo + x→K (arrOf st') i=K (arrOf st') (lo + x - 1)))
   (Q:=fun c st'=>∃ m neq,c=(none,m,neq)∧n + 1≤m∧m≤nrem∧SB a0 A0 P lo st'∧Dn (arrOf st') lo (lo + m)∧neq + 1≤m∧(∀ i,lo + m - (neq + 1)≤i→i < lo + m→K (arrOf st') i=K (arrOf st') (lo + m - 1))) ?a ?b ⟨0,rfl,hB1,hD1,by omega,fun i i1 i2=>by congr 1; omega⟩) ?c)
  case b=>
   rintro c st' ⟨neq,rfl,b1,b2,b3,b4⟩
   rw [show max (n + 1) nrem=nrem by omega] at b2 b3 b4 ⊢
   exact ⟨nrem,neq,rfl,by omega,Nat.le_refl _,b1,b2,b3,b4⟩
  case a=>
   rintro x c st' x1 x2 ⟨neq,rfl,b1,b2,b3,b4⟩
   dsimp only
   have hsz:lo + x≤(arrOf st').size:=by rw [b1.size]; omega
   refine wpS_bind (at_ok b1 h0 (by omega) (by omega) ?_)
   have more:∀ xs:Array Keyed,(∀ k,K xs k=K (arrOf st') k)→K (arrOf st') (lo + x)≤K (arrOf st') (lo + x - 1)→Dn xs lo (lo + (x + 1)):=by
    intro xs hk hle i j i1 i2 i3
    rw [hk,hk]
    by_cases hj:j < lo + x
    ·exact b2 i j i1 i2 hj
    ·have hj':j=lo + x:=by omega
     subst hj'
     by_cases e:i=lo + x
     ·subst e; exact Int.le_refl _
     ·exact Int.le_trans hle (b2 i (lo + x - 1) i1 (by omega) (by omega))
   by_cases hl:K (arrOf st') (lo + x) < K (arrOf st') (lo + x - 1)
   ·simp only [hl,decide_true,if_true]
    by_cases hq:neq > 0
    ·rw [if_pos hq]
     refine wpS_bind (rev_ok b1 (by omega) (by omega) fun b9=>wpS_pure ⟨0,rfl,b9,more _ (mir hsz b4) (Int.le_of_lt hl),by omega,fun i i1 i2=>by congr 1; omega⟩)
    ·rw [if_neg hq]
     exact wpS_pure ⟨0,rfl,b1,more _ (fun _=>rfl) (Int.le_of_lt hl),by omega,fun i i1 i2=>by congr 1; omega⟩
   ·simp only [hl,decide_false,Bool.false_eq_true,if_false]
    refine wpS_bind (at_ok b1 h0 (by omega) (by omega) ?_)
    by_cases hg:K (arrOf st') (lo + x - 1) < K (arrOf st') (lo + x)
    ·simp only [hg,decide_true,if_true]
     exact wpS_pure ⟨x,neq,rfl,x1,by omega,b1,b2,b3,b4⟩
    ·simp only [hg,decide_false,Bool.false_eq_true,if_false]
     have he:K (arrOf st') (lo + x)=K (arrOf st') (lo + x - 1):=by omega
     refine wpS_pure ⟨neq + 1,rfl,b1,more _ (fun _=>rfl) (by omega),by omega,fun i i1 i2=>?_⟩
     rw [show lo + (x + 1) - 1=lo + x by omega]
     by_cases e:i=lo + x
     ·subst e; rfl
     ·rw [he]; exact b4 i (by omega) (by omega)
  case c=>
   rintro c st' ⟨m,neq,rfl,m1,m2,b1,b2,b3,b4⟩
   dsimp only
   have hsz:lo + m≤(arrOf st').size:=by rw [b1.size]; omega
   have last:∀ st2,SB a0 A0 P lo st2→Dn (arrOf st2) lo (lo + m)→Up (mirror (arrOf st2) lo (lo + m) ((lo + m - lo) / 2)) lo (lo + m):=fun st2 c1 c2 i j i1 i2 i3=>by
    rw [K_mirror (by rw [c1.size]; omega),K_mirror (by rw [c1.size]; omega),if_pos (by omega),if_pos (by omega)]
    exact c2 _ _ (by omega) (by omega) (by omega)
   by_cases hq:neq > 0
   ·rw [if_pos hq]
    refine wpS_bind (rev_ok b1 (by omega) (by omega) fun b9=>?_)
    have d9:Dn (mirror (arrOf st') (lo + m - (neq + 1)) (lo + m) ((lo + m - (lo + m - (neq + 1))) / 2)) lo (lo + m):=fun i j i1 i2 i3=>by
     rw [mir hsz b4,mir hsz b4]; exact b2 i j i1 i2 i3
    refine wpS_bind (rev_ok b9 (Nat.le_refl _) (by omega) fun b8=>?_)
    refine wpS_bind (asc_ok h0 hn (by omega) m2 b8 (last _ b9 d9) ?_ fun n2 n1 n3 u _=>wpS_pure (h n2 _ b8 (by omega) n3 u))
    intro x n R hR
    dsimp only
    refine wpS_bind (wpS_mono hR ?_)
    rintro r st' ⟨b,rfl,hb⟩
    cases b
    ·exact wpS_pure hb
    ·exact wpS_pure hb
   ·rw [if_neg hq]
    refine wpS_bind (rev_ok b1 (Nat.le_refl _) (by omega) fun b8=>?_)
    refine wpS_bind (asc_ok h0 hn (by omega) m2 b8 (last _ b1 b2) ?_ fun n2 n1 n3 u _=>wpS_pure (h n2 _ b8 (by omega) n3 u))
    intro x n R hR
    dsimp only
    refine wpS_bind (wpS_mono hR ?_)
    rintro r st' ⟨b,rfl,hb⟩
    cases b
    ·exact wpS_pure hb
    ·exact wpS_pure hb
end
end SR
namespace SR
open PySem PyProof.Rows
def wr (xs:Array Keyed) (z:Nat) (l:List (Keyed × Nat)):Array Keyed:=l.foldl (fun a (x:Keyed × Nat)=>match x with | (p,j)=>a.setIfInBounds (z + j) p) xs
theorem wr_get (z:Nat):∀ (m:List Keyed) (k:Nat) (xs:Array Keyed),z + k + m.length≤xs.size→∀ t,(wr xs z (m.zipIdx k))[t]?=if z + k≤t∧t < z + k + m.length then m[t - (z + k)]? else xs[t]?
 | [],k,xs,_,t=>by
  rw [if_neg (by rw [List.length_nil]; omega)]
  rfl
 | p :: m,k,xs,h,t=>by
  rw [List.length_cons] at h
  show (wr (xs.setIfInBounds (z + k) p) z (m.zipIdx (k + 1)))[t]?=_
  rw [wr_get z m (k + 1) _ (by rw [Array.size_setIfInBounds]; omega),List.length_cons,Array.getElem?_setIfInBounds]
  by_cases h1:z + (k + 1)≤t∧t < z + (k + 1) + m.length
  ·rw [if_pos h1,if_pos (by omega)]
   obtain ⟨d,hd⟩:∃ d,t - (z + k)=d + 1:=⟨t - (z + k) - 1,by omega⟩
   rw [hd,List.getElem?_cons_succ]
   congr 1
   omega
  ·rw [if_neg h1]
   by_cases h2:z + k=t
   ·rw [if_pos h2,if_pos (by omega),if_pos (by omega)]
    rw [show t - (z + k)=0 by omega]
    rfl
   ·rw [if_neg h2,if_neg (by omega)]
theorem wr_list {xs:Array Keyed} {z:Nat} {m:List Keyed} (h:z + m.length≤xs.size):(wr xs z m.zipIdx).toList=xs.toList.take z ++ (m ++ xs.toList.drop (z + m.length)):=by
 refine List.ext_getElem? fun t=>?_
 rw [Array.getElem?_toList,wr_get z m 0 xs (by omega)]
 have hlt:(xs.toList.take z).length=z:=by rw [List.length_take]; simp; omega
 by_cases h1:t < z
 ·rw [if_neg (by omega),List.getElem?_append_left (by omega),List.getElem?_take_of_lt h1,Array.getElem?_toList]
 ·rw [List.getElem?_append_right (by omega),hlt]
  by_cases h2:t < z + m.length
  ·rw [if_pos (by omega),List.getElem?_append_left (by omega)]
   rfl
  ·rw [if_neg (by omega),List.getElem?_append_right (by omega),List.getElem?_drop,Array.getElem?_toList]
   congr 1
   omega
def Ch (xs:Array Keyed):Nat→List (Nat × Nat × Nat)→Nat→Prop
 | z,[],y=>z=y
 | z,(s,n,_) :: r,y=>s=z∧1≤n∧Up xs z (z + n)∧Ch xs (z + n) r y
theorem Ch.le {xs:Array Keyed}:∀ {l:List (Nat × Nat × Nat)} {z y:Nat},Ch xs z l y→z + l.length≤y
 | [],z,y,h=>by unfold Ch at h; simp; omega
 | (s,n,p) :: r,z,y,h=>by
  obtain ⟨_,h1,_,h2⟩:=h
  have:=h2.le
  rw [List.length_cons]
  omega
theorem Ch.app {xs:Array Keyed}:∀ {l r:List (Nat × Nat × Nat)} {z y:Nat},Ch xs z (l ++ r) y↔∃ m,Ch xs z l m∧Ch xs m r y
 | [],r,z,y=>⟨fun h=>⟨z,rfl,h⟩,fun ⟨m,h1,h2⟩=>by unfold Ch at h1; subst h1; exact h2⟩
 | (s,n,p) :: l,r,z,y=>by
  constructor
  ·rintro ⟨h1,h2,h3,h4⟩
   obtain ⟨m,h5,h6⟩:=Ch.app.mp h4
   exact ⟨m,⟨h1,h2,h3,h5⟩,h6⟩
  ·rintro ⟨m,⟨h1,h2,h3,h5⟩,h6⟩
   exact ⟨h1,h2,h3,Ch.app.mpr ⟨m,h5,h6⟩⟩
theorem Ch.like {xs ys:Array Keyed}:∀ {l:List (Nat × Nat × Nat)} {z y:Nat},Ch xs z l y→(∀ t,z≤t→t < y→K ys t=K xs t)→Ch ys z l y
 | [],z,y,h,_=>h
 | (s,n,p) :: r,z,y,⟨h1,h2,h3,h4⟩,hk=>by
  have:=h4.le
  refine ⟨h1,h2,fun i j i1 i2 i3=>?_,h4.like fun t t1 t2=>hk t (by omega) t2⟩
  rw [hk i i1 (by omega),hk j (by omega) (by omega)]
  exact h3 i j i1 i2 i3
theorem Ch.pow {xs:Array Keyed} (f:Nat × Nat × Nat→Nat × Nat × Nat) (hf:∀ s n p,∃ q,f (s,n,p)=(s,n,q)):∀ {l:List (Nat × Nat × Nat)} {z y:Nat} (k:Nat),Ch xs z l y→Ch xs z (l.modify k f) y
 | [],z,y,k,h=>by simpa using h
 | (s,n,p) :: r,z,y,0,⟨h1,h2,h3,h4⟩=>by
  obtain ⟨q,e⟩:=hf s n p
  rw [List.modify_zero_cons,e]
  exact ⟨h1,h2,h3,h4⟩
 | (s,n,p) :: r,z,y,k + 1,⟨h1,h2,h3,h4⟩=>by
  rw [List.modify_succ_cons]
  exact ⟨h1,h2,h3,Ch.pow f hf k h4⟩
structure Bs (a0:Array Keyed) (st:SortSt):Prop where
 perm:(arrOf st).Perm a0
 kind:kindOf st=oneType'
 failed:failedOf st=none
theorem mergeAt_eq (i:Nat):mergeAt' i=(do
 let s ← get
 let (some (sa,na,pw),some (sb,nb,_)):=((pendingOf s)[i]?,(pendingOf s)[i + 1]?) | unsupported "internal:list.sort.pending"
 set (setPending s (((pendingOf s).setIfInBounds i (sa,na + nb,pw)).eraseIdxIfInBounds (i + 1)))
 let some k ← gal false (← elem' (arrOf s) sb) (arrOf s) sa na 0 | return false
 let (sa,na):=(sa + k,na - k)
 if na == 0 then return true
 let some nb ← gal true (← elem' (arrOf s) (sa + na - 1)) (arrOf s) sb nb (nb - 1) | return false
 if nb == 0 then return true
 let x:=(arrOf s).extract sa sb
 let y:=(arrOf s).extract sb (sb + nb)
 let m ← if na≤nb then mLo x y else mHi x y
 modify fun s=>setArr s (m.toList.zipIdx.foldl (fun a (p,j)=>a.setIfInBounds (sa + j) p) (arrOf s))
 return (failedOf (← get)).isNone):=rfl
section
variable {prog:Program} {w:World} {A:Around} {E:Value→Shared→Prop} {s:Shared} {a0:Array Keyed}
theorem wpS_set {st st1:SortSt} {Q:PUnit→SortSt→Prop} (h:Q ⟨⟩ st1):wpS (model prog w) A E s (set st1:StateT SortSt Sem PUnit) Q st:=by
 unfold wpS; rw [StateT.run_set]; exact wpAny_pure ⟨rfl,h⟩
theorem K_ext {xs:Array Keyed} {i j t:Nat} (ht:i + t < j) (hj:j≤xs.size):K (xs.extract i j) t=K xs (i + t):=by
 unfold K
 rw [Array.getElem?_extract]
 rw [if_pos (by omega)]
theorem ik_ext {xs:Array Keyed} (h:IK xs) (i j:Nat):IK (xs.extract i j):=fun p hp=>h p (by
 rw [ext_list] at hp
 exact List.mem_of_mem_drop (List.mem_of_mem_take hp))
theorem up_ext {xs:Array Keyed} {i j:Nat} (h:Up xs i j) (hj:j≤xs.size):Up (xs.extract i j) 0 (xs.extract i j).size:=by
 have hs:(xs.extract i j).size=j - i:=by rw [Array.size_extract]; omega
 rw [hs]
 intro p q _ h2 h3
 rw [K_ext (by omega) hj,K_ext (by omega) hj]
 exact h _ _ (by omega) (by omega) (by omega)
theorem mat_ok {st:SortSt} {i sa na p sb nb q:Nat} {l1 l2:List (Nat × Nat × Nat)} {y:Nat} {Q:Bool→SortSt→Prop} (h0:IK a0) (hB:Bs a0 st) (hi:i=l1.length) (hP:(pendingOf st).toList=l1 ++ (sa,na,p) :: (sb,nb,q) :: l2) (hC:Ch (arrOf st) 0 (pendingOf st).toList y) (hy:y≤a0.size)
  (h:∀ st',Bs a0 st'→(pendingOf st').toList=l1 ++ (sa,na + nb,p) :: l2→Ch (arrOf st') 0 (pendingOf st').toList y→(∀ t,y≤t→K (arrOf st') t=K (arrOf st) t)→Q true st'):wpS (model prog w) A E s (mergeAt' i) Q st:=by
 have hsz:(arrOf st).size=a0.size:=hB.perm.size_eq
 have ik:=ik_perm h0 hB.perm
 rw [hP] at hC
 obtain ⟨z,c1,e1,n1,u1,e2,n2,u2,c2⟩:=Ch.app.mp hC
 subst e1 e2
 have c2l:=c2.le
 have g1:(pendingOf st)[i]?=some (sa,na,p):=by rw [← Array.getElem?_toList,hP,hi]; simp
 have g2:(pendingOf st)[i + 1]?=some (sa + na,nb,q):=by rw [← Array.getElem?_toList,hP,hi,List.getElem?_append_right (by omega)]; simp
 have hP2:(((pendingOf st).setIfInBounds i (sa,na + nb,p)).eraseIdxIfInBounds (i + 1)).toList=l1 ++ (sa,na + nb,p) :: l2:=by
  have hl:i + 1 < (pendingOf st).size:=by rw [← Array.length_toList,hP,hi,List.length_append,List.length_cons,List.length_cons]; omega
  rw [Array.eraseIdxIfInBounds,dif_pos (by rw [Array.size_setIfInBounds]; exact hl),Array.toList_eraseIdx,Array.toList_setIfInBounds,hP,hi]
  rw [List.set_append_right _ _ (Nat.le_refl _),List.eraseIdx_append_of_length_le (by omega)]
  simp
 rw [mergeAt_eq]
 refine wpS_bind (wpS_get ?_)
 rw [g1,g2]
 dsimp only
 refine wpS_bind (wpS_set ?_)
 have hsb:sa + na < (arrOf st).size:=by omega
 refine wpS_bind (elem_ok hsb ?_)
 refine wpS_bind (gal_ok hB.kind ik (ik.get hsb) (by omega) (by omega) u1 fun k k1 k2 k3=>?_)
 dsimp only
 have q2:∀ t,sa≤t→t < sa + k→K (arrOf st) t≤K (arrOf st) (sa + na):=fun t t1 t2=>by
  have:=k2 (t - sa) (by omega)
  rw [show sa + (t - sa)=t by omega] at this
  rw [K_get hsb]
  simpa [bef] using this
 have q3:∀ t,sa + k≤t→t < sa + na→K (arrOf st) (sa + na)≤K (arrOf st) t:=fun t t1 t2=>by
  have:=k3 (t - sa) (by omega) (by omega)
  rw [show sa + (t - sa)=t by omega] at this
  rw [K_get hsb]
  exact Int.le_of_lt (by simpa [bef] using this)
 -- when nothing is to be moved
 have still:Up (arrOf st) sa (sa + (na + nb))→Q true (setPending st (((pendingOf st).setIfInBounds i (sa,na + nb,p)).eraseIdxIfInBounds (i + 1))):=fun hu=>by
  refine h _ ⟨hB.perm,hB.kind,hB.failed⟩ hP2 ?_ fun t _=>rfl
  show Ch (arrOf st) 0 (((pendingOf st).setIfInBounds i (sa,na + nb,p)).eraseIdxIfInBounds (i + 1)).toList y
  rw [hP2]
  exact Ch.app.mpr ⟨sa,c1,rfl,by omega,hu,by rw [← Nat.add_assoc]; exact c2⟩
 by_cases e1:na - k=0
 ·rw [if_pos (by simpa using e1)]
  refine wpS_pure (still fun i j i1 i2 i3=>?_)
  by_cases hj:j < sa + na
  ·exact u1 i j i1 i2 hj
  ·by_cases hi':i < sa + na
   ·exact Int.le_trans (q2 i i1 (by omega)) (u2 (sa + na) j (Nat.le_refl _) (by omega) (by omega))
   ·exact u2 i j (by omega) i2 (by omega)
 rw [if_neg (by simpa using e1)]
 have hla:sa + k + (na - k) - 1 < (arrOf st).size:=by omega
 refine wpS_bind (elem_ok hla ?_)
 refine wpS_bind (gal_ok hB.kind ik (ik.get hla) (by omega) (by omega) u2 fun m m1 m2 m3=>?_)
 dsimp only
 have v2:∀ t,sa + na≤t→t < sa + na + m→K (arrOf st) t≤K (arrOf st) (sa + na - 1):=fun t t1 t2=>by
  have:=m2 (t - (sa + na)) (by omega)
  rw [show sa + na + (t - (sa + na))=t by omega] at this
  have e:sa + na - 1=sa + k + (na - k) - 1:=by omega
  rw [e,K_get hla]
  exact Int.le_of_lt (by simpa [bef] using this)
 have v3:∀ t,sa + na + m≤t→t < sa + na + nb→K (arrOf st) (sa + na - 1)≤K (arrOf st) t:=fun t t1 t2=>by
  have:=m3 (t - (sa + na)) (by omega) (by omega)
  rw [show sa + na + (t - (sa + na))=t by omega] at this
  have e:sa + na - 1=sa + k + (na - k) - 1:=by omega
  rw [e,K_get hla]
  simpa [bef] using this
 by_cases e2:m=0
 ·rw [if_pos (by simpa using e2)]
  refine wpS_pure (still fun i j i1 i2 i3=>?_)
  by_cases hj:j < sa + na
  ·exact u1 i j i1 i2 hj
  ·by_cases hi':i < sa + na
   ·exact Int.le_trans (u1 i (sa + na - 1) i1 (by omega) (by omega)) (v3 j (by omega) (by omega))
   ·exact u2 i j (by omega) i2 (by omega)
 rw [if_neg (by simpa using e2)]
 have sx:((arrOf st).extract (sa + k) (sa + na)).size=na - k:=by rw [Array.size_extract]; omega
 have sy:((arrOf st).extract (sa + na) (sa + na + m)).size=m:=by rw [Array.size_extract]; omega
 have ux:Up ((arrOf st).extract (sa + k) (sa + na)) 0 ((arrOf st).extract (sa + k) (sa + na)).size:=up_ext (fun i j i1 i2 i3=>u1 i j (by omega) i2 i3) (by omega)
 have uy:Up ((arrOf st).extract (sa + na) (sa + na + m)) 0 ((arrOf st).extract (sa + na) (sa + na + m)).size:=up_ext (fun i j i1 i2 i3=>u2 i j i1 i2 (by omega)) (by omega)
 have hlast:∀ t,t < ((arrOf st).extract (sa + na) (sa + na + m)).size→K ((arrOf st).extract (sa + na) (sa + na + m)) t≤K ((arrOf st).extract (sa + k) (sa + na)) (((arrOf st).extract (sa + k) (sa + na)).size - 1):=fun t ht=>by
  rw [sy] at ht
  rw [sx,K_ext (by omega) (by omega),K_ext (by omega) (by omega),show sa + k + (na - k - 1)=sa + na - 1 by omega]
  exact v2 _ (by omega) (by omega)
 have hfirst:∀ t,t < ((arrOf st).extract (sa + k) (sa + na)).size→K ((arrOf st).extract (sa + na) (sa + na + m)) 0≤K ((arrOf st).extract (sa + k) (sa + na)) t:=fun t ht=>by
  rw [sx] at ht
  rw [K_ext (by omega) (by omega),K_ext (by omega) (by omega),Nat.add_zero]
  exact q3 _ (by omega) (by omega)
 have fin:∀ (r:Array Keyed) (st':SortSt),Good ((arrOf st).extract (sa + k) (sa + na)) ((arrOf st).extract (sa + na) (sa + na + m)) r→Sg (setPending st (((pendingOf st).setIfInBounds i (sa,na + nb,p)).eraseIdxIfInBounds (i + 1))) st'→
   Q true (setArr st' (wr (arrOf st') (sa + k) r.toList.zipIdx)):=by
  rintro r st' ⟨g1,g2⟩ ⟨s1,s2,s3,s4⟩
  have s2:arrOf st'=arrOf st:=s2
  have rl:r.toList.length=na - k + m:=by rw [g1.length_eq,List.length_append,Array.length_toList,Array.length_toList,sx,sy]
  have hw:sa + k + r.toList.length≤(arrOf st).size:=by omega
  have hxy:((arrOf st).extract (sa + k) (sa + na)).toList ++ ((arrOf st).extract (sa + na) (sa + na + m)).toList=((arrOf st).toList.drop (sa + k)).take (na - k + m):=by
   rw [ext_list,ext_list,show sa + na - (sa + k)=na - k by omega,show sa + na + m - (sa + na)=m by omega,List.take_add,List.drop_drop,show sa + k + (na - k)=sa + na by omega]
  rw [hxy] at g1
  have hk:∀ t,K (wr (arrOf st) (sa + k) r.toList.zipIdx) t=if sa + k≤t∧t < sa + na + m then K r (t - (sa + k)) else K (arrOf st) t:=fun t=>by
   have e:=wr_get (sa + k) r.toList 0 (arrOf st) (by omega) t
   rw [rl] at e
   by_cases ht:sa + k≤t∧t < sa + na + m
   ·rw [if_pos ht]
    rw [if_pos (by omega),Array.getElem?_toList] at e
    exact K_congr e
   ·rw [if_neg ht]
    rw [if_neg (by omega)] at e
    exact K_congr e
  have hfrom:∀ t,sa + k≤t→t < sa + na + m→∃ u,sa + k≤u∧u < sa + na + m∧K r (t - (sa + k))=K (arrOf st) u:=fun t t1 t2=>by
   have ht:t - (sa + k) < r.size:=by rw [← Array.length_toList,rl]; omega
   obtain ⟨u,hu1,hu2,hu3⟩:=mem_cut (g1.mem_iff.mp (by simp:r[t - (sa + k)] ∈ r.toList))
   exact ⟨sa + k + u,by omega,by omega,by rw [K_get ht]; exact hu3⟩
  have ur:=up_of g2
  have rs:r.size=na - k + m:=by rw [← Array.length_toList,rl]
  have wu:Up (wr (arrOf st) (sa + k) r.toList.zipIdx) sa (sa + (na + nb)):=by
   intro i j i1 i2 i3
   rw [hk,hk]
   have low:∀ a u,sa≤a→a < sa + k→sa + k≤u→u < sa + na + nb→K (arrOf st) a≤K (arrOf st) u:=fun a u a1 a2 u3 u4=>by
    by_cases hu:u < sa + na
    ·exact u1 a u a1 (by omega) hu
    ·exact Int.le_trans (q2 a a1 a2) (u2 _ _ (Nat.le_refl _) (by omega) u4)
   have high:∀ a u,sa + k≤a→a < sa + na + m→sa + na + m≤u→u < sa + na + nb→K (arrOf st) a≤K (arrOf st) u:=fun a u a1 a2 u3 u4=>by
    by_cases ha:a < sa + na
    ·exact Int.le_trans (u1 a (sa + na - 1) (by omega) (by omega) (by omega)) (v3 u u3 u4)
    ·exact u2 a u (by omega) (by omega) u4
   by_cases hi1:sa + k≤i∧i < sa + na + m
   ·rw [if_pos hi1]
    by_cases hj1:sa + k≤j∧j < sa + na + m
    ·rw [if_pos hj1]
     exact ur _ _ (Nat.zero_le _) (by omega) (by omega)
    ·rw [if_neg hj1]
     obtain ⟨u,w1,w2,w3⟩:=hfrom i hi1.1 hi1.2
     rw [w3]
     exact high u j w1 w2 (by omega) (by omega)
   ·rw [if_neg hi1]
    by_cases hj1:sa + k≤j∧j < sa + na + m
    ·rw [if_pos hj1]
     obtain ⟨u,w1,w2,w3⟩:=hfrom j hj1.1 hj1.2
     rw [w3]
     exact low i u i1 (by omega) w1 (by omega)
    ·rw [if_neg hj1]
     by_cases hil:i < sa + k
     ·by_cases hjl:j < sa + na
      ·exact u1 i j i1 i2 hjl
      ·exact low i j i1 hil (by omega) (by omega)
     ·exact u2 i j (by omega) i2 (by omega)
  have wp:(wr (arrOf st) (sa + k) r.toList.zipIdx).Perm a0:=by
   refine Array.Perm.trans (Array.perm_iff_toList_perm.mpr ?_) hB.perm
   rw [wr_list hw,rl]
   refine List.Perm.trans ((g1.append_right _).append_left _) ?_
   rw [show (arrOf st).toList.drop (sa + k + (na - k + m))=((arrOf st).toList.drop (sa + k)).drop (na - k + m) by rw [List.drop_drop],List.take_append_drop,List.take_append_drop]
  rw [s2]
  refine h _ ⟨wp,s1.trans hB.kind,s4.trans hB.failed⟩ (by show (pendingOf st').toList=_; rw [s3]; exact hP2) ?_ fun t ht=>?_
  ·show Ch (wr (arrOf st) (sa + k) r.toList.zipIdx) 0 (pendingOf st').toList y
   rw [s3]
   show Ch _ 0 (((pendingOf st).setIfInBounds i (sa,na + nb,p)).eraseIdxIfInBounds (i + 1)).toList y
   rw [hP2]
   refine Ch.app.mpr ⟨sa,c1.like fun t t1 t2=>?_,rfl,by omega,wu,?_⟩
   ·rw [hk,if_neg (by omega)]
   ·rw [← Nat.add_assoc]
    exact c2.like fun t t1 t2=>by rw [hk,if_neg (by omega)]
  ·show K (wr (arrOf st) (sa + k) r.toList.zipIdx) t=_
   rw [hk,if_neg (by omega)]
 have endS:∀ (r:Array Keyed) (st':SortSt),Good ((arrOf st).extract (sa + k) (sa + na)) ((arrOf st).extract (sa + na) (sa + na + m)) r→Sg (setPending st (((pendingOf st).setIfInBounds i (sa,na + nb,p)).eraseIdxIfInBounds (i + 1))) st'→
   wpS (model prog w) A E s (do
    modify fun s=>setArr s (r.toList.zipIdx.foldl (fun a (p,j)=>a.setIfInBounds (sa + k + j) p) (arrOf s))
    return (failedOf (← get)).isNone) Q st':=fun r st' g z=>by
  refine wpS_bind (wpS_modify (wpS_bind (wpS_get (wpS_pure ?_))))
  have hf:failedOf st'=none:=z.2.2.2.trans hB.failed
  show Q (failedOf st').isNone (setArr st' (wr (arrOf st') (sa + k) r.toList.zipIdx))
  rw [hf]
  exact fin r st' g z
 by_cases hc:na - k≤m
 ·rw [if_pos hc]
  exact wpS_bind (mLo_ok hB.kind (ik_ext ik _ _) (ik_ext ik _ _) ux uy (by omega) (by omega) (hfirst 0 (by omega)) hlast fun r st' g z=>endS r st' g z)
 ·rw [if_neg hc]
  exact wpS_bind (mHi_ok hB.kind (ik_ext ik _ _) (ik_ext ik _ _) ux uy (by omega) (by omega) hfirst hlast fun r st' g z=>endS r st' g z)
end
end SR
namespace SR
open PySem PyProof.Rows
section
variable {prog:Program} {w:World} {A:Around} {E:Value→Shared→Prop} {s:Shared} {a0:Array Keyed}
structure Al (a0:Array Keyed) (y:Nat) (st:SortSt):Prop where
 bs:Bs a0 st
 ch:Ch (arrOf st) 0 (pendingOf st).toList y
theorem ite_lt {c:Prop} [Decidable c] {n:Nat} (h:2≤n):(if c then n - 2 - 1 else n - 2) + 1 < n:=by split <;> omega
theorem two_at {l:List (Nat × Nat × Nat)} {i:Nat} (h:i + 1 < l.length):∃ l1 sa na p sb nb q l2,l=l1 ++ (sa,na,p) :: (sb,nb,q) :: l2∧i=l1.length:=by
 refine ⟨l.take i,l[i].1,l[i].2.1,l[i].2.2,l[i + 1].1,l[i + 1].2.1,l[i + 1].2.2,l.drop (i + 2),?_,by rw [List.length_take]; omega⟩
 have e1:l.drop i=l[i] :: l.drop (i + 1):=List.drop_eq_getElem_cons (by omega)
 have e2:l.drop (i + 1)=l[i + 1] :: l.drop (i + 2):=List.drop_eq_getElem_cons h
 have e3:=List.take_append_drop i l
 rw [e1,e2] at e3
 exact e3.symm
theorem mg_ok {st:SortSt} {i y:Nat} {Q:Bool→SortSt→Prop} (h0:IK a0) (h1:Al a0 y st) (hy:y≤a0.size) (hi:i + 1 < (pendingOf st).size)
  (h:∀ st',Al a0 y st'→(pendingOf st').size + 1=(pendingOf st).size→(∀ t,y≤t→K (arrOf st') t=K (arrOf st) t)→Q true st'):wpS (model prog w) A E s (mergeAt' i) Q st:=by
 rw [← Array.length_toList] at hi
 obtain ⟨l1,sa,na,p,sb,nb,q,l2,e,el⟩:=two_at hi
 refine mat_ok h0 h1.bs el e h1.ch hy fun st' b1 b2 b3 b4=>h st' ⟨b1,b3⟩ ?_ b4
 rw [← Array.length_toList,← Array.length_toList,b2,e]
 simp [Nat.add_assoc]
set_option maxHeartbeats 2000000 in
theorem all_ok {st:SortSt} {Q:Unit→SortSt→Prop} (h0:IK a0) (hB:Bs a0 st) (hP:pendingOf st = #[]) (h2:1≤a0.size)
  (h:∀ st',(arrOf st').Perm a0→failedOf st'=none→Up (arrOf st') 0 a0.size→Q () st'):wpS (model prog w) A E s sortRuns' Q st:=by
 rw [sortRuns'_eq]
 refine wpS_bind (wpS_get ?_)
 dsimp only
 have hsz:(arrOf st).size=a0.size:=hB.perm.size_eq
 rw [hsz]
 generalize minRun' a0.size a0.size 0=mr
 refine wpS_bind (wpS_mono (wpS_forRange (I:=fun x c st'=>∃ lo,c=(none,lo)∧Al a0 lo st'∧lo≤a0.size∧(x≤lo ∨ lo=a0.size))
  (Q:=fun c st'=>c=(none,a0.size)∧Al a0 a0.size st') ?step ?fin ⟨0,rfl,⟨hB,by rw [hP]; exact rfl⟩,Nat.zero_le _,.inl (Nat.le_refl _)⟩) ?post)
 case fin=>
  rintro c st' ⟨lo,rfl,b1,b2,b3⟩
  have:lo=a0.size:=by omega
  subst this
  exact ⟨rfl,b1⟩
 case step=>
  rintro x c st' _ hx ⟨lo,rfl,b1,b2,b3⟩
  dsimp only
  by_cases g:lo ≥ a0.size
  ·rw [if_pos g]
   have:lo=a0.size:=by omega
   subst this
   exact wpS_pure ⟨rfl,b1⟩
  rw [if_neg g]
  have hSB:SB a0 (arrOf st') (pendingOf st') lo st':=⟨b1.bs.perm,b1.bs.kind,b1.bs.failed,rfl,fun _ _=>rfl⟩
  -- what follows when the run of n is there
  have nxt:∀ (n:Nat) (st2:SortSt),SB a0 (arrOf st') (pendingOf st') lo st2→1≤n→lo + n≤a0.size→Up (arrOf st2) lo (lo + n)→Al a0 lo st2:=fun n st2 c1 _ _ _=>
   ⟨⟨c1.perm,c1.kind,c1.failed⟩,by rw [c1.pend]; exact b1.ch.like fun t _ ht=>c1.low t ht⟩
  refine wpS_bind (run_ok h0 (by omega) (by omega) hSB fun m st2 c1 m1 m2 u=>?_)
  dsimp only
  have last:∀ (n:Nat) (st2:SortSt),Al a0 lo st2→1≤n→lo + n≤a0.size→Up (arrOf st2) lo (lo + n)→Al a0 (lo + n) (setPending st2 ((pendingOf st2).push (lo,n,0))):=fun n st2 d1 d2 d3 d4=>by
   refine ⟨⟨d1.bs.perm,d1.bs.kind,d1.bs.failed⟩,?_⟩
   show Ch (arrOf st2) 0 ((pendingOf st2).push (lo,n,0)).toList (lo + n)
   rw [Array.toList_push]
   exact Ch.app.mpr ⟨lo,d1.ch,rfl,d2,d4,rfl⟩
  by_cases hm:m < mr
  all_goals first | rw [if_pos hm] | rw [if_neg hm]
  ·refine wpS_bind (wpS_lift (wpAny_rule ⟨rfl,?_⟩))
   refine wpS_bind (bins_ok h0 (n:=min (a0.size - lo) mr) (by omega) c1 u (by omega) fun st3 d1 d2=>?_)
   simp only [Bool.not_true,Bool.false_eq_true,if_false]
   refine wpS_bind (wpS_get ?_)
   obtain ⟨n,hn⟩:∃ n,n=min (a0.size - lo) mr:=⟨_,rfl⟩
   rw [← hn] at d2 ⊢
   have n1:1≤n:=by omega
   have n2:lo + n≤a0.size:=by omega
   have al:=nxt n st3 d1 n1 n2 d2
   cases hb:(pendingOf st3).back? with
   | none=>
    dsimp only
    exact wpS_bind (wpS_modify (wpS_pure ⟨lo + n,rfl,last n st3 al n1 n2 d2,n2,by omega⟩))
   | some e=>
    obtain ⟨s1,n3,p3⟩:=e
    dsimp only
    generalize power' a0.size (2 * s1 + n3) (2 * s1 + n3 + n3 + n) a0.size=pw
    refine wpS_bind (wpS_mono (wpS_forRange (I:=fun y c st4=>c=(none,())∧Al a0 lo st4∧Up (arrOf st4) lo (lo + n))
     (Q:=fun c st4=>c=(none,())∧Al a0 lo st4∧Up (arrOf st4) lo (lo + n)) ?a (fun _ _ z=>z) ⟨rfl,al,d2⟩) ?b)
    case a=>
     rintro y c st4 _ _ ⟨rfl,e1,e2⟩
     refine wpS_bind (wpS_get ?_)
     by_cases hp:(pendingOf st4).size > 1
     ·rw [if_pos hp]
      have hg:(pendingOf st4)[(pendingOf st4).size - 2]?=some (pendingOf st4)[(pendingOf st4).size - 2]:=getElem?_pos _ _ (by omega)
      rw [hg]
      dsimp only
      split
      ·exact wpS_pure ⟨rfl,e1,e2⟩
      ·refine wpS_bind (mg_ok h0 e1 (by omega) (by omega) fun st5 f1 _ f3=>?_)
       simp only [Bool.not_true,Bool.false_eq_true,if_false]
       refine wpS_pure ⟨rfl,f1,fun i j i1 i2 i3=>?_⟩
       rw [f3 i i1,f3 j (by omega)]
       exact e2 i j i1 i2 i3
     ·rw [if_neg hp]
      exact wpS_pure ⟨rfl,e1,e2⟩
    case b=>
     rintro c st4 ⟨rfl,e1,e2⟩
     dsimp only
     refine wpS_bind (wpS_modify (wpS_bind (wpS_modify (wpS_pure ⟨lo + n,rfl,last n _ ⟨⟨e1.bs.perm,e1.bs.kind,e1.bs.failed⟩,?_⟩ n1 n2 e2,n2,by omega⟩))))
     show Ch (arrOf st4) 0 ((pendingOf st4).modify ((pendingOf st4).size - 1) _).toList lo
     rw [Array.toList_modify]
     exact Ch.pow _ (fun s n p=>⟨_,rfl⟩) _ e1.ch
  ·refine wpS_bind (wpS_get ?_)
   have n2:lo + m≤a0.size:=by omega
   have al:=nxt m st2 c1 m1 n2 u
   cases hb:(pendingOf st2).back? with
   | none=>
    dsimp only
    exact wpS_bind (wpS_modify (wpS_pure ⟨lo + m,rfl,last m st2 al m1 n2 u,n2,by omega⟩))
   | some e=>
    obtain ⟨s1,n3,p3⟩:=e
    dsimp only
    generalize power' a0.size (2 * s1 + n3) (2 * s1 + n3 + n3 + m) a0.size=pw
    refine wpS_bind (wpS_mono (wpS_forRange (I:=fun y c st4=>c=(none,())∧Al a0 lo st4∧Up (arrOf st4) lo (lo + m))
     (Q:=fun c st4=>c=(none,())∧Al a0 lo st4∧Up (arrOf st4) lo (lo + m)) ?a (fun _ _ z=>z) ⟨rfl,al,u⟩) ?b)
    case a=>
     rintro y c st4 _ _ ⟨rfl,e1,e2⟩
     refine wpS_bind (wpS_get ?_)
     by_cases hp:(pendingOf st4).size > 1
     ·rw [if_pos hp]
      have hg:(pendingOf st4)[(pendingOf st4).size - 2]?=some (pendingOf st4)[(pendingOf st4).size - 2]:=getElem?_pos _ _ (by omega)
      rw [hg]
      dsimp only
      split
      ·exact wpS_pure ⟨rfl,e1,e2⟩
      ·refine wpS_bind (mg_ok h0 e1 (by omega) (by omega) fun st5 f1 _ f3=>?_)
       simp only [Bool.not_true,Bool.false_eq_true,if_false]
       refine wpS_pure ⟨rfl,f1,fun i j i1 i2 i3=>?_⟩
       rw [f3 i i1,f3 j (by omega)]
       exact e2 i j i1 i2 i3
     ·rw [if_neg hp]
      exact wpS_pure ⟨rfl,e1,e2⟩
    case b=>
     rintro c st4 ⟨rfl,e1,e2⟩
     dsimp only
     refine wpS_bind (wpS_modify (wpS_bind (wpS_modify (wpS_pure ⟨lo + m,rfl,last m _ ⟨⟨e1.bs.perm,e1.bs.kind,e1.bs.failed⟩,?_⟩ m1 n2 e2,n2,by omega⟩))))
     show Ch (arrOf st4) 0 ((pendingOf st4).modify ((pendingOf st4).size - 1) _).toList lo
     rw [Array.toList_modify]
     exact Ch.pow _ (fun s n p=>⟨_,rfl⟩) _ e1.ch
 case post=>
  rintro c st' ⟨rfl,b1⟩
  dsimp only
  have hp0:(pendingOf st').size≤a0.size:=by have:=b1.ch.le; rw [Array.length_toList] at this; omega
  refine wpS_bind (wpS_mono (wpS_forRange (I:=fun x c st2=>c=(none,())∧Al a0 a0.size st2∧((pendingOf st2).size + x≤a0.size ∨ (pendingOf st2).size≤1))
   (Q:=fun c st2=>c=(none,())∧Al a0 a0.size st2∧(pendingOf st2).size≤1) ?a ?b ⟨rfl,b1,.inl (by omega)⟩) ?c)
  case b=>
   rintro c st2 ⟨hc,d1,d2⟩
   exact ⟨hc,d1,by omega⟩
  case a=>
   rintro x c st2 _ hx ⟨rfl,d1,d2⟩
   refine wpS_bind (wpS_get ?_)
   by_cases hs:(pendingOf st2).size≤1
   ·rw [if_pos hs]
    exact wpS_pure ⟨rfl,d1,hs⟩
   rw [if_neg hs]
   refine wpS_bind (mg_ok h0 d1 (Nat.le_refl _) (ite_lt (by omega)) fun st5 f1 f2 _=>?_)
   simp only [Bool.not_true,Bool.false_eq_true,if_false]
   exact wpS_pure ⟨rfl,f1,by omega⟩
  case c=>
   rintro c st2 ⟨rfl,d1,d2⟩
   refine wpS_pure (h st2 d1.bs.perm d1.bs.failed ?_)
   have hc:=d1.ch
   rw [← Array.length_toList] at d2
   match hl:(pendingOf st2).toList with
   | []=>rw [hl] at hc; unfold Ch at hc; omega
   | [(z,n,p)]=>
    rw [hl] at hc
    obtain ⟨e1,e2,e3,e4⟩:=hc
    unfold Ch at e4
    rw [Nat.zero_add] at e3 e4
    subst e4
    exact e3
   | _ :: _ :: _=>rw [hl] at d2; simp at d2
end
end SR
namespace SR
open PySem PyProof.Rows
section
variable {prog:Program} {w:World} {A:Around} {E:Value→Shared→Prop} {s:Shared}
theorem ups {xs:Array Keyed} {n:Nat} (h:Up xs 0 n):SortedTo xs n:=fun i j i1 i2=>h i j (Nat.zero_le _) i1 i2
theorem sort_all {a:Addr} {vs:List Value} {ns:List Int} {n:Nat} {P:Fin→Shared→Prop} (ho:s.heap.get? a=some (seqObj "list" vs.toArray n)) (hI:IntsAre vs ns) (hz:vs.length≤sizeLine)
  (h:∀ (out:Array Value) (ns':List Int),IntsAre out.toList ns'→ns'.Perm ns→ns'.Pairwise (· ≤ ·)→P (.done (.ret .none)) { s with heap:=sortedHeap s.heap a vs out }):wpAny (model prog w) A (Builtin.«list.sort» ⟨[.ref a],[]⟩) P E s:=by
 by_cases h64:vs.length < 64
 ·exact list_sort_tree ho hI h64 h
 rw [list_sort_plain]
 have lt:=Heap.lt_size ho
 refine wpAny_bind (listItems_at ho rfl (wpAny_bind (listUpdate_at ho rfl ?_ (hsz:=by simpa using hz) (hsz2:=by simp))))
 obtain ⟨ep,g1⟩:∃ ep,(s.heap.update a (Obj.mapSeq fun _=>#[])).get? a=some (seqObj "list" #[] ep):=⟨_,get?_update_seq ho (fun _=>#[])⟩
 refine wpAny_bind (seqEpoch_at g1 rfl (wpAny_bind (wpAny_newTuple (wpAny_bind (wpAny_newList (wpAny_holding ?_))) (by simpa using hz))))
 have g2:(((s.heap.update a (Obj.mapSeq fun _=>#[])).push (seqObj "tuple" vs.toArray 0)).push (seqObj "list" #[] 0)).get? a=some (seqObj "list" #[] ep):=by
  have z1:(s.heap.update a (Obj.mapSeq fun _=>#[])).objs.size=s.heap.objs.size:=Heap.size_update ..
  rw [Heap.get?_push_ne _ _ _ (by rw [size_push',z1]; exact Nat.ne_of_lt (Nat.lt_succ_of_lt lt)),Heap.get?_push_ne _ _ _ (by rw [z1]; exact Nat.ne_of_lt lt),g1]
 have big:¬ vs.toArray.size < 2:=by simp; omega
 dsimp only
 rw [if_neg big,if_neg big]
 match vs,hI,hz,h64 with
 | [],_,_,h64=>exact absurd (by decide) h64
 | [_],_,_,h64=>exact absurd (by simp) h64
 | v1 :: v2 :: vs,hI,hz,h64=>
  rw [keyKind_ints hI]
  refine wpAny_bind (wpAny_pure (wpAny_bind (wpAny_mono (all_ok (a0:=pairsOf (v1 :: v2 :: vs)) (st:=SortSt.mk' oneType' ((v1 :: v2 :: vs).toArray.zip (v1 :: v2 :: vs).toArray) #[] 7 none)
   (Q:=fun _ st'=>(arrOf st').Perm (pairsOf (v1 :: v2 :: vs))∧failedOf st'=none∧SortedTo (arrOf st') (pairsOf (v1 :: v2 :: vs)).size)
   hI.intKeys ⟨Array.Perm.refl _,rfl,rfl⟩ rfl (by rw [pairsOf_size]; simp) fun st' b1 b2 b3=>⟨b1,b2,ups b3⟩) ?_ fun _ _ e=>e)))
  rintro ⟨⟨⟩,st'⟩ s' ⟨rfl,b1,b2,b3⟩
  have hsz:((arrOf st').map (·.2)).size=(v1 :: v2 :: vs).length:=(Array.size_map ..).trans (b1.size_eq.trans (pairsOf_size _))
  obtain ⟨ns',c1,c2,c3⟩:=sorted_out hI b1 b3
  refine wpAny_bind (seqEpoch_at g2 rfl (wpAny_bind (listUpdate_at g2 rfl ?_ (hsz:=by simp) (hsz2:=by rw [hsz]; omega))))
  rw [b2]
  simp only [bne_self_eq_false,Bool.false_eq_true,if_false]
  exact wpAny_pure (h _ ns' c1 c2 c3)
end
end SR
namespace SQ
open PySem PySem.Spec PyProof.Rows
section
variable {prog:Program} {w:World} {A:Around} {E:Value→Shared→Prop} {s:Shared}
theorem sortedHeap_ok {h:Heap} {a:Addr} {vs:List Value} {n:Nat} {out:Array Value} (ho:h.get? a=some (seqObj "list" vs.toArray n)):(∃ n',(sortedHeap h a vs out).get? a=some (seqObj "list" out n'))∧∀ b o,b ≠ a→h.get? b=some o→(sortedHeap h a vs out).get? b=some o:=by
 unfold sortedHeap
 obtain ⟨k,g⟩:∃ k,(h.update a (Obj.mapSeq fun _=>#[])).get? a=some (seqObj "list" #[] k):=⟨_,get?_update_seq ho _⟩
 refine ⟨⟨_,get?_update_seq (Heap.get?_push_of_some _ (Heap.get?_push_of_some _ g)) _⟩,fun b o hb e=>?_⟩
 exact ((Heap.SameBut.update ..).2 b hb).trans (Heap.get?_push_of_some _ (Heap.get?_push_of_some _ (((Heap.SameBut.update ..).2 b hb).trans e)))
theorem sorted_tail {s:Shared} {vs:List Value} {ns:List Int} {Q:Value→Shared→Prop} (hI:IntsAre vs ns) (hz:vs.length≤sizeLine)
  (h:∀ (h':Heap) (out:Array Value) (ns':List Int) (n:Nat),(∀ b o,s.heap.get? b=some o→h'.get? b=some o)→h'.get? s.heap.objs.size=some (seqObj "list" out n)→IntsAre out.toList ns'→ns'.Perm ns→ns'.Pairwise (· ≤ ·)→Q (.ref s.heap.objs.size) { s with heap:=h' }):
  wpAny (model prog w) A (do
   let l ← newList vs
   let _ ← holding [l] (call (.builtin "list.sort") [l] [])
   ret l) (fun fin s'=>∃ v,fin=.done (.ret v)∧Q v s') E s:=by
 refine wpAny_bind (wpAny_newList ?_ hz)
 have g:(s.heap.push (seqObj "list" vs.toArray 0)).get? s.heap.objs.size=some (seqObj "list" vs.toArray 0):=Heap.get?_push_size _ rfl
 refine wpAny_bind (wpAny_holding (wpAny_call_entry slot_list_sort ⟨_,g,rfl⟩ entry_list_sort (SR.sort_all g hI hz fun out ns' a1 a2 a3=>⟨_,rfl,?_⟩) (args_list_sort _)))
 obtain ⟨⟨n,g1⟩,g2⟩:=sortedHeap_ok (out:=out) g
 exact wpAny_pure ⟨_,rfl,h _ out ns' n (fun b o e=>g2 b o (Nat.ne_of_lt (Heap.lt_size e)) (Heap.get?_push_of_some _ e)) g1 a1 a2 a3⟩
theorem sorted_seq {k:Bool} {l:Addr} {vs:List Value} {ns:List Int} {Q:Value→Shared→Prop} (hl:Is k s.heap l vs.toArray) (hI:IntsAre vs ns) (hz:vs.length≤sizeLine)
  (h:∀ (a:Addr) (h':Heap) (out:Array Value) (ns':List Int) (n:Nat),s.heap.objs.size≤a→(∀ b o,s.heap.get? b=some o→h'.get? b=some o)→h'.get? a=some (seqObj "list" out n)→IntsAre out.toList ns'→ns'.Perm ns→ns'.Pairwise (· ≤ ·)→Q (.ref a) { s with heap:=h' }):
  wpAny (model prog w) A (call (.builtin "sorted") [.ref l]) Q E s:=by
 refine Calls.call_function_entry kind_sorted plain_sorted entry_sorted (args_sorted1 _) ?_
 unfold Builtin.«sorted»
 refine wpAny_bind (m:=checkCount "sorted" 1 1 _) (wpAny_pure ?_)
 refine wpAny_bind (collects hl ?_ hz)
 have kp:∀ b o,s.heap.get? b=some o→((s.heap.push (seqObj "list" #[] 0)).update s.heap.objs.size (Obj.mapSeq (· ++ vs.toArray))).get? b=some o:=fun b o e=>
  ((Heap.SameBut.update ..).2 b (Nat.ne_of_lt (Heap.lt_size e))).trans (Heap.get?_push_of_some _ e)
 refine sorted_tail (s:={ s with heap:=(s.heap.push (seqObj "list" #[] 0)).update s.heap.objs.size (Obj.mapSeq (· ++ vs.toArray)) }) hI hz fun h' out ns' n k1 k2 a1 a2 a3=>h _ h' out ns' n ?_ (fun b o e=>k1 b o (kp b o e)) k2 a1 a2 a3
 show s.heap.objs.size≤((s.heap.push (seqObj "list" #[] 0)).update s.heap.objs.size (Obj.mapSeq (· ++ vs.toArray))).objs.size
 rw [Heap.size_update,size_push']; exact Nat.le_succ _
theorem sorted_src {T:String} {r d:Addr} {n:Nat} {P:Nat→Value→Prop} {OK:Heap→Prop} {ns:List Int} {Q:Value→Shared→Prop} (K:PySem.W.KdlSrc prog w T r d n P OK) (hh:A.handled=none) (hok:OK s.heap) (hn:n≤sizeLine)
  (hI:∀ vs:List Value,vs.length=n→(∀ j v,vs[j]?=some v→P j v)→IntsAre vs ns)
  (h:∀ (h1:Heap) (tk:Nat),(∀ b o,s.heap.get? b=some o→h1.get? b=some o)→∀ (h2:Heap) (out:Array Value) (ns':List Int) (n:Nat),(∀ b o,h1.get? b=some o→h2.get? b=some o)→h2.get? h1.objs.size=some (seqObj "list" out n)→IntsAre out.toList ns'→ns'.Perm ns→ns'.Pairwise (· ≤ ·)→Q (.ref h1.objs.size) { s with heap:=h2,toks:=tk }):
  wpAny (model prog w) A (call (.builtin "sorted") [.ref r]) Q E s:=by
 refine Calls.call_function_entry kind_sorted plain_sorted entry_sorted (args_sorted1 _) ?_
 unfold Builtin.«sorted»
 refine wpAny_bind (m:=checkCount "sorted" 1 1 _) (wpAny_pure ?_)
 refine wpAny_bind (PySem.W.kdu_collect (A:=A.in1) K hh hok hn fun h' tk acc hk hacc=>?_)
 have hl:acc.toList.length=n:=by rw [Array.length_toList]; exact hacc.1
 have hi:=hI acc.toList hl fun j v e=>hacc.2 j v (by rw [← Array.getElem?_toList]; exact e)
 refine sorted_tail (s:={ s with heap:=h',toks:=tk }) hi (by omega) fun h2 out ns' n k1 k2 a1 a2 a3=>h h' tk hk h2 out ns' n k1 k2 a1 a2 a3
end
end SQ
namespace PD
open PySem PySem.Spec PyProof.Rows L2
def kints:List (KD × D)→Option (List Int)
 | []=>some []
 | (.inl i,_) :: r=>(kints r).map (i :: ·)
 | _=>none
def srtOf (S:Sto) (d:D):Option (List Int):=match seqOf S d with
 | some a=>intsOf a
 | none=>match dicOf S d with
  | some kvs=>kints kvs
  | none=>none
def fSrt:Sto→List D→Option D
 | S,[d]=>match srtOf S d with
  | some ns=>if ns.length≤sizeLine then some (.lst ((sortZ ns).map .int)) else none
  | none=>none
 | _,_=>none
section
variable {X:Cx} {E:XK}
theorem kints_len:∀ {kvs:List (KD × D)} {ns:List Int},kints kvs=some ns→ns.length=kvs.length
 | [],_,h=>by unfold kints at h; cases h; rfl
 | (.inl i,_) :: r,ns,h=>by
  unfold kints at h
  cases e:kints r with
  | none=>rw [e] at h; cases h
  | some m=>rw [e] at h; cases h; simp [kints_len e]
 | (.inr i,_) :: r,ns,h=>by unfold kints at h; cases h
theorem kints_at:∀ {kvs:List (KD × D)} {ns:List Int},kints kvs=some ns→∀ (j:Nat) (k:KD) (d:D),kvs[j]?=some (k,d)→∃ i,ns[j]?=some i∧k=.inl i
 | [],_,h,j,k,d,e=>by simp at e
 | (.inl i,x) :: r,ns,h,j,k,d,e=>by
  unfold kints at h
  cases e':kints r with
  | none=>rw [e'] at h; cases h
  | some m=>
   rw [e'] at h; cases h
   cases j with
   | zero=>simp at e; exact ⟨i,rfl,e.1.symm⟩
   | succ j=>exact kints_at e' j k d (by simpa using e)
 | (.inr i,_) :: r,ns,h,j,k,d,e=>by unfold kints at h; cases h
theorem ints_of_at:∀ (vs:List Value) (ns:List Int),vs.length=ns.length→(∀ (j:Nat) (v:Value),vs[j]?=some v→∃ i t,ns[j]?=some i∧v=.int i t)→IntsAre vs ns
 | [],[],_,_=>.nil
 | v :: vs,n :: ns,hl,h=>by
  obtain ⟨i,t,e,rfl⟩:=h 0 v rfl
  cases e
  exact .cons _ _ (ints_of_at vs ns (by simpa using hl) fun j v e=>h (j + 1) v (by simpa using e))
 | [],_ :: _,hl,_=>by simp at hl
 | _ :: _,[],hl,_=>by simp at hl
theorem RDk.at {K:PySem.W.Frag} {w:Wd} {H:Hp}:∀ {ds:List (KD × D)} {us:List (Key × V)},RDk K w H ds us→∀ (j:Nat) (k:Key) (v:V),us[j]?=some (k,v)→∃ d,ds[j]?=some (k,d)
 | [],_,h,j,k,v,e=>by rw [h.nil_inv] at e; simp at e
 | (k0,d) :: ds,_,h,j,k,v,e=>by
  obtain ⟨v0,r,rfl,_,t⟩:=h.cons_inv
  cases j with
  | zero=>simp at e; exact ⟨d,by simp [e.1]⟩
  | succ j=>exact t.at j k v (by simpa using e)
theorem xc_srt (hc:X.calm=true):CallR X (.builtin "sorted") (xC X.K E fSrt):=by
 rintro pins s σ H xs us Q I r ⟨w,S,ds,hS,qs,p⟩
 obtain ⟨z,hz,p'⟩:=p.of
 clear p
 unfold fSrt at hz
 split at hz
 ·rename_i d
  obtain ⟨v,rfl,q⟩:=qs.one_inv
  split at hz
  ·rename_i ns hns
   split at hz
   ·rename_i hlt
    cases hz
    -- the list that comes
    have last:∀ (s1:Shared) (a:Addr) (h2:Heap) (tk:Nat) (out:Array Value) (ns':List Int) (n:Nat),Inv X pins σ H s1→s1.heap.objs.size≤a→(∀ b o,s1.heap.get? b=some o→h2.get? b=some o)→h2.get? a=some (seqObj "list" out n)→IntsAre out.toList ns'→ns'.Perm ns→ns'.Pairwise (· ≤ ·)→EP X pins σ Q (.ref a) { s1 with heap:=h2,toks:=tk }:=fun s1 a h2 tk out ns' n I1 la k1 k2 a1 a2 a3=>by
     have en:ns'=sortZ ns:=sorted_uniq (a2.trans (sortZ_perm ns).symm) a3 (sortZ_sorted ns)
     subst en
     have hf:H a=none:=I1.hok.fresh la
     have hz:((sortZ ns).map V.int).length≤sizeLine:=by rw [List.length_map,(sortZ_perm ns).length_eq]; exact hlt
     refine ⟨.ref a,_,I1.laid (t':=tk) (a:=a) (o:=.lst ((sortZ ns).map V.int)) k1 la ⟨hz,out.toList,n,vals_of a1,by rw [Array.toArray_toList]; exact k2⟩,rfl,?_⟩
     exact p'.at (Ext.new hf) (RD.newLst hS hf (rds_ints _)) (hS.new hf)
    unfold srtOf at hns
    split at hns
    ·rename_i a ha
     obtain ⟨pa,vs,rfl,sq,ra⟩:=seq_ok hS q ha
     obtain ⟨u,rfl,rx⟩:=vals1 r
     cases rx
     have main:∀ (k:Bool) (its:List Value),Vals vs its→SQ.Is k s.heap pa its.toArray→wpAny (model X.prog X.w) X.A (call (.builtin "sorted") [.ref pa]) (EP X pins σ Q) X.xe s:=fun k its rv pl=>by
      have hI:=ints_are ra rv hns
      have hl:its.length=ns.length:=hI.length
      exact SQ.sorted_seq pl hI (by omega) fun a h' out ns' n la k1 k2 a1 a2 a3=>last s a h' s.toks out ns' n I la k1 k2 a1 a2 a3
     rcases sq with hq | hq
     ·obtain ⟨its,r',pl,hz⟩:=I.list hq
      exact main false its r' pl.isList
     ·obtain ⟨its,r',pl,hz⟩:=I.tuple hq
      exact main true its r' pl
    ·split at hns
     ·rename_i kvs hd
      obtain ⟨pp,us',rfl,rd,rk⟩:=dic_at hS q hd
      obtain ⟨u,rfl,rx⟩:=vals1 r
      cases rx
      obtain ⟨hl,hm,vs,rel,dd⟩:=dk_rd I.hok rd
      obtain ⟨ep,hat⟩:=dd.dictAt
      have e1:=rel.length
      have e2:=rk.length
      have e3:=kints_len hns
      refine SQ.sorted_src (ns:=ns) (PySem.W.kdl_dict (knd:=mixKind X.prog X.w) (kvs:=vs) (ep:=ep) hm) (I.ok.hd hc) hat (by omega) (fun ws hw hv=>?_) fun h1 tk hk h2 out ns' n k1 k2 a1 a2 a3=>?_
      ·refine ints_of_at ws ns (by omega) fun j u hu=>?_
       obtain ⟨k,x,hx,hkey⟩:=hv j u hu
       obtain ⟨y,hy⟩:∃ y,us'[j]?=some (k,y):=by
        have e:=congrArg (fun l:List Key=>l[j]?) rel.keys
        simp only [List.getElem?_map,hx,Option.map_some] at e
        cases hu':us'[j]? with
        | none=>rw [hu'] at e; cases e
        | some q=>rw [hu'] at e; cases e; exact ⟨q.2,rfl⟩
       obtain ⟨d',hd'⟩:=rk.at j k y hy
       obtain ⟨i,hi,rfl⟩:=kints_at hns j k d' hd'
       have:=kV_of_is hkey
       obtain ⟨t,rfl⟩:∃ t,u=.int i t:=this
       exact ⟨i,t,hi,rfl⟩
      ·exact last { s with heap:=h1,toks:=tk } _ h2 tk out ns' n (I.kept (t':=tk) hk) (Nat.le_refl _) k1 k2 a1 a2 a3
     ·cases hns
   ·cases hz
  ·cases hz
 ·cases hz
end
end PD
namespace PD
open PySem PySem.Spec PyProof.Rows L2
def KCmpG (prog:Program) (w:World) (A:Around) (h0:Heap) (P:Nat→Value→Prop) (bt:Nat→Nat→Bool):Prop:=
 ∀ (i j:Nat) (vi vj:Value) (s:Shared) (Q:Value→Shared→Prop) (E:Value→Shared→Prop),(∀ b o,h0.get? b=some o→s.heap.get? b=some o)→P i vi→P j vj→Q (.bool (bt i j)) s→wpAny (model prog w) A (richCompare .Gt vi vj) Q E s
section
variable {prog:Program} {w:World} {A:Around} {R:Result→Shared→Prop} {I:Addr} {fp wr:List Addr} {n:Nat} {P:Nat→Value→Prop} {St:Nat→Heap→Prop} {h0:Heap} {bt:Nat→Nat→Bool} {S:Addr} {kw:List (Str × Value)}
theorem max_loopK (W:Walks prog w A.in1 I fp wr n P St) (hcmp:KCmpG prog w A.in1 h0 P bt) (hSf:S ∉ fp) (hw:∀ b ∈ wr,h0.get? b=none) (hS0:h0.get? S=none):
  ∀ (k j:Nat) (s:Shared) (vb:Value) (c:Nat),n - (j + 1)=k→j + 1≤n→St (j + 1) s.heap→P (argBest bt j) vb→s.heap.get? S=some (cellS #[vb,vb] c)→(∀ b o,h0.get? b=some o→s.heap.get? b=some o)→
  (∀ v h' tk,P (argBest bt (n - 1)) v→(∀ b o,h0.get? b=some o→h'.get? b=some o)→R (.ok (.ret v)) { s with heap:=h',toks:=tk })→
  codeAny (model prog w) A (.builtin "max.loop" ⟨[.ref I,.none,.ref S],kw⟩) R s:=by
 have hSw:S ∉ wr:=fun h=>hSf (W.sub _ h)
 have nw:∀ {b:Addr} {o:Obj},h0.get? b=some o→b ∉ wr:=fun e h=>by rw [hw _ h] at e; cases e
 have nS:∀ {b:Addr} {o:Obj},h0.get? b=some o→S ≠ b:=fun e h=>by rw [← h,hS0] at e; cases e
 have hname:(toString "max" ++ toString ".loop":String) = "max.loop":=by decide
 intro k
 induction k with
 | zero=>
  intro j s vb c hk hj hst hPb hS hkp hR
  have hin:j + 1=n:=by omega
  refine codeAny_builtin F.entry_max_loop ?_
  rw [Around.under_plainId F.plain_max_loop _]
  show wpAny _ A.in1 (seqItems? (.ref S) >>= _) _ _ s
  refine wpAny_bind (wpAny_seqItems hS rfl ?_)
  show wpAny _ A.in1 (tryCatch (pyNext (.ref I)) _ >>= _) _ _ s
  refine wpAny_bind (wpAny_tryCatch (W.done s _ _ (hin ▸ hst) fun h' tk hk'=>?_))
  show wpAny _ A.in1 (updateSeq S (fun _=>#[]) >>= _) _ _ _
  refine wpAny_bind ?_
  refine wpAny_updateSeq (hk' S _ hSw hS) rfl (wpAny_bind (wpAny_letGo (wpAny_pure ?_)))
  exact hR vb _ tk (by rw [← hin]; exact hPb) fun b o e=>(Heap.get?_update_other _ _ (nS e)).trans (hk' b o (nw e) (hkp b o e))
 | succ k ih=>
  intro j s vb c hk hj hst hPb hS hkp hR
  have hlt:j + 1 < n:=by omega
  refine codeAny_builtin F.entry_max_loop ?_
  rw [Around.under_plainId F.plain_max_loop _]
  show wpAny _ A.in1 (seqItems? (.ref S) >>= _) _ _ s
  refine wpAny_bind (wpAny_seqItems hS rfl ?_)
  show wpAny _ A.in1 (tryCatch (pyNext (.ref I)) _ >>= _) _ _ s
  refine wpAny_bind (wpAny_tryCatch (W.item (j + 1) s _ _ hlt hst fun v h' tk hP hst' hk'=>?_))
  have hS':=hk' S _ hSw hS
  have hkp':∀ b o,h0.get? b=some o→h'.get? b=some o:=fun b o e=>hk' b o (nw e) (hkp b o e)
  show wpAny _ A.in1 (tryCatch (holding [v,v] (richCompare .Gt v vb >>= _)) _ >>= _) _ _ _
  refine wpAny_bind (wpAny_tryCatch (wpAny_holding (wpAny_bind (hcmp (j + 1) (argBest bt j) v vb _ _ _ hkp' hP hPb ?_))))
  refine wpAny_bind (wpAny_holding (wpAny_truthy_bool ?_))
  refine wpAny_bind (wpAny_letGo (wpAny_pure ?_))
  cases hb:bt (j + 1) (argBest bt j) with
  | true=>
   simp only [if_true]
   refine wpAny_bind ?_
   refine wpAny_updateSeq hS' rfl (wpAny_bind (wpAny_letGo ?_))
   rw [hname]
   refine wpAny_pure ⟨plainId_quiet F.plain_max_loop _,ih (j + 1) _ v _ (by omega) hlt (W.frame _ _ _ hst' fun b hbf o e=>(Heap.get?_update_other _ _ (fun h:S=b=>hSf (by rw [h]; exact hbf))).trans e) (by simp only [argBest,hb,if_true]; exact hP) (Heap.get?_update_self _ hS' rfl)
    (fun b o e=>(Heap.get?_update_other _ _ (nS e)).trans (hkp' b o e)) fun v' h'' tk'' hP' hk''=>hR v' h'' tk'' hP' hk''⟩
  | false=>
   simp only [Bool.false_eq_true,if_false]
   refine wpAny_bind (wpAny_letGo ?_)
   rw [hname]
   exact wpAny_pure ⟨plainId_quiet F.plain_max_loop _,ih (j + 1) _ vb c (by omega) hlt hst' (by simp only [argBest,hb,Bool.false_eq_true,if_false]; exact hPb) hS' hkp' fun v' h'' tk'' hP' hk''=>hR v' h'' tk'' hP' hk''⟩
theorem max_firstK (W:Walks prog w A.in1 I fp wr n P St) (hcmp:KCmpG prog w A.in1 h0 P bt) (hSf:S ∉ fp) (hw:∀ b ∈ wr,h0.get? b=none) (hS0:h0.get? S=none) (hn:0 < n) {s:Shared} {c:Nat} (hst:St 0 s.heap)
  (hS:s.heap.get? S=some (cellS #[] c)) (hkp:∀ b o,h0.get? b=some o→s.heap.get? b=some o)
  (hR:∀ v h' tk,P (argBest bt (n - 1)) v→(∀ b o,h0.get? b=some o→h'.get? b=some o)→R (.ok (.ret v)) { s with heap:=h',toks:=tk }):
  codeAny (model prog w) A (.builtin "max.loop" ⟨[.ref I,.none,.ref S],kw⟩) R s:=by
 have hSw:S ∉ wr:=fun h=>hSf (W.sub _ h)
 have nw:∀ {b:Addr} {o:Obj},h0.get? b=some o→b ∉ wr:=fun e h=>by rw [hw _ h] at e; cases e
 have nS:∀ {b:Addr} {o:Obj},h0.get? b=some o→S ≠ b:=fun e h=>by rw [← h,hS0] at e; cases e
 have hname:(toString "max" ++ toString ".loop":String) = "max.loop":=by decide
 refine codeAny_builtin F.entry_max_loop ?_
 rw [Around.under_plainId F.plain_max_loop _]
 show wpAny _ A.in1 (seqItems? (.ref S) >>= _) _ _ s
 refine wpAny_bind (wpAny_seqItems hS rfl ?_)
 show wpAny _ A.in1 (tryCatch (pyNext (.ref I)) _ >>= _) _ _ s
 refine wpAny_bind (wpAny_tryCatch (W.item 0 s _ _ hn hst fun v h' tk hP hst' hk'=>?_))
 have hS':=hk' S _ hSw hS
 have hkp':∀ b o,h0.get? b=some o→h'.get? b=some o:=fun b o e=>hk' b o (nw e) (hkp b o e)
 show wpAny _ A.in1 (updateSeq S (fun _=>#[v,v]) >>= _) _ _ _
 refine wpAny_bind ?_
 refine wpAny_updateSeq hS' rfl ?_
 rw [hname]
 exact wpAny_pure ⟨plainId_quiet F.plain_max_loop _,max_loopK W hcmp hSf hw hS0 _ 0 _ v _ rfl hn (W.frame _ _ _ hst' fun b hbf o e=>(Heap.get?_update_other _ _ (fun h:S=b=>hSf (by rw [h]; exact hbf))).trans e) hP (Heap.get?_update_self _ hS' rfl)
  (fun b o e=>(Heap.get?_update_other _ _ (nS e)).trans (hkp' b o e)) fun v' h'' tk'' hP' hk''=>hR v' h'' tk'' hP' hk''⟩
theorem max_noneK {d:Value} {nm:Str} (W:Walks prog w A.in1 I fp wr 0 P St) (hSf:S ∉ fp) {s:Shared} {c:Nat} (hst:St 0 s.heap) (hS:s.heap.get? S=some (cellS #[] c))
  (hR:∀ h' tk,(∀ b o,b ∉ wr→s.heap.get? b=some o→h'.get? b=some o)→R (.ok (.ret d)) { s with heap:=h',toks:=tk }):
  codeAny (model prog w) A (.builtin "max.loop" ⟨[.ref I,.none,.ref S],[(nm,d)]⟩) R s:=by
 refine codeAny_builtin F.entry_max_loop ?_
 rw [Around.under_plainId F.plain_max_loop _]
 show wpAny _ A.in1 (seqItems? (.ref S) >>= _) _ _ s
 refine wpAny_bind (wpAny_seqItems hS rfl ?_)
 show wpAny _ A.in1 (tryCatch (pyNext (.ref I)) _ >>= _) _ _ s
 refine wpAny_bind (wpAny_tryCatch (W.done s _ _ hst fun h' tk hk'=>?_))
 show wpAny _ A.in1 (rule _ >>= _) _ _ _
 refine wpAny_bind (wpAny_rule (wpAny_pure ?_))
 exact hR h' tk hk'
theorem args_maxD (a d:Value):argsOk "max" ⟨[a],[("default",d)]⟩:=by unfold argsOk; kernel_rfl
end
section
variable {prog:Program} {w:World} {A:Around} {E:Value→Shared→Prop} {s:Shared}
theorem max_listK {l:Addr} {us:List Value} {bt:Nat→Nat→Bool} {kw:List (Str × Value)} {df:Option Value} {Q:Value→Shared→Prop} (hh:A.handled=none) (hl:s.heap.IsList l us.toArray) (hne:0 < us.length)
  (ha:argsOk "max" ⟨[.ref l],kw⟩) (hb:Builtin.Builtins.bindParams "max" ["key","default"] 0 ⟨[],kw⟩=pure [none,df])
  (hcmp:KCmpG prog w A.in1 s.heap (fun i v=>us.toArray[i]?=some v) bt)
  (h:∀ v h' tk,us[argBest bt (us.length - 1)]?=some v→(∀ b o,s.heap.get? b=some o→h'.get? b=some o)→Q v { s with heap:=h',toks:=tk }):
  wpAny (model prog w) A (call (.builtin "max") [.ref l] kw) Q E s:=by
 have hname:(toString "max" ++ toString ".loop":String) = "max.loop":=by decide
 have hlt:l < s.heap.objs.size:=by obtain ⟨_,e,_⟩:=hl; exact Heap.lt_size e
 refine call_kw F.kind_max F.plain_max F.entry_max ha ?_
 show wpAny _ A.in1 (Builtin.Builtins.bindParams "max" ["key","default"] 0 ⟨[],kw⟩ >>= _) _ _ s
 refine wpAny_bind (wpAny_of_eq hb ?_)
 refine wpAny_bind (wpAny_pure ?_)
 refine wpAny_bind (wpAny_pyIter_list hl ?_)
 refine wpAny_bind (wpAny_newObj_type ?_)
 have hsz:(s.heap.push { cls:=.type "list_iterator",data:=.fields #[.ref l,.int 0 0] }).objs.size=s.heap.objs.size + 1:=Heap.size_push ..
 have W:=Walks.list (prog:=prog) (w:=w) (A:=A.in1) hh s.heap.objs.size l (Nat.ne_of_lt hlt) us.toArray
 have hSf:s.heap.objs.size + 1 ∉ [s.heap.objs.size,l]:=fun hm=>by
  rcases List.mem_cons.mp hm with e | hm
  ·exact absurd e (Nat.succ_ne_self _)
  ·rcases List.mem_cons.mp hm with e | hm
   ·exact Nat.lt_irrefl _ (Nat.lt_of_succ_lt (e ▸ hlt:s.heap.objs.size + 1 < s.heap.objs.size))
   ·cases hm
 rw [hname]
 refine wpAny_pure ⟨plainId_quiet F.plain_max_loop _,?_⟩
 show codeAny _ A (.builtin "max.loop" ⟨[.ref s.heap.objs.size,.none,.ref (s.heap.push _).objs.size],_⟩) _ _
 rw [hsz]
 refine max_firstK (h0:=s.heap) W hcmp hSf (fun b hb=>?_) (Heap.get?_none_of_le (Nat.le_succ _)) (by simpa using hne) (W.frame _ _ _ ⟨⟨_,Heap.get?_push_size _ rfl,rfl,rfl⟩,hl.push _⟩ fun b _ o e=>Heap.get?_push_of_some _ e) (by rw [← hsz]; exact Heap.get?_push_size _ rfl)
  (fun b o e=>Heap.get?_push_of_some _ (Heap.get?_push_of_some _ e)) fun v h' tk hP hk=>h v h' tk (by simpa using hP) hk
 ·simp at hb; rw [hb]; exact Heap.get?_none_of_le (Nat.le_refl _)
theorem max_emptyK {l:Addr} {d:Value} {Q:Value→Shared→Prop} (hh:A.handled=none) (hl:s.heap.IsList l #[])
  (h:∀ h' tk,(∀ b o,s.heap.get? b=some o→h'.get? b=some o)→Q d { s with heap:=h',toks:=tk }):
  wpAny (model prog w) A (call (.builtin "max") [.ref l] [("default",d)]) Q E s:=by
 have hname:(toString "max" ++ toString ".loop":String) = "max.loop":=by decide
 have hlt:l < s.heap.objs.size:=by obtain ⟨_,e,_⟩:=hl; exact Heap.lt_size e
 refine call_kw F.kind_max F.plain_max F.entry_max (args_maxD _ _) ?_
 show wpAny _ A.in1 (Builtin.Builtins.bindParams "max" ["key","default"] 0 ⟨[],[("default",d)]⟩ >>= _) _ _ s
 refine wpAny_bind (wpAny_of_eq (show Builtin.Builtins.bindParams "max" ["key","default"] 0 ⟨[],[("default",d)]⟩=pure [none,some d] from rfl) ?_)
 refine wpAny_bind (wpAny_pure ?_)
 refine wpAny_bind (wpAny_pyIter_list hl ?_)
 refine wpAny_bind (wpAny_newObj_type ?_)
 have hsz:(s.heap.push { cls:=.type "list_iterator",data:=.fields #[.ref l,.int 0 0] }).objs.size=s.heap.objs.size + 1:=Heap.size_push ..
 have W:=Walks.list (prog:=prog) (w:=w) (A:=A.in1) hh s.heap.objs.size l (Nat.ne_of_lt hlt) #[]
 have hSf:s.heap.objs.size + 1 ∉ [s.heap.objs.size,l]:=fun hm=>by
  rcases List.mem_cons.mp hm with e | hm
  ·exact absurd e (Nat.succ_ne_self _)
  ·rcases List.mem_cons.mp hm with e | hm
   ·exact Nat.lt_irrefl _ (Nat.lt_of_succ_lt (e ▸ hlt:s.heap.objs.size + 1 < s.heap.objs.size))
   ·cases hm
 rw [hname]
 refine wpAny_pure ⟨plainId_quiet F.plain_max_loop _,?_⟩
 show codeAny _ A (.builtin "max.loop" ⟨[.ref s.heap.objs.size,.none,.ref (s.heap.push _).objs.size],[("default",d)]⟩) _ _
 rw [hsz]
 refine max_noneK W hSf (W.frame _ _ _ ⟨⟨_,Heap.get?_push_size _ rfl,rfl,rfl⟩,hl.push _⟩ fun b _ o e=>Heap.get?_push_of_some _ e) (by rw [← hsz]; exact Heap.get?_push_size _ rfl) fun h' tk hk=>h h' tk fun b o e=>hk b o (fun hm=>?_) (Heap.get?_push_of_some _ (Heap.get?_push_of_some _ e))
 simp at hm
 exact absurd (hm ▸ Heap.lt_size e) (Nat.lt_irrefl _)
end
theorem intGtAt {A:Around} {s:Shared} {a b:Int} {t u:Tok} (prog:Program) (w:World) {E:Value→Shared→Prop} {Q:Value→Shared→Prop} (h:Q (.bool (decide (b < a))) s):wpAny (model prog w) A (richCompare .Gt (.int a t) (.int b u)) Q E s:=
 richCompare_gives (op:=.Gt) (typeIs_int s _ t) (typeIs_int s _ u) F.slot_int_gt F.entry_int_gt (F.args_int_gt_2 _ _) (gives_int_gt _ _ t u) (fun x=>nomatch x) h
def maxZ:Int→List Int→Int
 | m,[]=>m
 | m,x :: r=>maxZ (if m < x then x else m) r
theorem maxZ_ge:∀ (l:List Int) (m:Int),(m≤maxZ m l∧∀ x ∈ l,x≤maxZ m l)∧(maxZ m l=m ∨ maxZ m l ∈ l)
 | [],m=>⟨⟨Int.le_refl _,fun x h=>nomatch h⟩,.inl rfl⟩
 | x :: r,m=>by
  obtain ⟨⟨h1,h2⟩,h3⟩:=maxZ_ge r (if m < x then x else m)
  show (m≤maxZ (if m < x then x else m) r∧∀ y ∈ x :: r,y≤maxZ (if m < x then x else m) r)∧(maxZ (if m < x then x else m) r=m ∨ maxZ (if m < x then x else m) r ∈ x :: r)
  generalize maxZ (if m < x then x else m) r=z at *
  by_cases hx:m < x
  ·rw [if_pos hx] at h1 h3
   refine ⟨⟨by omega,fun y hy=>?_⟩,.inr ?_⟩
   ·rcases List.mem_cons.mp hy with e | hy
    ·rw [e]; exact h1
    ·exact h2 y hy
   ·rcases h3 with e | h3
    ·rw [e]; exact .head _
    ·exact .tail _ h3
  ·rw [if_neg hx] at h1 h3
   refine ⟨⟨h1,fun y hy=>?_⟩,?_⟩
   ·rcases List.mem_cons.mp hy with e | hy
    ·rw [e]; omega
    ·exact h2 y hy
   ·rcases h3 with e | h3
    ·exact .inl e
    ·exact .inr (.tail _ h3)
theorem maxZ_app:∀ (l:List Int) (m x:Int),maxZ m (l ++ [x])=if maxZ m l < x then x else maxZ m l
 | [],m,x=>rfl
 | y :: l,m,x=>maxZ_app l (if m < y then y else m) x
theorem argBest_G (ns:List Int):∀ k:Nat,k < ns.length→ns.getD (argBest (fun i j=>decide (ns.getD j 0 < ns.getD i 0)) k) 0=maxZ (ns.getD 0 0) ((ns.drop 1).take k)
 | 0,h=>rfl
 | k + 1,h=>by
  have h2:=argBest_G ns k (by omega)
  have hd:(ns.drop 1)[k]?=some (ns.getD (k + 1) 0):=by
   rw [List.getElem?_drop,Nat.add_comm 1 k,List.getD_eq_getElem?_getD,List.getElem?_eq_getElem h]; rfl
  have ht:(ns.drop 1).take (k + 1)=(ns.drop 1).take k ++ [ns.getD (k + 1) 0]:=by
   rw [List.take_succ,hd]; rfl
  rw [ht,maxZ_app,← h2]
  simp only [argBest]
  by_cases hb:ns.getD (argBest (fun i j=>decide (ns.getD j 0 < ns.getD i 0)) k) 0 < ns.getD (k + 1) 0
  ·rw [if_pos (decide_eq_true hb),if_pos hb]
  ·rw [if_neg (by simpa using hb),if_neg hb]
def fMaxD:Sto→List D→Option D
 | S,[d]=>match isLst S d with
  | some []=>some .non
  | some (x :: a)=>match intsOf (x :: a) with
   | some (n :: ns)=>some (.int (maxZ n ns))
   | _=>none
  | none=>none
 | _,_=>none
section
variable {X:Cx} {E:XK}
theorem xk_maxD {k:Nat} (hc:X.calm=true) (hr:Room k X.A):CallK X (.builtin "max") [("default",.none)] (xC X.K E fMaxD):=by
 rintro pins s σ H xs us Q I r ⟨w,S,ds,hS,qs,p⟩
 obtain ⟨z,hz,p'⟩:=p.of
 clear p
 unfold fMaxD at hz
 split at hz
 ·rename_i d
  obtain ⟨v,rfl,q⟩:=qs.one_inv
  obtain ⟨u,rfl,rx⟩:=vals1 r
  split at hz
  ·rename_i ha
   cases hz
   obtain ⟨pa,vs,rfl,sq,ra⟩:=lst_at hS q ha
   cases rx
   obtain ⟨its,r',pl,_⟩:=I.list sq
   rw [ra.nil_inv] at r'
   cases r'
   exact max_emptyK (I.ok.hd hc) pl.isList fun h' tk hk=>⟨.non,H,I.kept (t':=tk) hk,rfl,p'.ret (by unfold RD; rfl) hS⟩
  ·rename_i x a ha
   obtain ⟨pa,vs,rfl,sq,ra⟩:=lst_at hS q ha
   cases rx
   obtain ⟨its,r',pl,_⟩:=I.list sq
   split at hz
   ·rename_i n ns e
    cases hz
    have ia:=ints_are ra r' e
    have hl:its.length=(n :: ns).length:=ia.length
    have hcmp:KCmpG X.prog X.w X.A.in1 s.heap (fun i v=>its.toArray[i]?=some v) (fun i j=>decide ((n :: ns).getD j 0 < (n :: ns).getD i 0)):=by
     intro i j vi vj s1 Q1 E1 hk hi hj h
     obtain ⟨t1,rfl⟩:=intsAt ia i vi (by simpa using hi)
     obtain ⟨t2,rfl⟩:=intsAt ia j vj (by simpa using hj)
     exact intGtAt X.prog X.w h
    refine max_listK (df:=some .none) (I.ok.hd hc) pl.isList (by rw [hl]; exact Nat.succ_pos _) (args_maxD _ _) rfl hcmp fun v h' tk hv hk=>?_
    obtain ⟨t1,rfl⟩:=intsAt ia _ v hv
    have b:=argBest_G (n :: ns) (its.length - 1) (by rw [hl]; exact Nat.lt_succ_self _)
    have b3:maxZ ((n :: ns).getD 0 0) (((n :: ns).drop 1).take (its.length - 1))=maxZ n ns:=by
     rw [hl]
     show maxZ n (ns.take ns.length)=maxZ n ns
     rw [List.take_length]
    rw [b3] at b
    refine ⟨.int (maxZ n ns),H,I.kept (t':=tk) hk,⟨t1,?_⟩,p'.ret RD.mkI hS⟩
    rw [b]
   ·cases hz
  ·cases hz
 ·cases hz
end
end PD
namespace L2
open PySem PySem.Spec PyProof.Rows
theorem Inv.freezeL {X:Cx} {pins:List (Addr × Obj)} {σ:St} {H:Hp} {s:Shared} {a:Addr} {vs:List V} (I:Inv X pins σ H s) (h:H a=some (.lst vs)):∃ o,Inv X pins σ (upd H a (.frz o (.lst vs))) s:=by
 obtain ⟨z,its,n,r,e⟩:ObjOk X.prog X.w H s.heap a (.lst vs):=I.hok a _ h
 have I2:Inv X pins σ (upd H a (.frz _ (.lst vs))) { s with heap:=s.heap,toks:=s.toks }:=I.write (x:=a) (e:=a) (by rw [h]; exact True.intro) (.inl rfl) (fun b u _ q=>q) ⟨_,e⟩ ⟨e,z,its,n,r,e⟩
 exact ⟨_,I2⟩
section
variable {X:Cx} {tg:Expr}
def iFrz (K:PySem.W.Frag) (td:TE):TI:=fun σ H R=>td σ H fun x H1=>∃ a vs,x=.ref a∧((H1 a=some (.lst vs)∧∀ o,R (Itl K a) (upd H1 a (.frz o (.lst vs)))) ∨ ∃ o,H1 a=some (.frz o (.lst vs))∧R (Itl K a) H1)
theorem pi_frz {d:Expr} {td:TE} (hd:PE X d td):PI X tg d (iFrz X.K td):=by
 intro pins s σ H R I h
 refine thn (hd pins s σ H _ I h) fun u s1 zq=>?_
 obtain ⟨x,H1,I1,rx,a,vs,ex,q1⟩:=zq
 subst ex
 obtain rfl:u=Value.ref a:=rx
 have main:∀ (H2:Hp) (o:Obj),Inv X pins σ H2 s1→H2 a=some (.frz o (.lst vs))→R (Itl X.K a) H2→wpAny (model X.prog X.w) X.A (pyIter (.ref a)) (PIE X pins σ tg R) X.xe s1:=fun H2 o I2 hH2 q=>by
  obtain ⟨its,rv,p,hz⟩:=I2.list (xs:=vs) (.inl (.inr ⟨o,hH2⟩))
  refine wpAny_pyIter_list p.isList ?_
  refine ⟨s1.heap.objs.size,[s1.heap.objs.size],_,_,H2,rfl,I2.kept (t':=s1.toks) fun b o e=>Heap.get?_push_of_some _ e,turn_list a _,⟨_,Heap.get?_push_size _ rfl,rfl,rfl⟩,fun b hb=>?_,q⟩
  have e:b=s1.heap.objs.size:=by simpa using hb
  subst e
  exact I2.fpOk (Nat.le_refl _) (I2.hok.fresh (Nat.le_refl _))
 rcases q1 with ⟨hH,q⟩ | ⟨o,hH,q⟩
 ·obtain ⟨o,I2⟩:=I1.freezeL hH
  exact main _ o I2 upd_same (q o)
 ·exact main _ o I1 hH q
end
end L2
namespace PD
open PySem PySem.Spec PyProof.Rows L2
def aFrz (m:EM):AM:=fun r S=>(m r S).bind fun d S1=>match d with
 | .ref n=>match S1[n]? with
  | some (.lst xs)=>.ok xs (S1.set n (.flst xs))
  | some (.flst xs)=>.ok xs S1
  | _=>.bad
 | _=>.bad
theorem ri_frz {K:PySem.W.Frag} {w:Wd} {H:Hp} {a:Addr} {o:Obj} {ds:List D} {vs:List V} (hst:∀ w' H',Ext w H w' H'→H' a=some (.frz o (.lst vs))) (q:RDs K w H ds vs):RI K w H ds (Itl K a):=by
 intro i w' H' x'
 have q':=RDs.ext x' _ _ q
 have sq:SqL K H' a vs:=.inl (.inr ⟨o,hst w' H' x'⟩)
 refine ⟨fun hi=>⟨⟨vs,vs[i]'(by rw [q.length]; exact hi),sq,List.getElem?_eq_getElem _⟩,fun x H'' y=>?_⟩,fun hi=>⟨vs,sq,by rw [q.length]; exact hi⟩⟩
 obtain ⟨rfl,y⟩:=y
 refine ⟨.inl rfl,fun S _=>⟨ds[i],List.getElem?_eq_getElem hi,?_⟩⟩
 obtain ⟨v,e,rv⟩:=q'.get (List.getElem?_eq_getElem hi)
 rw [y vs sq] at e
 cases e
 exact rv
section
variable {X:Cx} {E:XK}
theorem si_frz {tg:Expr} {d:Expr} {md:EM} (ha:SE X E d md):SI X E tg d (aFrz md):=⟨
 pi_weak (pi_frz ha.out) fun s H Q zq=>ex6 zq fun w r S hr hS hp=>⟨w,r,S,hr,hS,hp.bind hS fun d S1 w1 H1 v x1 q1 s1 p1=>by
  cases d with
  | ref m=>
   obtain ⟨pp,rfl,hp⟩:=q1.refI
   have hm:pp ∈ w1.st:=List.mem_of_getElem? hp
   cases e:S1[m]? with
   | none=>simp only [e] at p1; exact p1.elim
   | some ob=>
    obtain ⟨p',hp',ro⟩:=s1.obj _ _ e
    rw [hp] at hp'; cases hp'
    cases ob with
    | lst xs=>
     simp only [e] at p1
     obtain ⟨vs,hv,rk⟩:=ro
     refine ⟨pp,vs,rfl,.inl ⟨hv,fun o=>?_⟩⟩
     have rk':=RDs.ext (Ext.mut hm hv (o:=.frz o (.lst vs))) _ _ rk
     exact Post.at p1 (Ext.mut hm hv) (ri_frz (fun w' H' x'=>x'.frz _ _ _ upd_same) rk') (s1.mut hp hv ⟨o,vs,upd_same,rk'⟩)
    | flst xs=>
     simp only [e] at p1
     obtain ⟨o,vs,hv,rk⟩:=ro
     exact ⟨pp,vs,rfl,.inr ⟨o,hv,Post.ret p1 (ri_frz (fun w' H' x'=>x'.frz _ _ _ hv) rk) s1⟩⟩
    | dic xs=>simp only [e] at p1; exact p1.elim
    | fdic xs=>simp only [e] at p1; exact p1.elim
    | ins c fs=>simp only [e] at p1; exact p1.elim
  | _=>exact p1.elim⟩⟩
end
end PD
namespace PD
open PySem PySem.Spec PyProof.Rows L2
section
variable {X:Cx} {E:XK}
end
end PD
namespace Lw
open PySem PySem.Spec PyProof.Rows L2 PD
def raisedX:List Str:=["NoNumber","NoRow"]
def askedX:List Str:=["Lacking","NoNumber","NoRow","NoSigns","NoText","PlusError","TooMany"]
def isaX (c k:Str):Bool:=c == k || k == "PlusError"
abbrev st__law_cell:Stmt:=top 26
def m__law_cell:SM:=(sSeq (sIf (tV (eOp oLt (eVar 1) (eB fLen (aCons (eVar 0) aNil)))) (sRet (eOp oIx (eVar 0) (eVar 1))) sSkip) (sRet (eC (.int 0))))
def F__law_cell:FM:=fnM 2 m__law_cell
abbrev st__law_mix:Stmt:=top 27
def m__law_mix:SM:=(sSeq (sSet 2 (eLst (aCons (eC (.int 48271)) (aCons (eC (.int 69621)) (aCons (eC (.int 16807)) (aCons (eC (.int 39373)) (aCons (eC (.int 30269)) (aCons (eC (.int 40014)) (aCons (eC (.int 40692)) (aCons (eC (.int 50021)) (aCons (eC (.int 61687)) (aCons (eC (.int 71993)) (aCons (eC (.int 83869)) (aCons (eC (.int 95561)) (aCons (eC (.int 30307)) aNil))))))))))))))) (sSeq (sSet 3 (eOp oAdd (eOp oAdd (eOp oMul (eOp oAdd (eOp oMod (eVar 0) (eC (.int 2147483647))) (eC (.int 12345))) (eOp oIx (eVar 2) (eOp oMod (eVar 1) (eC (.int 13))))) (eOp oMul (eC (.int 977)) (eVar 1))) (eOp oMul (eC (.int 7919)) (eOp oFdiv (eVar 1) (eC (.int 13)))))) (sSeq (sSet 3 (eOp oMod (eVar 3) (eC (.int 1000000007)))) (sRet (eOp oFdiv (eOp oMod (eOp oAdd (eOp oMul (eVar 3) (eVar 3)) (eOp oMul (eC (.int 48271)) (eVar 1))) (eC (.int 1000000007))) (eC (.int 7)))))))
def F__law_mix:FM:=fnM 4 m__law_mix
abbrev st__law_box:Stmt:=top 28
def m__law_box:SM:=(sSeq (sSet 2 (eCall F__law_cell (aCons (eVar 0) (aCons (eVar 1) aNil)))) (sSeq (sIf (tV (eOp oEqP (eOp oMod (eVar 2) (eC (.int 2))) (eC (.int 0)))) (sRet (eNew (aCons (eOp oFdiv (eB fAbs (aCons (eVar 2) aNil)) (eC (.int 2))) aNil))) sSkip) (sSeq (sSet 3 (eC (.int 0))) (sSeq (sFor (aRange1 (aCons (eC (.int 40)) aNil)) (.nm 4) (sSet 3 (eOp oAdd (eOp oMul (eVar 3) (eC (.int 142857143))) (eCall F__law_mix (aCons (eVar 2) (aCons (eVar 4) aNil)))))) (sRet (eNew (aCons (eVar 3) aNil)))))))
def F__law_box:FM:=fnM 5 m__law_box
abbrev st__law_halves:Stmt:=top 35
def m__law_halves:SM:=(sSeq (sSet 1 (eOp oFdiv (eB fLen (aCons (eVar 0) aNil)) (eC (.int 2)))) (sRet (eTup (aCons (eSl fSlT (eVar 0) oNo (oPart (eVar 1))) (aCons (eSl fSlT (eVar 0) (oPart (eVar 1)) oNo) aNil)))))
def F__law_halves:FM:=fnM 2 m__law_halves
abbrev st__law_all:Stmt:=top 31
def m__law_all:SM:=(sSeq (sSet 2 (eLst (aCons (eTup aNil) aNil))) (sSeq (sFor (aRange1 (aCons (eVar 0) aNil)) (.nm 3) (sSeq (sSet 4 (eLst aNil)) (sSeq (sFor (aSeq (eVar 2) itSeq) (.nm 5) (sSet 4 (eOp oAdd (eVar 4) (eComp (aSeq (eVar 1) itSeq) 1 [5] (.nm 0) tTrue (eOp oAdd (eVar 1) (eTup (aCons (eVar 0) aNil))))))) (sSet 2 (eVar 4))))) (sRet (eVar 2))))
def F__law_all:FM:=fnM 6 m__law_all
abbrev st__law_worth:Stmt:=top 32
def m__law_worth:SM:=(sSeq (sSet 2 (eC (.int 0))) (sSeq (sFor (aRange1 (aCons (eB fLen (aCons (eVar 0) aNil)) aNil)) (.nm 3) (sSet 2 (eOp oAdd (eVar 2) (eOp oMul (eOp oIx (eVar 0) (eVar 3)) (eOp oIx (eVar 1) (eVar 3)))))) (sRet (eVar 2))))
def F__law_worth:FM:=fnM 4 m__law_worth
abbrev st__law_table:Stmt:=top 33
def m__law_table:SM:=(sSeq (sSet 2 eDicE) (sSeq (sFor (aSeq (eCall F__law_all (aCons (eB fLen (aCons (eVar 0) aNil)) (aCons (eVar 1) aNil))) itSeq) (.nm 3) (sSeq (sSet 4 (eCall F__law_worth (aCons (eVar 0) (aCons (eVar 3) aNil)))) (sPut fPutD (eOp oAdd (eGet2 (eVar 2) (eVar 4) (eC (.int 0))) (eC (.int 1))) (eVar 2) (eVar 4)))) (sRet (eVar 2))))
def F__law_table:FM:=fnM 5 m__law_table
abbrev st__law_counts:Stmt:=top 36
def m__law_counts:SM:=(sSeq (sAsg (.tp [(.nm 1),(.nm 2)]) (eCall F__law_halves (aCons (eVar 0) aNil))) (sSeq (sPar 3 4 (aCons (eCall F__law_table (aCons (eVar 1) (aCons (eTup (aCons (eUn oNeg (eC (.int 1))) (aCons (eC (.int 1)) aNil))) aNil))) (aCons (eCall F__law_table (aCons (eVar 2) (aCons (eTup (aCons (eUn oNeg (eC (.int 1))) (aCons (eC (.int 1)) aNil))) aNil))) aNil))) (sSeq (sSet 5 eDicE) (sSeq (sFor (aKeys (eVar 3)) (.nm 6) (sFor (aKeys (eVar 4)) (.nm 7) (sPut fPutD (eOp oAdd (eGet2 (eVar 5) (eOp oAdd (eVar 6) (eVar 7)) (eC (.int 0))) (eOp oMul (eOp oIxD (eVar 3) (eVar 6)) (eOp oIxD (eVar 4) (eVar 7)))) (eVar 5) (eOp oAdd (eVar 6) (eVar 7))))) (sRet (eVar 5))))))
def F__law_counts:FM:=fnM 8 m__law_counts
abbrev st__law_take:Stmt:=top 29
def m__law_take:SM:=(sSeq (sAsg (.tp [(.nm 2),(.nm 3)]) (eB fDivmod (aCons (eOp oIx (eVar 0) (eC (.int 0))) (aCons (eVar 1) aNil)))) (sSeq (sPut fPut (eVar 2) (eVar 0) (eC (.int 0))) (sRet (eVar 3))))
def F__law_take:FM:=fnM 4 m__law_take
abbrev st__law_number:Stmt:=top 34
def m__law_number:SM:=(sSeq (sSet 2 (eB fSum (aCons (eVar 1) aNil))) (sSeq (sSet 3 (eOp oSub (eCall F__law_take (aCons (eVar 0) (aCons (eC (.int 30)) aNil))) (eC (.int 15)))) (sSeq (sSet 4 (eLst (aCons (eC (.int 0)) (aCons (eVar 2) (aCons (eOp oSub (eC (.int 0)) (eVar 2)) (aCons (eOp oSub (eVar 2) (eC (.int 2))) (aCons (eVar 3) (aCons (eOp oAdd (eOp oAdd (eVar 2) (eC (.int 1))) (eOp oMul (eVar 3) (eVar 3))) (aCons (eVar 3) (aCons (eOp oSub (eVar 2) (eOp oMul (eC (.int 2)) (eOp oIx (eOp oAdd (eVar 1) (eTup (aCons (eC (.int 1)) aNil))) (eC (.int 0))))) (aCons (eVar 3) aNil))))))))))) (sRet (eOp oIx (eVar 4) (eCall F__law_take (aCons (eVar 0) (aCons (eC (.int 9)) aNil))))))))
def F__law_number:FM:=fnM 5 m__law_number
abbrev st__law_row:Stmt:=top 30
def m__law_row:SM:=(sSeq (sSet 2 (eCall F__law_take (aCons (eVar 0) (aCons (eOp oAdd (eVar 1) (eC (.int 1))) aNil)))) (sSeq (sSet 3 (eCall F__law_take (aCons (eVar 0) (aCons (eC (.int 7)) aNil)))) (sSeq (sSet 4 (eOp oAdd (eC (.int 1)) (eCall F__law_take (aCons (eVar 0) (aCons (eC (.int 9)) aNil))))) (sSeq (sSet 5 (eNew aNil)) (sSeq (sFor (aRange1 (aCons (eVar 2) aNil)) (.nm 6) (sSeq (sSet 7 (eOp oAdd (eC (.int 1)) (eCall F__law_take (aCons (eVar 0) (aCons (eC (.int 12)) aNil))))) (sSeq (sSet 8 (eLst (aCons (eVar 7) (aCons (eVar 7) (aCons (eVar 4) (aCons (eOp oShl (eC (.int 1)) (eVar 6)) (aCons (eOp oAdd (eVar 4) (eOp oMul (eVar 6) (eVar 7))) (aCons (eOp oMul (eVar 7) (eVar 7)) (aCons (eOp oAdd (eOp oMul (eOp oPow (eC (.int 10)) (eC (.int 12))) (eVar 7)) (eVar 7)) aNil))))))))) (sDrop (eMtL mAppend (eVar 5) (aCons (eOp oIx (eLst (aCons (eOp oIx (eVar 8) (eVar 3)) (aCons (eOp oMul (eVar 4) (eVar 7)) aNil))) (eB fInt (aCons (eOp oEqP (eCall F__law_take (aCons (eVar 0) (aCons (eC (.int 9)) aNil))) (eC (.int 8))) aNil))) aNil)))))) (sRet (eB fTuple (aCons (eVar 5) aNil))))))))
def F__law_row:FM:=fnM 9 m__law_row
abbrev st__law_marks:Stmt:=top 37
def m__law_marks:SM:=(sSeq (sIf (PD.tOr (PD.tNot (tV (eB (fIsX raisedX askedX isaX) (aCons (eVar 0) (aCons (eC (.cls "PlusError")) aNil))))) (PD.tNot (tV (eB (fIsX raisedX askedX isaX) (aCons (eVar 0) (aCons (eC (.ty "ValueError")) aNil)))))) (sRet (eC (.str "other"))) sSkip) (sSeq (sSet 1 (eLst (aCons (eB (fIsX raisedX askedX isaX) (aCons (eVar 0) (aCons (eC (.cls "NoRow")) aNil))) (aCons (eB (fIsX raisedX askedX isaX) (aCons (eVar 0) (aCons (eC (.cls "NoNumber")) aNil))) (aCons (eB (fIsX raisedX askedX isaX) (aCons (eVar 0) (aCons (eC (.cls "NoSigns")) aNil))) (aCons (eB (fIsX raisedX askedX isaX) (aCons (eVar 0) (aCons (eC (.cls "TooMany")) aNil))) aNil)))))) (sSeq (sSet 1 (eOp oAdd (eVar 1) (eLst (aCons (eB (fIsX raisedX askedX isaX) (aCons (eVar 0) (aCons (eC (.cls "Lacking")) aNil))) (aCons (eB (fIsX raisedX askedX isaX) (aCons (eVar 0) (aCons (eC (.cls "NoText")) aNil))) aNil))))) (sSeq (sIf (tV (eOp oNe (eMtL mCount (eVar 1) (aCons (eC (.bl true)) aNil)) (eC (.int 1)))) (sRet (eC (.str "other"))) sSkip) (sRet (eOp oIx (eLst (aCons (eC (.str "row")) (aCons (eC (.str "number")) (aCons (eC (.str "signs")) (aCons (eC (.str "many")) (aCons (eC (.str "lacking")) (aCons (eC (.str "text")) aNil))))))) (eMtL mIndex (eVar 1) (aCons (eC (.bl true)) aNil))))))))
def F__law_marks:FM:=fnM 2 m__law_marks
abbrev st_is_whole:Stmt:=top 10
def m_is_whole:SM:=(sRet (eAnd (eB fIsi (aCons (eVar 0) (aCons (eC (.ty "int")) aNil))) (eNot (eB fIsi (aCons (eVar 0) (aCons (eC (.ty "bool")) aNil))))))
def F_is_whole:FM:=fnM 1 m_is_whole
abbrev st_need_number:Stmt:=top 13
def m_need_number:SM:=(sIf (tNx (PD.tNot (tV (eCall F_is_whole (aCons (eVar 0) aNil))))) (sRaise "NoNumber" (aCons (eC (.str "this is no whole number")) aNil)) sSkip)
def F_need_number:FM:=fnM 1 m_need_number
abbrev st_is_row:Stmt:=top 11
def m_is_row:SM:=(sSeq (sIf (PD.tOr (PD.tNot (tV (eB fIsi (aCons (eVar 0) (aCons (eC (.ty "tuple")) aNil))))) (tV (eOp oGt (eB fLen (aCons (eVar 0) aNil)) (eC (.int (16)))))) (sRet (eC (.bl false))) sSkip) (sRet (eB fAll (aCons (eComp (aSeq (eVar 0) itSeq) 1 [] (.nm 0) tTrue (eAnd (eCall F_is_whole (aCons (eVar 0) aNil)) (eOp oGe (eVar 0) (eC (.int 1))))) aNil))))
def F_is_row:FM:=fnM 1 m_is_row
abbrev st_need_row:Stmt:=top 12
def m_need_row:SM:=(sIf (tNx (PD.tNot (tV (eCall F_is_row (aCons (eVar 0) aNil))))) (sRaise "NoRow" (aCons (eC (.str "a row is a tuple of 0 to 16 whole numbers from 1 on")) aNil)) sSkip)
def F_need_row:FM:=fnM 1 m_need_row
abbrev st_need_row_and_number:Stmt:=top 14
def m_need_row_and_number:SM:=(sSeq (sDrop (eCall F_need_row (aCons (eVar 0) aNil))) (sDrop (eCall F_need_number (aCons (eVar 1) aNil))))
def F_need_row_and_number:FM:=fnM 2 m_need_row_and_number
abbrev st_halves_of:Stmt:=top 20
def m_halves_of:SM:=(sSeq (sSet 1 (eOp oFdiv (eB fLen (aCons (eVar 0) aNil)) (eC (.int 2)))) (sRet (eTup (aCons (eSl fSlT (eVar 0) oNo (oPart (eVar 1))) (aCons (eSl fSlT (eVar 0) (oPart (eVar 1)) oNo) aNil)))))
def F_halves_of:FM:=fnM 2 m_halves_of
abbrev st_need_row_n:Stmt:=top 12
def m_need_row_n:SM:=(sIf (PD.tNot (tV (eCall F_is_row (aCons (eVar 0) aNil)))) sBad sSkip)
def F_need_row_n:FM:=fnM 1 m_need_row_n
abbrev st_stepped:Stmt:=top 17
def m_stepped:SM:=(sSeq (sSet 3 eDicE) (sSeq (sFor (aItems (eVar 0)) (.tp [(.nm 4),(.nm 5)]) (sFor (aSeq (eVar 2) itSeq) (.nm 6) (sSeq (sSet 7 (eOp oAdd (eVar 4) (eOp oMul (eVar 6) (eVar 1)))) (sPut fPutD (eOp oAdd (eGet2 (eVar 3) (eVar 7) (eC (.int 0))) (eVar 5)) (eVar 3) (eVar 7))))) (sRet (eVar 3))))
def F_stepped:FM:=fnM 8 m_stepped
abbrev st_table_of:Stmt:=top 18
def m_table_of:SM:=(sSeq (sSet 2 (eDicN [((eC (.int 0)),(eC (.int 1)))])) (sSeq (sFor (aSeq (eVar 0) itSeq) (.nm 3) (sSet 2 (eCall F_stepped (aCons (eVar 2) (aCons (eVar 3) (aCons (eVar 1) aNil)))))) (sRet (eVar 2))))
def F_table_of:FM:=fnM 4 m_table_of
abbrev st_half_worths_n:Stmt:=top 21
def m_half_worths_n:SM:=(sSeq (sDrop (eCall F_need_row_n (aCons (eVar 0) aNil))) (sRet (eB fTuple (aCons (eComp (aSeq (eCall F_halves_of (aCons (eVar 0) aNil)) itSeq) 1 [] (.nm 0) tTrue (eB fTuple (aCons (eB fSrt (aCons (eCall F_table_of (aCons (eVar 0) (aCons (eC (.tup (([(-1),(1)]:List Int).map .int))) aNil))) aNil)) aNil))) aNil))))
def F_half_worths_n:FM:=fnM 1 m_half_worths_n
abbrev st_walk_n:Stmt:=top 22
def m_walk_n:SM:=(sSeq (sSet 2 (eCall F_half_worths_n (aCons (eVar 0) aNil))) (sSeq (sSet 3 (eNew aNil)) (sSeq (sSet 4 (eC (.int 0))) (sSeq (sSet 5 (eOp oSub (eB fLen (aCons (eOp oIx (eVar 2) (eC (.int 1))) aNil)) (eC (.int 1)))) (sSeq (sWh (PD.tAnd (tV (eOp oLt (eVar 4) (eB fLen (aCons (eOp oIx (eVar 2) (eC (.int 0))) aNil)))) (tV (eOp oGe (eVar 5) (eC (.int 0))))) (sSeq (sSet 6 (eOp oAdd (eOp oIx (eOp oIx (eVar 2) (eC (.int 0))) (eVar 4)) (eOp oIx (eOp oIx (eVar 2) (eC (.int 1))) (eVar 5)))) (sSeq (sDrop (eMtL mAppend (eVar 3) (aCons (eTup (aCons (eVar 4) (aCons (eVar 5) (aCons (eVar 6) aNil)))) aNil))) (sIf (tV (eOp oLt (eVar 6) (eVar 1))) (sSet 4 (eOp oAdd (eVar 4) (eC (.int 1)))) (sSet 5 (eOp oSub (eVar 5) (eC (.int 1)))))))) (sRet (eVar 3)))))))
def F_walk_n:FM:=fnM 7 m_walk_n
abbrev st_above:Stmt:=top 24
def m_above:SM:=(sSeq (sDrop (eCall F_need_row_and_number (aCons (eVar 0) (aCons (eVar 1) aNil)))) (sNx (sRet (eB fMinD (aCons (eComp (aFrz (eCall F_walk_n (aCons (eVar 0) (aCons (eVar 1) aNil)))) 3 [1] (.tp [(.nm 0),(.nm 1),(.nm 2)]) (tV (eOp oGe (eVar 2) (eVar 3))) (eVar 2)) aNil)))))
def F_above:FM:=fnM 2 m_above
abbrev st_below:Stmt:=top 23
def m_below:SM:=(sSeq (sDrop (eCall F_need_row_and_number (aCons (eVar 0) (aCons (eVar 1) aNil)))) (sNx (sRet (eB fMaxD (aCons (eComp (aFrz (eCall F_walk_n (aCons (eVar 0) (aCons (eVar 1) aNil)))) 3 [1] (.tp [(.nm 0),(.nm 1),(.nm 2)]) (tV (eOp oLe (eVar 2) (eVar 3))) (eVar 2)) aNil)))))
def F_below:FM:=fnM 2 m_below
abbrev st__law_said:Stmt:=top 38
def m__law_said:SM:=(sTry raisedX 3 4 (sSeq (sIf (tNx (tV (eOp oEqP (eVar 0) (eC (.int 0))))) (sRet (eCall F_below (aCons (eVar 1) (aCons (eVar 2) aNil)))) sSkip) (sRet (eCall F_above (aCons (eVar 1) (aCons (eVar 2) aNil))))) (sRet (eCall F__law_marks (aCons (eVar 3) aNil))))
def F__law_said:FM:=fnM 4 m__law_said
abbrev st_law:Stmt:=top 39
def m_law:SM:=(sSeq (sFor (aRange1 (aCons (eB fMax (aCons (eC (.int 1)) (aCons (eB fMin (aCons (eB fLen (aCons (eVar 0) aNil)) (aCons (eC (.int 3)) aNil))) aNil))) aNil)) (.nm 1) (sSeq (sSet 2 (eCall F__law_box (aCons (eVar 0) (aCons (eVar 1) aNil)))) (sSeq (sSet 3 (eCall F__law_row (aCons (eVar 2) (aCons (eOp oIx (eLst (aCons (eC (.int 10)) (aCons (eC (.int 7)) (aCons (eC (.int 7)) aNil)))) (eVar 1)) aNil)))) (sSeq (sSet 4 (eB fSrt (aCons (eCall F__law_counts (aCons (eVar 3) aNil)) aNil))) (sSeq (sFor (aRange1 (aCons (eC (.int 4)) aNil)) (.nm 5) (sSeq (sSet 7 (eCall F__law_number (aCons (eVar 2) (aCons (eVar 3) aNil)))) (sSeq (sSet 8 (eComp (aSeq (eVar 4) itSeq) 1 [7] (.nm 0) (tV (eOp oLe (eVar 0) (eVar 1))) (eVar 0))) (sSeq (sSet 9 (eComp (aSeq (eVar 4) itSeq) 1 [7] (.nm 0) (tV (eOp oGe (eVar 0) (eVar 1))) (eVar 0))) (sSeq (sIf (tV (eOp oNeP (eB fRepr (aCons (eCall F__law_said (aCons (eC (.int 0)) (aCons (eVar 3) (aCons (eVar 7) aNil)))) aNil)) (eB fRepr (aCons (eOp oIx (eOp oAdd (eLst (aCons (eC .non) aNil)) (eVar 8)) (eUn oNeg (eC (.int 1)))) aNil)))) (sRet (eC (.bl false))) sSkip) (sIf (tV (eOp oNeP (eB fRepr (aCons (eCall F__law_said (aCons (eC (.int 1)) (aCons (eVar 3) (aCons (eVar 7) aNil)))) aNil)) (eB fRepr (aCons (eOp oIx (eOp oAdd (eVar 9) (eLst (aCons (eC .non) aNil))) (eC (.int 0))) aNil)))) (sRet (eC (.bl false))) sSkip)))))) (sFor (aSeq (eLst (aCons (eC .non) (aCons (eC (.bl true)) (aCons (eC (.str "1")) (aCons (eTup (aCons (eC (.int 1)) aNil)) (aCons (eLst (aCons (eC (.int 1)) aNil)) (aCons (eDic []) aNil))))))) itSeq) (.nm 6) (sIf (PD.tOr (tV (eOp oNeP (eCall F__law_said (aCons (eC (.int 0)) (aCons (eVar 3) (aCons (eVar 6) aNil)))) (eC (.str "number")))) (tV (eOp oNeP (eCall F__law_said (aCons (eC (.int 1)) (aCons (eVar 3) (aCons (eVar 6) aNil)))) (eC (.str "number"))))) (sRet (eC (.bl false))) sSkip))))))) (sRet (eC (.bl true))))
def F_law:FM:=fnM 10 m_law
structure Gr (b:Nat) (S S':Sto):Prop where
 bx:∃ n,S'[b]?=some (.lst [.int n])
 oth:∀ i,i ≠ b→i < S.length→S'[i]?=S[i]?
 len:S.length≤S'.length
theorem Gr.trans {b:Nat} {S S1 S2:Sto} (x:Gr b S S1) (y:Gr b S1 S2):Gr b S S2:=
 ⟨y.bx,fun i h l=>(y.oth i h (Nat.lt_of_lt_of_le l x.len)).trans (x.oth i h l),Nat.le_trans x.len y.len⟩
theorem Gr.self {b:Nat} {S S1:Sto} (x:Gr b S S1):Gr b S1 S1:=⟨x.bx,fun _ _ _=>rfl,Nat.le_refl _⟩
theorem Gr.more {b:Nat} {S S1:Sto} (x:Gr b S S1) (l:Sto):Gr b S (S1 ++ l):=by
 obtain ⟨n,hn⟩:=x.bx
 have hb:b < S1.length:=(List.getElem?_eq_some_iff.mp hn).1
 refine ⟨⟨n,by rw [List.getElem?_append_left hb]; exact hn⟩,fun i h hl=>?_,by rw [List.length_append]; have:=x.len; omega⟩
 rw [List.getElem?_append_left (Nat.lt_of_lt_of_le hl x.len)]
 exact x.oth i h hl
theorem take_eq {S:Sto} {b:Nat} {n many:Int} (h:S[b]?=some (.lst [.int n])) (h0:0 < many) (h1:many < 1073741824):F__law_take [.ref b,.int many] S=.ok (.int (n % many)) (S.set b (.lst [.int (n / many)])):=by
 simp [F__law_take,fnM,m__law_take,sSeq,sAsg,sPut,sRet,eB,eOp,eVar,eC,aCons,aNil,R.bind,R.of,oIx,seqOf,h,atI,ixN,fDivmod,h0,h1,G.put,G.puts,fPut]
theorem take_ok {S:Sto} {b:Nat} (h:Gr b S S) {many:Int} (h0:0 < many) (h1:many < 1073741824):∃ q S',F__law_take [.ref b,.int many] S=.ok (.int q) S'∧0≤q∧q < many∧Gr b S S':=by
 obtain ⟨n,hn⟩:=h.bx
 have hb:b < S.length:=(List.getElem?_eq_some_iff.mp hn).1
 refine ⟨_,_,take_eq hn h0 h1,Int.emod_nonneg _ (by omega),Int.emod_lt_of_pos _ h0,⟨n / many,by simp [hb]⟩,fun i hi _=>?_,by simp⟩
 rw [List.getElem?_set_ne (Ne.symm hi)]
theorem cell_eq (ns:List Int) (k:Nat) (S:Sto):F__law_cell [.fz (ns.map .int),.int k] S=.ok (.int (ns.getD k 0)) S:=by
 by_cases hk:k < ns.length
 ·simp [F__law_cell,fnM,m__law_cell,sSeq,sIf,sRet,sSkip,tV,eB,eOp,eVar,eC,aCons,aNil,R.bind,R.of,oIx,seqOf,atI,ixN,oCmp,fLen,hk]
 ·simp [F__law_cell,fnM,m__law_cell,sSeq,sIf,sRet,sSkip,tV,eB,eOp,eVar,eC,aCons,aNil,R.bind,R.of,oIx,seqOf,atI,ixN,oCmp,fLen,hk]
theorem at_map (L:List Int) (k:Nat) (h:k < L.length):atI (L.map D.int) (k:Int)=some (.int L[k]):=by
 have e:ixN (L.map D.int).length (k:Int)=some k:=by
  unfold ixN
  rw [if_pos (Int.natCast_nonneg k),List.length_map,if_pos (Int.ofNat_lt.mpr h),Int.toNat_natCast]
 unfold atI
 rw [e]
 show (L.map D.int)[k]?=_
 rw [List.getElem?_map,List.getElem?_eq_getElem h]
 rfl
theorem mix_ok (cell:Int) (j:Nat) (hj:j < 1000) (S:Sto):∃ m:Int,F__law_mix [.int cell,.int j] S=.ok (.int m) S:=by
 have hix:∃ x:Int,smallI x∧atI [D.int 48271,D.int 69621,D.int 16807,D.int 39373,D.int 30269,D.int 40014,D.int 40692,D.int 50021,D.int 61687,D.int 71993,D.int 83869,D.int 95561,D.int 30307] ((j:Int) % 13)=some (.int x):=by
  have hk:j % 13 < 13:=Nat.mod_lt _ (by decide)
  have ha:∀ x ∈ ([48271,69621,16807,39373,30269,40014,40692,50021,61687,71993,83869,95561,30307]:List Int),smallI x:=by decide
  exact ⟨_,ha _ (List.getElem_mem hk),at_map [48271,69621,16807,39373,30269,40014,40692,50021,61687,71993,83869,95561,30307] (j % 13) hk⟩
 obtain ⟨x,hx,hix⟩:=hix
 have h2:∀ y:Int,smallI (y % 1000000007):=fun y=>by
  have:=Int.emod_nonneg y (show (1000000007:Int) ≠ 0 by decide)
  have:=Int.emod_lt_of_pos y (show (0:Int) < 1000000007 by decide)
  exact ⟨by omega,by omega⟩
 have s1:smallI 977:=by decide
 have s2:smallI 7919:=by decide
 have s3:smallI 48271:=by decide
 have hz:(13:Nat)≤sizeLine:=by decide
 simp [F__law_mix,fnM,m__law_mix,sSeq,sSet,sRet,eLst,eOp,eVar,eC,aCons,aNil,R.bind,R.of,oIx,seqOf,oAdd,oMul,oMod,oFdiv,hix,hx,h2,s1,s2,s3,hz]
theorem box_loop (cell:Int):∀ (l:List Nat) (S:Sto) (a b:Option D) (n:Int) (j:Option D),(∀ i ∈ l,i < 1000)→∃ (n':Int) (j':Option D),
  forL (.nm 4) (sSet 3 (eOp oAdd (eOp oMul (eVar 3) (eC (.int 142857143))) (eCall F__law_mix (aCons (eVar 2) (aCons (eVar 4) aNil))))) (l.map fun (i:Nat)=>D.int i) [a,b,some (.int cell),some (.int n),j] S=.ok (.nx [a,b,some (.int cell),some (.int n'),j']) S
 | [],S,a,b,n,j,_=>⟨n,j,rfl⟩
 | i :: l,S,a,b,n,j,h=>by
  obtain ⟨m,hm⟩:=mix_ok cell i (h i List.mem_cons_self) S
  have s1:smallI 142857143:=by decide
  obtain ⟨n',j',e⟩:=box_loop cell l S a b (n * 142857143 + m) (some (.int i)) fun x hx=>h x (List.mem_cons_of_mem _ hx)
  refine ⟨n',j',?_⟩
  simp only [List.map_cons,forL,G.put]
  simp [sSet,eOp,eVar,eC,eCall,aCons,aNil,R.bind,R.of,oAdd,oMul,hm,s1]
  exact e
theorem box_ok (ns:List Int) (k:Nat) (S:Sto):∃ v:Int,F__law_box [.fz (ns.map .int),.int k] S=.ok (.ref S.length) (S ++ [.lst [.int v]]):=by
 have hz:(1:Nat)≤sizeLine:=by decide
 have hc':=cell_eq ns k S
 generalize ns.getD k 0=c at hc'
 by_cases hc:c % 2=0
 ·refine ⟨(if c < 0 then -c else c) / 2,?_⟩
  simp [F__law_box,fnM,m__law_box,sSeq,sSet,sIf,sRet,sSkip,tV,eNew,eB,eCall,eOp,eVar,eC,aCons,aNil,R.bind,R.of,hc',oMod,oEqP,eqP,eqS,hc,fAbs,oFdiv,hz]
 ·obtain ⟨n',j',e⟩:=box_loop c (List.range 40) S (some (.fz (ns.map .int))) (some (.int k)) 0 none (fun i hi=>by have:=List.mem_range.mp hi; omega)
  refine ⟨n',?_⟩
  have hr:(40:Int).toNat=40:=rfl
  simp [F__law_box,fnM,m__law_box,sSeq,sSet,sIf,sRet,sSkip,tV,eNew,eB,eCall,eOp,eVar,eC,aCons,aNil,R.bind,R.of,hc',oMod,oEqP,eqP,eqS,hc,sFor,aRange1,hz]
  rw [e]
  simp [sRet,hz]
def okN (x:Int):Prop:=1≤x∧x < 1000000000000000
abbrev rowBody:SM:=(sSeq (sSet 7 (eOp oAdd (eC (.int 1)) (eCall F__law_take (aCons (eVar 0) (aCons (eC (.int 12)) aNil))))) (sSeq (sSet 8 (eLst (aCons (eVar 7) (aCons (eVar 7) (aCons (eVar 4) (aCons (eOp oShl (eC (.int 1)) (eVar 6)) (aCons (eOp oAdd (eVar 4) (eOp oMul (eVar 6) (eVar 7))) (aCons (eOp oMul (eVar 7) (eVar 7)) (aCons (eOp oAdd (eOp oMul (eOp oPow (eC (.int 10)) (eC (.int 12))) (eVar 7)) (eVar 7)) aNil))))))))) (sDrop (eMtL mAppend (eVar 5) (aCons (eOp oIx (eLst (aCons (eOp oIx (eVar 8) (eVar 3)) (aCons (eOp oMul (eVar 4) (eVar 7)) aNil))) (eB fInt (aCons (eOp oEqP (eCall F__law_take (aCons (eVar 0) (aCons (eC (.int 9)) aNil))) (eC (.int 8))) aNil))) aNil)))))
theorem row_eval {S S1 S2:Sto} {b f:Nat} {kind base i q q' G P T y:Int} {M1 M2 M3 M4:Int} {xs:List D} {r1 r2 r7 r8:Option D} (e1:F__law_take [.ref b,.int 12] S=.ok (.int q) S1) (e2:F__law_take [.ref b,.int 9] S1=.ok (.int q') S2) (hG:1 + q=G)
  (hf1:S1[f]?=some (.lst xs)) (hf2:S2[f]?=some (.lst xs)) (zl:xs.length < sizeLine)
  (eShl:∀ S:Sto,oShl S (.int 1) (.int i)=some (.int P)) (ePow:∀ S:Sto,oPow S (.int 10) (.int 12)=some (.int T)) (eM1:∀ S:Sto,oMul S (.int i) (.int G)=some (.int M1)) (eM2:∀ S:Sto,oMul S (.int G) (.int G)=some (.int M2)) (eM3:∀ S:Sto,oMul S (.int base) (.int G)=some (.int M3)) (eM4:∀ S:Sto,oMul S (.int T) (.int G)=some (.int M4))
  (hix:atI [D.int G,D.int G,D.int base,D.int P,D.int (base + M1),D.int M2,D.int (M4 + G)] kind=some (.int y)):
  rowBody [some (.ref b),r1,r2,some (.int kind),some (.int base),some (.ref f),some (.int i),r7,r8] S=.ok (.nx [some (.ref b),r1,r2,some (.int kind),some (.int base),some (.ref f),some (.int i),some (.int G),some (.lst [D.int G,D.int G,D.int base,D.int P,D.int (base + M1),D.int M2,D.int (M4 + G)])]) (S2.set f (.lst (xs ++ [.int (if q'=8 then M3 else y)]))):=by
 have z7:(7:Nat)≤sizeLine:=by decide
 have z2:(2:Nat)≤sizeLine:=by decide
 have hA0:∀ a b:D,atI [a,b] 0=some a:=fun _ _=>rfl
 have hA1:∀ a b:D,atI [a,b] 1=some b:=fun _ _=>rfl
 by_cases h8:q'=8
 ·simp only [rowBody,sSeq,sSet,sDrop,eMtL,eLst,eB,eCall,eOp,eVar,eC,aCons,aNil,R.bind,R.of,e1,hG,eShl,ePow,eM1,eM2,eM3,eM4,oAdd,isL,hf1,oIx,seqOf,hix,e2,oEqP,eqP,eqS,h8,fInt,hA0,hA1,mAppend,hf2,zl,List.length_cons,List.length_nil,List.getElem?_cons_zero,List.getElem?_cons_succ,List.set_cons_zero,List.set_cons_succ,if_true,Nat.reduceAdd,decide_true,Option.map_some,z7,z2]
 ·simp only [rowBody,sSeq,sSet,sDrop,eMtL,eLst,eB,eCall,eOp,eVar,eC,aCons,aNil,R.bind,R.of,e1,hG,eShl,ePow,eM1,eM2,eM3,eM4,oAdd,isL,hf1,oIx,seqOf,hix,e2,oEqP,eqP,eqS,h8,fInt,hA0,hA1,mAppend,hf2,zl,List.length_cons,List.length_nil,List.getElem?_cons_zero,List.getElem?_cons_succ,List.set_cons_zero,List.set_cons_succ,if_true,Nat.reduceAdd,decide_true,decide_false,if_false,Bool.false_eq_true,Option.map_some,z7,z2]
theorem row_turn {S0 S:Sto} {b f i:Nat} {kind base:Int} {xs:List Int} {r1 r2 r7 r8:Option D} (hi:i < 16) (hk:0≤kind∧kind < 7) (hb:1≤base∧base < 10) (g:Gr b S0 S) (hf:S[f]?=some (.lst (xs.map .int))) (hfb:f ≠ b) (hf0:S0.length≤f) (hl:xs.length < 1000):
  ∃ (y:Int) (S':Sto) (r7' r8':Option D),rowBody [some (.ref b),r1,r2,some (.int kind),some (.int base),some (.ref f),some (.int i),r7,r8] S=.ok (.nx [some (.ref b),r1,r2,some (.int kind),some (.int base),some (.ref f),some (.int i),r7',r8']) S'∧
   okN y∧S'[f]?=some (.lst ((xs ++ [y]).map .int))∧Gr b S0 S':=by
 obtain ⟨q,S1,e1,q0,q1,g1⟩:=take_ok g.self (many:=12) (by decide) (by decide)
 obtain ⟨q',S2,e2,q0',q1',g2⟩:=take_ok g1.self (many:=9) (by decide) (by decide)
 have hfl:f < S.length:=(List.getElem?_eq_some_iff.mp hf).1
 have hf1:S1[f]?=some (.lst (xs.map .int)):=by rw [g1.oth f hfb hfl]; exact hf
 have hf2:S2[f]?=some (.lst (xs.map .int)):=by rw [g2.oth f hfb (Nat.lt_of_lt_of_le hfl g1.len)]; exact hf1
 have hfl2:f < S2.length:=(List.getElem?_eq_some_iff.mp hf2).1
 generalize hG:(1:Int) + q=G
 have hG0:1≤G∧G≤12:=by omega
 have sG:smallI G:=⟨by omega,by omega⟩
 have sB:smallI base:=⟨by omega,by omega⟩
 have sI:smallI (i:Int):=⟨by omega,by omega⟩
 have m1:(i:Int) * G≤15 * 12:=Int.mul_le_mul (by omega) hG0.2 (by omega) (by omega)
 have m1':0≤(i:Int) * G:=Int.mul_nonneg (by omega) (by omega)
 have m2:G * G≤12 * 12:=Int.mul_le_mul hG0.2 hG0.2 (by omega) (by omega)
 have m2':1 * 1≤G * G:=Int.mul_le_mul hG0.1 hG0.1 (by omega) (by omega)
 have m3:base * G≤9 * 12:=Int.mul_le_mul (by omega) hG0.2 (by omega) (by omega)
 have m3':1 * 1≤base * G:=Int.mul_le_mul hb.1 hG0.1 (by omega) (by omega)
 have m4:(2:Int) ^ i≤32768:=by
  have h:=Nat.pow_le_pow_right (n:=2) (by decide) (show i≤15 by omega)
  have h':((2 ^ i:Nat):Int)≤((2 ^ 15:Nat):Int):=by exact_mod_cast h
  simpa using h'
 have m4':1≤(2:Int) ^ i:=by
  have h:=Nat.one_le_two_pow (n:=i)
  have h':(1:Int)≤((2 ^ i:Nat):Int):=by exact_mod_cast h
  simpa using h'
 have hix:∃ y:Int,okN y∧atI [D.int G,D.int G,D.int base,D.int (2 ^ i),D.int (base + (i:Int) * G),D.int (G * G),D.int (1000000000000 * G + G)] kind=some (.int y):=by
  have h:kind=0 ∨ kind=1 ∨ kind=2 ∨ kind=3 ∨ kind=4 ∨ kind=5 ∨ kind=6:=by omega
  rcases h with h | h | h | h | h | h | h <;> subst h
  ·exact ⟨_,⟨by omega,by omega⟩,rfl⟩
  ·exact ⟨_,⟨by omega,by omega⟩,rfl⟩
  ·exact ⟨_,⟨by omega,by omega⟩,rfl⟩
  ·exact ⟨_,⟨m4',by omega⟩,rfl⟩
  ·exact ⟨_,⟨by omega,by omega⟩,rfl⟩
  ·exact ⟨_,⟨by omega,by omega⟩,rfl⟩
  ·exact ⟨_,⟨by omega,by omega⟩,rfl⟩
 obtain ⟨y,hy,hix⟩:=hix
 have hev:=row_eval (r1:=r1) (r2:=r2) (r7:=r7) (r8:=r8) (base:=base) (i:=(i:Int)) e1 e2 hG hf1 hf2 (by rw [List.length_map]; exact Nat.lt_trans hl (by decide)) (fun S=>oShl_i (by omega)) (fun S=>oPow_10_12) (fun S=>oMul_i (.inl sI)) (fun S=>oMul_i (.inl sG)) (fun S=>oMul_i (.inl sB)) (fun S=>oMul_i (.inr sG)) hix
 have hy':okN (if q'=8 then base * G else y):=by
  split
  ·exact ⟨by omega,by omega⟩
  ·exact hy
 have g02:=(g.trans g1).trans g2
 obtain ⟨n,hn⟩:=g02.bx
 refine ⟨_,_,_,_,hev,hy',by rw [List.map_append]; simp [hfl2],⟨n,by rw [List.getElem?_set_ne hfb]; exact hn⟩,fun j hj hl=>?_,by simp; exact g02.len⟩
 rw [List.getElem?_set_ne (by omega)]
 exact g02.oth j hj hl
theorem row_loop {S0:Sto} {b f:Nat} {kind base:Int} {r1 r2:Option D} (hk:0≤kind∧kind < 7) (hb:1≤base∧base < 10) (hfb:f ≠ b) (hf0:S0.length≤f):∀ (l:List Nat) (S:Sto) (xs:List Int) (r6 r7 r8:Option D),(∀ i ∈ l,i < 16)→Gr b S0 S→S[f]?=some (.lst (xs.map .int))→xs.length + l.length < 1000→(∀ x ∈ xs,okN x)→
  ∃ (ys:List Int) (S':Sto) (r6' r7' r8':Option D),forL (.nm 6) rowBody (l.map fun (i:Nat)=>D.int i) [some (.ref b),r1,r2,some (.int kind),some (.int base),some (.ref f),r6,r7,r8] S=.ok (.nx [some (.ref b),r1,r2,some (.int kind),some (.int base),some (.ref f),r6',r7',r8']) S'∧
   ys.length=xs.length + l.length∧(∀ y ∈ ys,okN y)∧S'[f]?=some (.lst (ys.map .int))∧Gr b S0 S'
 | [],S,xs,r6,r7,r8,_,g,hf,_,hx=>⟨xs,S,r6,r7,r8,rfl,rfl,hx,hf,g⟩
 | i :: l,S,xs,r6,r7,r8,hl,g,hf,hz,hx=>by
  rw [List.length_cons] at hz
  obtain ⟨y,S1,r7',r8',e,hy,hf1,g1⟩:=row_turn (r1:=r1) (r2:=r2) (r7:=r7) (r8:=r8) (hl i List.mem_cons_self) hk hb g hf hfb hf0 (by omega)
  obtain ⟨ys,S2,a6,a7,a8,e2,h1,h2,h3,h4⟩:=row_loop hk hb hfb hf0 l S1 (xs ++ [y]) (some (.int i)) r7' r8' (fun j hj=>hl j (List.mem_cons_of_mem _ hj)) g1 hf1 (by rw [List.length_append,List.length_cons,List.length_nil]; omega) (fun x h=>by
   rcases List.mem_append.mp h with h | h
   ·exact hx x h
   ·rw [List.mem_singleton.mp h]; exact hy)
  refine ⟨ys,S2,a6,a7,a8,?_,by rw [h1,List.length_append,List.length_cons,List.length_nil,List.length_cons]; omega,h2,h3,h4⟩
  rw [List.map_cons,forL]
  simp only [G.put,List.set_cons_zero,List.set_cons_succ,e,R.bind_ok]
  exact e2
theorem row_ok {S:Sto} {b:Nat} {most:Int} (g:Gr b S S) (hm:0≤most∧most≤16):∃ (xs:List Int) (S':Sto),F__law_row [.ref b,.int most] S=.ok (.tup (xs.map .int)) S'∧(xs.length:Int)≤most∧(∀ x ∈ xs,okN x)∧Gr b S S':=by
 obtain ⟨many,S1,e1,a0,a1,g1⟩:=take_ok g (many:=most + 1) (by omega) (by omega)
 obtain ⟨kind,S2,e2,b0,b1,g2⟩:=take_ok g1.self (many:=7) (by decide) (by decide)
 obtain ⟨bs,S3,e3,c0,c1,g3⟩:=take_ok g2.self (many:=9) (by decide) (by decide)
 have gs:=(g1.trans g2).trans g3
 obtain ⟨n0,hn0⟩:=gs.bx
 have hb3:b < S3.length:=(List.getElem?_eq_some_iff.mp hn0).1
 obtain ⟨ys,S4,r6,r7,r8,e4,h1,h2,h3,h4⟩:=row_loop (S0:=S) (b:=b) (f:=S3.length) (kind:=kind) (base:=1 + bs) (r1:=some (.int most)) (r2:=some (.int many)) ⟨b0,b1⟩ ⟨by omega,by omega⟩ (by omega) gs.len (List.range many.toNat) (S3 ++ [.lst []]) [] none none none (fun i hi=>by have:=List.mem_range.mp hi; omega) (gs.more _) (by simp) (by simp; omega) (fun x h=>nomatch h)
 refine ⟨ys,S4,?_,by rw [h1]; simp; omega,h2,h4⟩
 have z0:(0:Nat)≤sizeLine:=Nat.zero_le _
 have hr:many < 2 ^ 62∧-(2 ^ 62)≤many:=⟨by omega,by omega⟩
 simp only [F__law_row,fnM,m__law_row,sSeq,sSet,sFor,aRange1,eNew,eCall,eOp,eVar,eC,aCons,aNil,R.bind,R.of,oAdd,e1,e2,e3,List.map_cons,List.map_nil,List.length_cons,List.length_nil,List.cons_append,List.nil_append,Nat.reduceAdd,Nat.reduceSub,List.replicate,List.getElem?_cons_zero,List.getElem?_cons_succ,List.set_cons_zero,List.set_cons_succ,z0,if_true,hr,and_self]
 rw [show (sSeq (sSet 7 (eOp oAdd (eC (.int 1)) (eCall F__law_take (aCons (eVar 0) (aCons (eC (.int 12)) aNil))))) _)=rowBody from rfl,e4]
 simp only [sRet,eB,aCons,aNil,eVar,R.bind,R.of,List.getElem?_cons_zero,List.getElem?_cons_succ,fTuple,seqOf,h3,Option.map_some]
def shal:D→Bool
 | .fz _=>false
 | .ref _=>false
 | .ty _=>false
 | .exc _=>false
 | .cls _=>false
 | _=>true
def isI:D→Bool
 | .int _=>true
 | _=>false
theorem whole_eq {d:D} {S:Sto} (h:shal d=true):F_is_whole [d] S=.ok (.bl (isI d)) S:=by
 cases d <;> first | (cases h; done) | (simp [F_is_whole,fnM,m_is_whole,sRet,eAnd,eNot,eB,eVar,eC,aCons,aNil,R.bind,R.of,fIsi,tyD,isiTys,isI])
def rowOk:D→Bool
 | .int i=>decide (1≤i)
 | _=>false
theorem boolsOf_map {A:Type} (f:A→Bool):∀ xs:List A,boolsOf (xs.map fun x=>D.bl (f x))=some (xs.map f)
 | []=>rfl
 | x :: xs=>by rw [List.map_cons,boolsOf,boolsOf_map f xs]; rfl
theorem comp_bool {e:EM} {f:D→Bool} {tl:Rho}:∀ (xs:List D) (r0:Option D) (S:Sto),(∀ x ∈ xs,e (some x :: tl) S=.ok (.bl (f x)) S)→compL (.nm 0) tTrue e xs (r0 :: tl) S=.ok (xs.map fun x=>D.bl (f x)) S
 | [],_,_,_=>rfl
 | x :: xs,r0,S,h=>by
  have h1:=h x List.mem_cons_self
  have h2:=comp_bool xs (some x) S fun y hy=>h y (List.mem_cons_of_mem _ hy)
  rw [compL]
  simp only [G.put,List.set_cons_zero,tTrue,R.bind_ok,if_true,h1,h2,List.map_cons]
def isRow:D→Bool
 | .tup xs=>decide (xs.length≤16) && xs.all rowOk
 | _=>false
def Okay (d:D):Prop:=shal d=true∧∀ xs,d=.tup xs→(∀ x ∈ xs,shal x=true)∧xs.length≤1000
theorem row_el {x:D} {S:Sto} (h:shal x=true):(eAnd (eCall F_is_whole (aCons (eVar 0) aNil)) (eOp oGe (eVar 0) (eC (.int 1)))) [some x] S=.ok (.bl (rowOk x)) S:=by
 have:=whole_eq (S:=S) h
 cases x <;> first | (cases h; done) | (simp [eAnd,eCall,eOp,eVar,eC,aCons,aNil,R.bind,R.of,this,isI,rowOk,oCmp])
theorem isrow_eq {d:D} {S:Sto} (h:Okay d):F_is_row [d] S=.ok (.bl (isRow d)) S:=by
 cases d with
 | tup xs=>
  obtain ⟨hs,hl⟩:=h.2 xs rfl
  have hc:=comp_bool (tl:=[]) (f:=rowOk) xs none S fun x hx=>row_el (hs x hx)
  have z:xs.length≤sizeLine:=Nat.le_trans hl (by decide)
  by_cases h16:xs.length≤16
  ·have h16':¬ (16:Int) < (xs.length:Int):=by omega
   simp only [F_is_row,fnM,m_is_row,sSeq,sIf,sRet,sSkip,PD.tOr,PD.tNot,tV,eB,eComp,aSeq,itSeq,capOf,eOp,eVar,eC,aCons,aNil,R.bind,R.of,fIsi,tyD,fLen,seqOf,oCmp,fAll,List.map_cons,List.map_nil,List.length_cons,List.length_nil,List.replicate,List.cons_append,List.nil_append,List.append_nil,Nat.reduceAdd,Nat.reduceSub,List.getElem?_cons_zero,h16',decide_false,Bool.false_eq_true,if_false,z,if_true,hc,boolsOf_map,Option.map_some,isRow,h16,decide_true,Bool.true_and]
   simp [isiTys]
   simp [z,hc,boolsOf_map,fAll,R.of,R.bind,sRet,eB,aCons]
  ·have h16':(16:Int) < (xs.length:Int):=by omega
   simp [F_is_row,fnM,m_is_row,sSeq,sIf,sRet,sSkip,PD.tOr,PD.tNot,tV,eB,eOp,eVar,eC,aCons,aNil,R.bind,R.of,fIsi,tyD,fLen,seqOf,oCmp,isiTys,isRow,h16,h16']
 | _=>first | (cases h.1; done) | (simp [F_is_row,fnM,m_is_row,sSeq,sIf,sRet,sSkip,PD.tOr,PD.tNot,tV,eB,eOp,eVar,eC,aCons,aNil,R.bind,R.of,fIsi,tyD,isiTys,isRow])
theorem one_line:1≤sizeLine:=by decide
theorem sSeq_go {a b:SM} {r r1:Rho} {S S1:Sto} (h:a r S=.ok (.nx r1) S1):sSeq a b r S=b r1 S1:=by
 unfold sSeq
 rw [h]
 rfl
def Row (xs:List Int):Prop:=(∀ x ∈ xs,1≤x)∧xs.length≤16
theorem ints_okay {xs:List Int} (h:xs.length≤1000):Okay (.tup (xs.map .int)):=⟨rfl,fun ys e=>by
 cases e
 refine ⟨fun x hx=>?_,by rw [List.length_map]; exact h⟩
 obtain ⟨i,_,rfl⟩:=List.mem_map.mp hx
 rfl⟩
theorem Row.okay {xs:List Int} (h:Row xs):Okay (.tup (xs.map .int)):=ints_okay (by have:=h.2; omega)
theorem Row.is {xs:List Int} (h:Row xs):isRow (.tup (xs.map .int))=true:=by
 unfold isRow
 rw [Bool.and_eq_true]
 refine ⟨by rw [List.length_map]; exact decide_eq_true h.2,List.all_eq_true.mpr fun x hx=>?_⟩
 obtain ⟨i,hi,rfl⟩:=List.mem_map.mp hx
 exact decide_eq_true (h.1 i hi)
theorem sFor_go {it:AM} {g:PD.G} {b:SM} {r:Rho} {S S1:Sto} {xs:List D} (h:it r S=.ok xs S1):sFor it g b r S=forL g b xs r S1:=by unfold sFor; rw [h,R.bind_ok]
theorem fnM_rt {n:Nat} {b:SM} {ds:List D} {ρ:Rho} {S S1:Sto} {d:D} (hρ:ds.map some ++ List.replicate (n - ds.length) none = ρ) (h:b ρ S=.ok (.rt d) S1):fnM n b ds S=.ok d S1:=by unfold fnM; rw [hρ,h,R.bind_ok]
theorem fnM_nx {n:Nat} {b:SM} {ds:List D} {ρ ρ':Rho} {S S1:Sto} (hρ:ds.map some ++ List.replicate (n - ds.length) none = ρ) (h:b ρ S=.ok (.nx ρ') S1):fnM n b ds S=.ok .non S1:=by unfold fnM; rw [hρ,h,R.bind_ok]
theorem sSeq_rt {a b:SM} {r:Rho} {S S1:Sto} {d:D} (h:a r S=.ok (.rt d) S1):sSeq a b r S=.ok (.rt d) S1:=by unfold sSeq; rw [h,R.bind_ok]
theorem sSet_go {i:Nat} {a:EM} {r:Rho} {S S1:Sto} {d:D} (h:a r S=.ok d S1):sSet i a r S=.ok (.nx (r.set i (some d))) S1:=by unfold sSet; rw [h,R.bind_ok]
theorem sRet_go {a:EM} {r:Rho} {S S1:Sto} {d:D} (h:a r S=.ok d S1):sRet a r S=.ok (.rt d) S1:=by unfold sRet; rw [h,R.bind_ok]
theorem sIf_t {t:TM} {a b:SM} {r:Rho} {S S1:Sto} (h:t r S=.ok true S1):sIf t a b r S=a r S1:=by unfold sIf; rw [h,R.bind_ok]; exact if_pos rfl
theorem sIf_f {t:TM} {a b:SM} {r:Rho} {S S1:Sto} (h:t r S=.ok false S1):sIf t a b r S=b r S1:=by unfold sIf; rw [h,R.bind_ok]; exact if_neg Bool.false_ne_true
theorem sDrop_go {a:EM} {r:Rho} {S S1:Sto} {d:D} (h:a r S=.ok d S1):sDrop a r S=.ok (.nx r) S1:=by unfold sDrop; rw [h,R.bind_ok]
theorem forL_cons {g:PD.G} {b:SM} {x:D} {xs:List D} {r r1 r2:Rho} {S S1:Sto} (hp:g.put x r=some r1) (h:b r1 S=.ok (.nx r2) S1):forL g b (x :: xs) r S=forL g b xs r2 S1:=by rw [forL]; simp only [hp,h,R.bind_ok]
theorem eCall_go {f:FM} {t:AM} {r:Rho} {S S1:Sto} {xs:List D} (h:t r S=.ok xs S1):eCall f t r S=f xs S1:=by unfold eCall; rw [h,R.bind_ok]
theorem sFor_seq {a:EM} {g:PD.G} {b:SM} {r:Rho} {S S1:Sto} {d:D} {xs:List D} (h:a r S=.ok d S1) (hi:itSeq S1 d=some xs):sFor (aSeq a itSeq) g b r S=forL g b xs r S1:=sFor_go (by unfold aSeq; rw [h,R.bind_ok,hi]; rfl)
theorem eOp_go {f:Sto→D→D→Option D} {a b:EM} {r:Rho} {S S1 S2:Sto} {x y z:D} (h1:a r S=.ok x S1) (h2:b r S1=.ok y S2) (h3:f S2 x y=some z):eOp f a b r S=.ok z S2:=by unfold eOp; rw [h1,R.bind_ok,h2,R.bind_ok,h3]; rfl
theorem eB_go {f:Sto→List D→Option D} {t:AM} {r:Rho} {S S1:Sto} {xs:List D} {z:D} (h1:t r S=.ok xs S1) (h3:f S1 xs=some z):eB f t r S=.ok z S1:=by unfold eB; rw [h1,R.bind_ok,h3]; rfl
theorem aCons_go {a:EM} {t:AM} {r:Rho} {S S1 S2:Sto} {x:D} {xs:List D} (h1:a r S=.ok x S1) (h2:t r S1=.ok xs S2):aCons a t r S=.ok (x :: xs) S2:=by unfold aCons; rw [h1,R.bind_ok,h2,R.bind_ok]
theorem tV_go {a:EM} {r:Rho} {S S1:Sto} {b:Bool} (h:a r S=.ok (.bl b) S1):tV a r S=.ok b S1:=by unfold tV; rw [h,R.bind_ok]
theorem eMtL_go {f:Sto→D→List D→R D} {o:EM} {t:AM} {r:Rho} {S S1 S2:Sto} {x:D} {ys:List D} (h1:o r S=.ok x S1) (hl:isL S1 x=true) (h2:t r S1=.ok ys S2):eMtL f o t r S=f S2 x ys:=by unfold eMtL; rw [h1,R.bind_ok,if_pos hl,h2,R.bind_ok]
theorem big62 {n:Int} (h0:0≤n) (h:n≤100000):n < 2 ^ 62∧-(2 ^ 62)≤n:=⟨by omega,by omega⟩
theorem aRange1_int {t:AM} {r:Rho} {S S1:Sto} {m:Int} (h:t r S=.ok [.int m] S1) (h0:0≤m) (h1:m≤100000):aRange1 t r S=.ok ((List.range m.toNat).map fun (i:Nat)=>D.int i) S1:=by
 have hr:=big62 h0 h1
 simp only [aRange1,h,R.bind,if_pos hr]
theorem aRange1_ok {t:AM} {r:Rho} {S S1:Sto} {n:Nat} (h:t r S=.ok [.int (n:Int)] S1) (hn:n≤100000):aRange1 t r S=.ok ((List.range n).map fun (i:Nat)=>D.int i) S1:=
 aRange1_int h (Int.natCast_nonneg n) (Int.ofNat_le.mpr hn)
theorem intsOf_map:∀ xs:List Int,intsOf (xs.map .int)=some xs
 | []=>rfl
 | x :: xs=>by rw [List.map_cons,intsOf,intsOf_map xs]; rfl
theorem fSum_t {S:Sto} {xs:List Int}:fSum S [.tup (xs.map .int)]=some (.int xs.sum):=by
 simp only [fSum,seqOf,intsOf_map,Option.map_some]
theorem comp_map {A:Type} {enc out:A→D} {e:EM} {tl:Rho} {S:Sto}:∀ (xs:List A) (r0:Option D),(∀ x ∈ xs,e (some (enc x) :: tl) S=.ok (out x) S)→compL (.nm 0) tTrue e (xs.map enc) (r0 :: tl) S=.ok (xs.map out) S
 | [],_,_=>rfl
 | x :: xs,r0,h=>by
  have h1:=h x List.mem_cons_self
  have h2:=comp_map (out:=out) xs (some (enc x)) fun y hy=>h y (List.mem_cons_of_mem _ hy)
  rw [List.map_cons,compL]
  simp only [G.put,List.set_cons_zero,tTrue,R.bind_ok,if_true,h1,h2,List.map_cons]
theorem eComp_map {A:Type} {enc out:A→D} {e:EM} {it:AM} {caps:List Nat} {tl r:Rho} {S:Sto} (xs:List A) (hi:it r S=.ok (xs.map enc) S) (hl:xs.length≤sizeLine) (hc:caps.map (fun i=>(r[i]?).join)=tl) (h:∀ x ∈ xs,e (some (enc x) :: tl) S=.ok (out x) S):eComp it 1 caps (.nm 0) tTrue e r S=.ok (.lst (xs.map out)) S:=by
 unfold eComp
 rw [hi,R.bind_ok,if_pos (by rw [List.length_map]; exact hl)]
 have:capOf 1 caps r=none :: tl:=by unfold capOf; rw [hc]; rfl
 rw [this,comp_map (out:=out) xs none h,R.bind_ok]
theorem comp_flt {A:Type} {enc out:A→D} {p:A→Bool} {t:TM} {e:EM} {tl:Rho} {S:Sto}:∀ (xs:List A) (r0:Option D),(∀ x ∈ xs,t (some (enc x) :: tl) S=.ok (p x) S)→(∀ x ∈ xs,p x=true→e (some (enc x) :: tl) S=.ok (out x) S)→compL (.nm 0) t e (xs.map enc) (r0 :: tl) S=.ok ((xs.filter p).map out) S
 | [],_,_,_=>rfl
 | x :: xs,r0,ht,h=>by
  have h0:=ht x List.mem_cons_self
  have h2:=comp_flt (out:=out) xs (some (enc x)) (fun y hy=>ht y (List.mem_cons_of_mem _ hy)) fun y hy=>h y (List.mem_cons_of_mem _ hy)
  rw [List.map_cons,compL]
  cases hp:p x with
  | true=>
   have h1:=h x List.mem_cons_self hp
   rw [hp] at h0
   simp only [G.put,List.set_cons_zero,R.bind_ok,if_true,h0,h1,h2,List.map_cons,List.filter_cons,hp]
  | false=>
   rw [hp] at h0
   simp only [G.put,List.set_cons_zero,R.bind_ok,h0,h2,List.filter_cons,hp,Bool.false_eq_true,if_false]
theorem eComp_flt {A:Type} {enc out:A→D} {p:A→Bool} {t:TM} {e:EM} {it:AM} {caps:List Nat} {tl r:Rho} {S:Sto} (xs:List A) (hi:it r S=.ok (xs.map enc) S) (hl:xs.length≤sizeLine) (hc:caps.map (fun i=>(r[i]?).join)=tl) (ht:∀ x ∈ xs,t (some (enc x) :: tl) S=.ok (p x) S) (h:∀ x ∈ xs,p x=true→e (some (enc x) :: tl) S=.ok (out x) S):eComp it 1 caps (.nm 0) t e r S=.ok (.lst ((xs.filter p).map out)) S:=by
 unfold eComp
 rw [hi,R.bind_ok,if_pos (by rw [List.length_map]; exact hl)]
 have:capOf 1 caps r=none :: tl:=by unfold capOf; rw [hc]; rfl
 rw [this,comp_flt (out:=out) xs none ht h,R.bind_ok]
theorem it_var {i:Nat} {r:Rho} {S:Sto} {d:D} {xs:List D} (h:r[i]?=some (some d)) (hx:itSeq S d=some xs):aSeq (eVar i) itSeq r S=.ok xs S:=by
 unfold aSeq eVar
 rw [h]
 show R.bind (.ok d S) _=_
 rw [R.bind_ok,hx]; rfl
theorem eVar_go {i:Nat} {r:Rho} {S:Sto} {d:D} (h:r[i]?=some (some d)):eVar i r S=.ok d S:=by
 unfold eVar; rw [h]
theorem eTup_go {t:AM} {r:Rho} {S S1:Sto} {xs:List D} (h:t r S=.ok xs S1) (hl:xs.length≤sizeLine):eTup t r S=.ok (.tup xs) S1:=by unfold eTup; rw [h,R.bind_ok,if_pos hl]
theorem eLst_go {t:AM} {r:Rho} {S S1:Sto} {xs:List D} (h:t r S=.ok xs S1) (hl:xs.length≤sizeLine):eLst t r S=.ok (.lst xs) S1:=by unfold eLst; rw [h,R.bind_ok,if_pos hl]
theorem tOr_f {a b:TM} {r:Rho} {S S1:Sto} (h:a r S=.ok false S1):PD.tOr a b r S=b r S1:=by unfold PD.tOr; rw [h,R.bind_ok]; exact if_neg Bool.false_ne_true
def Wo (K:List Int):List Int→Int→Prop
 | [],v=>v=0
 | x :: xs,v=>∃ q ∈ K,Wo K xs (v - x * q)
def Kd (K:List Int):Prop:=∀ q ∈ K,q = -1 ∨ q=0 ∨ q=1
theorem Wo_bd {K:List Int} (hK:Kd K):∀ {xs:List Int} {v:Int},(∀ x ∈ xs,1≤x)→Wo K xs v→-xs.sum≤v∧v≤xs.sum
 | [],v,_,h=>by
  have:v=0:=h
  simp [this]
 | x :: xs,v,hx,⟨q,hq,h⟩=>by
  have h1:=Wo_bd hK (fun y hy=>hx y (.tail _ hy)) h
  have h2:=hx x (.head _)
  rw [List.sum_cons]
  rcases hK q hq with rfl | rfl | rfl <;> omega
abbrev KS:List Int:=[-1,1]
theorem kdS:Kd KS:=fun q hq=>by simp only [KS,List.mem_cons,List.not_mem_nil,or_false] at hq; omega
def wor:List Int→List Int→Int
 | x :: xs,q :: p=>x * q + wor xs p
 | _,_=>0
def ext (K:List Int) (f:List (List Int)):List (List Int):=f.flatMap fun p=>K.map fun k=>p ++ [k]
def allL (K:List Int):Nat→List (List Int)
 | 0=>[[]]
 | n + 1=>ext K (allL K n)
theorem allL_mem {K:List Int}:∀ (n:Nat) (p:List Int),p ∈ allL K n↔p.length=n∧∀ q ∈ p,q ∈ K
 | 0,p=>by
  simp only [allL,List.mem_singleton]
  constructor
  ·rintro rfl; exact ⟨rfl,fun q h=>nomatch h⟩
  ·rintro ⟨h,_⟩; exact List.length_eq_zero_iff.mp h
 | n + 1,p=>by
  simp only [allL,ext,List.mem_flatMap,List.mem_map]
  constructor
  ·rintro ⟨p',h',k,hk,rfl⟩
   obtain ⟨h1,h2⟩:=(allL_mem n p').mp h'
   refine ⟨by simp [h1],fun q hq=>?_⟩
   rcases List.mem_append.mp hq with hq | hq
   ·exact h2 q hq
   ·rw [List.mem_singleton.mp hq]; exact hk
  ·rintro ⟨h1,h2⟩
   have hne:p ≠ []:=fun h=>by rw [h] at h1; cases h1
   refine ⟨p.dropLast,(allL_mem n _).mpr ⟨by rw [List.length_dropLast,h1]; rfl,fun q hq=>h2 q ((List.dropLast_sublist p).subset hq)⟩,p.getLast hne,h2 _ (List.getLast_mem hne),List.dropLast_concat_getLast hne⟩
theorem Wo_iff {K:List Int}:∀ (xs:List Int) (v:Int),Wo K xs v↔∃ p,(p.length=xs.length∧∀ q ∈ p,q ∈ K)∧wor xs p=v
 | [],v=>by
  constructor
  ·intro h; exact ⟨[],⟨rfl,fun q h=>nomatch h⟩,(show v=0 from h).symm⟩
  ·rintro ⟨p,⟨h,_⟩,e⟩
   cases List.length_eq_zero_iff.mp h
   exact e.symm
 | x :: xs,v=>by
  constructor
  ·rintro ⟨q,hq,h⟩
   obtain ⟨p,⟨h1,h2⟩,e⟩:=(Wo_iff xs _).mp h
   refine ⟨q :: p,⟨by simp [h1],fun r hr=>?_⟩,by show x * q + wor xs p=v; omega⟩
   rcases List.mem_cons.mp hr with rfl | hr
   ·exact hq
   ·exact h2 r hr
  ·rintro ⟨p,⟨h1,h2⟩,e⟩
   cases p with
   | nil=>cases h1
   | cons q p=>
    refine ⟨q,h2 q (.head _),(Wo_iff xs _).mpr ⟨p,⟨by simpa using h1,fun r hr=>h2 r (.tail _ hr)⟩,?_⟩⟩
    have e':x * q + wor xs p=v:=e
    omega
theorem Wo_all {K xs:List Int} {v:Int}:Wo K xs v↔∃ p ∈ allL K xs.length,wor xs p=v:=by
 rw [Wo_iff]
 constructor
 ·rintro ⟨p,h,e⟩; exact ⟨p,(allL_mem _ _).mpr h,e⟩
 ·rintro ⟨p,h,e⟩; exact ⟨p,(allL_mem _ _).mp h,e⟩
theorem ext_len (K:List Int):∀ f:List (List Int),(ext K f).length=f.length * K.length
 | []=>by simp [ext]
 | p :: f=>by
  have:=ext_len K f
  simp only [ext,List.flatMap_cons,List.length_append,List.length_map,List.length_cons] at this ⊢
  rw [this,Nat.succ_mul]; omega
theorem allL_len (K:List Int):∀ n,(allL K n).length=K.length ^ n
 | 0=>rfl
 | n + 1=>by rw [allL,ext_len,allL_len K n,Nat.pow_succ]
abbrev tupI (xs:List Int):D:=.tup (xs.map .int)
abbrev allB:SM:=(sSeq (sSet 4 (eLst aNil)) (sSeq (sFor (aSeq (eVar 2) itSeq) (.nm 5) (sSet 4 (eOp oAdd (eVar 4) (eComp (aSeq (eVar 1) itSeq) 1 [5] (.nm 0) tTrue (eOp oAdd (eVar 1) (eTup (aCons (eVar 0) aNil))))))) (sSet 2 (eVar 4))))
abbrev allC:SM:=(sSet 4 (eOp oAdd (eVar 4) (eComp (aSeq (eVar 1) itSeq) 1 [5] (.nm 0) tTrue (eOp oAdd (eVar 1) (eTup (aCons (eVar 0) aNil))))))
theorem oAdd_l {S:Sto} {a b:List D} (h:a.length + b.length≤sizeLine):oAdd S (.lst a) (.lst b)=some (.lst (a ++ b)):=if_pos h
theorem oAdd_t {S:Sto} {a b:List D} (h:a.length + b.length≤sizeLine):oAdd S (.tup a) (.tup b)=some (.tup (a ++ b)):=if_pos h
theorem ext_cons (K:List Int) (p:List Int) (f:List (List Int)):ext K (p :: f)=(K.map fun k=>p ++ [k]) ++ ext K f:=by simp [ext]
theorem all_inner {K:List Int} (hK:K.length≤3) {S:Sto} (r0 r2 r3:Option D):∀ (f acc:List (List Int)) (r5:Option D),acc.length + f.length * K.length≤1000→(∀ p ∈ f,p.length≤100)→∃ r5':Option D,forL (.nm 5) allC (f.map tupI) [r0,some (tupI K),r2,r3,some (.lst (acc.map tupI)),r5] S=.ok (.nx [r0,some (tupI K),r2,r3,some (.lst ((acc ++ ext K f).map tupI)),r5']) S
 | [],acc,r5,_,_=>⟨r5,by simp [forL,ext]⟩
 | p :: f,acc,r5,h,hp=>by
  have z:(1000:Nat)≤sizeLine:=by decide
  have z1:(1:Nat)≤sizeLine:=by decide
  have hm:(p :: f).length * K.length=f.length * K.length + K.length:=by rw [List.length_cons,Nat.succ_mul]
  have hpl:=hp p (.head _)
  obtain ⟨r5',e⟩:=all_inner hK (S:=S) r0 r2 r3 f (acc ++ K.map fun k=>p ++ [k]) (some (tupI p)) (by rw [List.length_append,List.length_map]; omega) fun q hq=>hp q (.tail _ hq)
  refine ⟨r5',?_⟩
  have hc:eComp (aSeq (eVar 1) itSeq) 1 [5] (.nm 0) tTrue (eOp oAdd (eVar 1) (eTup (aCons (eVar 0) aNil))) [r0,some (tupI K),r2,r3,some (.lst (acc.map tupI)),some (tupI p)] S=.ok (.lst (K.map fun k=>tupI (p ++ [k]))) S:=
   eComp_map (enc:=D.int) (tl:=[some (tupI p)]) K (it_var rfl rfl) (by omega) rfl fun k hk=>by
    refine eOp_go (eVar_go rfl) (eTup_go (aCons_go (eVar_go rfl) rfl) z1) ?_
    rw [oAdd_t (by simp; omega)]
    simp
  have h2:oAdd S (.lst (acc.map tupI)) (.lst (K.map fun k=>tupI (p ++ [k])))=some (.lst ((acc ++ K.map fun k=>p ++ [k]).map tupI)):=by
   rw [oAdd_l (by simp; omega),List.map_append,List.map_map]; rfl
  rw [List.map_cons,ext_cons,← List.append_assoc]
  exact (forL_cons (r1:=[r0,some (tupI K),r2,r3,some (.lst (acc.map tupI)),some (tupI p)]) rfl (sSet_go (eOp_go (eVar_go rfl) hc h2))).trans e
theorem all_outer {K:List Int} (hK:K.length≤3) {S:Sto} (r0:Option D):∀ (m i:Nat) (r3 r4 r5:Option D),i + m≤6→∃ r3' r4' r5':Option D,forL (.nm 3) allB ((List.range' i m).map fun (i:Nat)=>D.int i) [r0,some (tupI K),some (.lst ((allL K i).map tupI)),r3,r4,r5] S=.ok (.nx [r0,some (tupI K),some (.lst ((allL K (i + m)).map tupI)),r3',r4',r5']) S
 | 0,i,r3,r4,r5,_=>⟨r3,r4,r5,rfl⟩
 | m + 1,i,r3,r4,r5,h=>by
  have hl:=allL_len K i
  have hle:(allL K i).length * K.length≤1000:=by
   have h0:K.length ^ i * K.length=K.length ^ (i + 1):=(Nat.pow_succ ..).symm
   rw [hl,h0]
   have h1:K.length ^ (i + 1)≤3 ^ (i + 1):=Nat.pow_le_pow_left hK _
   have h2:3 ^ (i + 1)≤3 ^ 6:=Nat.pow_le_pow_right (by decide) (by omega)
   exact Nat.le_trans h1 (Nat.le_trans h2 (by decide))
  obtain ⟨x5,e1⟩:=all_inner hK (S:=S) r0 (some (.lst ((allL K i).map tupI))) (some (.int i)) (allL K i) [] r5 (by simp; omega) fun p hp=>by
   have:=((allL_mem i p).mp hp).1; omega
  obtain ⟨y3,y4,y5,e2⟩:=all_outer hK (S:=S) r0 m (i + 1) (some (.int i)) (some (.lst ((allL K (i + 1)).map tupI))) x5 (by omega)
  refine ⟨y3,y4,y5,?_⟩
  rw [List.range'_succ,List.map_cons]
  rw [List.nil_append] at e1
  have st:allB [r0,some (tupI K),some (.lst ((allL K i).map tupI)),some (.int i),r4,r5] S=.ok (.nx [r0,some (tupI K),some (.lst ((allL K (i + 1)).map tupI)),some (.int i),some (.lst ((allL K (i + 1)).map tupI)),x5]) S:=
   (sSeq_go (sSet_go (eLst_go rfl (Nat.zero_le _)))).trans ((sSeq_go ((sFor_seq (eVar_go rfl) rfl).trans e1)).trans (sSet_go (eVar_go rfl)))
  have:=(forL_cons (g:=.nm 3) (x:=D.int i) (xs:=(List.range' (i + 1) m).map fun (i:Nat)=>D.int i) (r:=[r0,some (tupI K),some (.lst ((allL K i).map tupI)),r3,r4,r5]) (r1:=[r0,some (tupI K),some (.lst ((allL K i).map tupI)),some (.int i),r4,r5]) rfl st).trans e2
  rw [show i + (m + 1)=i + 1 + m by omega]
  exact this
theorem all_eq {K:List Int} (hK:K.length≤3) {n:Nat} (hn:n≤6) {S:Sto}:F__law_all [.int n,tupI K] S=.ok (.lst ((allL K n).map tupI)) S:=by
 have z1:(1:Nat)≤sizeLine:=by decide
 obtain ⟨r3,r4,r5,e⟩:=all_outer hK (S:=S) (some (.int n)) n 0 none none none (by omega)
 rw [← List.range_eq_range',Nat.zero_add] at e
 have h0:eLst (aCons (eTup aNil) aNil) [some (.int n),some (tupI K),none,none,none,none] S=.ok (.lst ((allL K 0).map tupI)) S:=eLst_go (aCons_go (eTup_go rfl (Nat.zero_le _)) rfl) z1
 exact fnM_rt (ρ:=[some (.int n),some (tupI K),none,none,none,none]) rfl ((sSeq_go (sSet_go h0)).trans ((sSeq_go ((sFor_go (aRange1_ok (n:=n) (aCons_go (eVar_go rfl) rfl) (by omega))).trans e)).trans (sRet_go (eVar_go rfl))))
theorem lw_loop (S:Sto) (xs ys:List Int) (hl:ys.length=xs.length) (hy:∀ y ∈ ys,-1≤y∧y≤1):∀ (m i:Nat) (acc:Int) (r3:Option D),i + m=xs.length→∃ r3',
  forL (.nm 3) (sSet 2 (eOp oAdd (eVar 2) (eOp oMul (eOp oIx (eVar 0) (eVar 3)) (eOp oIx (eVar 1) (eVar 3))))) ((List.range' i m).map fun (i:Nat)=>D.int i) [some (.tup (xs.map .int)),some (.tup (ys.map .int)),some (.int acc),r3] S
   = .ok (.nx [some (.tup (xs.map .int)),some (.tup (ys.map .int)),some (.int (acc + wor (xs.drop i) (ys.drop i))),r3']) S
 | 0,i,acc,r3,h=>⟨r3,by
  have e:xs.drop i=[]:=List.drop_eq_nil_of_le (by omega)
  simp [forL,wor,e]⟩
 | m + 1,i,acc,r3,h=>by
  have h1:i < xs.length:=by omega
  have h2:i < ys.length:=by omega
  obtain ⟨r,e⟩:=lw_loop S xs ys hl hy m (i + 1) (acc + xs[i] * ys[i]) (some (.int i)) (by omega)
  refine ⟨r,?_⟩
  have hq:=hy ys[i] (List.getElem_mem h2)
  have hm:oMul S (.int xs[i]) (.int ys[i])=some (.int (xs[i] * ys[i])):=oMul_i (.inr ⟨by omega,by omega⟩)
  have i1:oIx S (.tup (xs.map .int)) (.int (i:Int))=some (.int xs[i]):=by
   show atI (xs.map D.int) (i:Int)=_
   rw [atI_nat' (by rw [List.length_map]; exact h1)]; simp
  have i2:oIx S (.tup (ys.map .int)) (.int (i:Int))=some (.int ys[i]):=by
   show atI (ys.map D.int) (i:Int)=_
   rw [atI_nat' (by rw [List.length_map]; exact h2)]; simp
  have ed:acc + wor (xs.drop i) (ys.drop i)=acc + xs[i] * ys[i] + wor (xs.drop (i + 1)) (ys.drop (i + 1)):=by
   rw [List.drop_eq_getElem_cons h1,List.drop_eq_getElem_cons h2]
   simp only [wor]
   omega
  rw [ed,List.range'_succ,List.map_cons,forL]
  have st:(sSet 2 (eOp oAdd (eVar 2) (eOp oMul (eOp oIx (eVar 0) (eVar 3)) (eOp oIx (eVar 1) (eVar 3))))) [some (.tup (xs.map .int)),some (.tup (ys.map .int)),some (.int acc),some (.int i)] S=.ok (.nx [some (.tup (xs.map .int)),some (.tup (ys.map .int)),some (.int (acc + xs[i] * ys[i])),some (.int i)]) S:=by
   simp only [sSet,eOp,eVar,R.bind,R.of,List.set_cons_zero,List.set_cons_succ,List.getElem?_cons_zero,List.getElem?_cons_succ,i1,i2,hm,oAdd]
  simp only [G.put,List.set_cons_zero,List.set_cons_succ,st,R.bind_ok]
  exact e
theorem lworth_ok {xs ys:List Int} (hl:ys.length=xs.length) (hy:∀ y ∈ ys,-1≤y∧y≤1) (h5:xs.length≤1000) (S:Sto):F__law_worth [tupI xs,tupI ys] S=.ok (.int (wor xs ys)) S:=by
 obtain ⟨r,e⟩:=lw_loop S xs ys hl hy xs.length 0 0 none (by omega)
 rw [← List.range_eq_range'] at e
 simp only [List.drop_zero,Int.zero_add] at e
 have hg:aRange1 (aCons (eB fLen (aCons (eVar 0) aNil)) aNil) [some (.tup (xs.map .int)),some (.tup (ys.map .int)),some (.int 0),none] S=.ok ((List.range xs.length).map fun (i:Nat)=>D.int i) S:=
  aRange1_ok (by simp [aCons,aNil,eB,eVar,R.bind,R.of,fLen,seqOf]) (by omega)
 refine fnM_rt (ρ:=[some (.tup (xs.map .int)),some (.tup (ys.map .int)),none,none]) rfl ?_
 unfold m__law_worth
 exact (sSeq_go (sSet_go (d:=.int 0) rfl)).trans ((sSeq_go ((sFor_go hg).trans e)).trans (sRet_go rfl))
theorem getK_some (kvs:List (KD × D)) (k:KD):(getK kvs k).isSome=kvs.any fun kv=>decide (kv.1=k):=by
 unfold getK
 rw [Option.isSome_map,Bool.eq_iff_iff,List.find?_isSome,List.any_eq_true]
theorem eGet2_go {o a b:EM} {r:Rho} {S S1 S2 S3:Sto} {d y z:D} {kvs kvs':List (KD × D)} {k:KD} (ho:o r S=.ok d S1) (hd:dicOf S1 d=some kvs) (ha:a r S1=.ok y S2) (hb:b r S2=.ok z S3) (hd3:dicOf S3 d=some kvs') (hk:keyD y=some k):eGet2 o a b r S=.ok ((getK kvs' k).getD z) S3:=by
 unfold eGet2
 rw [ho,R.bind_ok]
 simp only [hd,Option.isSome_some,if_true,ha,R.bind_ok,hb,hd3,hk]
theorem sPut_go {f:Sto→D→D→D→Option Sto} {e o i:EM} {r:Rho} {S S1 S2 S3 S4:Sto} {v x y:D} (he:e r S=.ok v S1) (ho:o r S1=.ok x S2) (hi:i r S2=.ok y S3) (hf:f S3 x y v=some S4):sPut f e o i r S=.ok (.nx r) S4:=by
 unfold sPut
 rw [he,R.bind_ok,ho,R.bind_ok,hi,R.bind_ok,hf]
def fS (K:List Int) (x:Int) (f:List Int):List Int:=f.flatMap fun w=>K.map fun q=>w + q * x
def pT (T:List (Int × Int)) (k c:Int):List (Int × Int):=if T.any (fun e=>decide (e.1=k)) then T.map (fun e=>if e.1=k then (e.1,c) else e) else T ++ [(k,c)]
def gT (T:List (Int × Int)) (k:Int):Int:=((T.find? fun e=>decide (e.1=k)).map (·.2)).getD 0
def sumH (h:Int→Int) (T:List (Int × Int)):Int:=(T.map fun e=>h e.1 * e.2).sum
def Keys (T:List (Int × Int)):Prop:=T.Pairwise fun a b=>a.1 ≠ b.1
theorem sumH_cons (h:Int→Int) (e:Int × Int) (T:List (Int × Int)):sumH h (e :: T)=h e.1 * e.2 + sumH h T:=by simp [sumH]
theorem sumH_app (h:Int→Int):∀ (A B:List (Int × Int)),sumH h (A ++ B)=sumH h A + sumH h B
 | [],B=>by simp [sumH]
 | e :: A,B=>by rw [List.cons_append,sumH_cons,sumH_cons,sumH_app h A B]; omega
theorem no_key {T:List (Int × Int)} {k:Int} (h:T.any (fun e=>decide (e.1=k))=false):gT T k=0:=by
 unfold gT
 have:(T.find? fun e=>decide (e.1=k))=none:=by
  rw [List.find?_eq_none]
  intro e he hd
  rw [List.any_eq_false] at h
  exact h e he hd
 rw [this]; rfl
theorem map_same {T:List (Int × Int)} {k c:Int} (h:∀ e ∈ T,e.1 ≠ k):T.map (fun e=>if e.1=k then (e.1,c) else e)=T:=by
 induction T with
 | nil=>rfl
 | cons e T ih=>
  rw [List.map_cons,if_neg (h e (.head _)),ih fun e he=>h e (.tail _ he)]
theorem gT_cons (e:Int × Int) (T:List (Int × Int)) (k:Int):gT (e :: T) k=if e.1=k then e.2 else gT T k:=by
 unfold gT
 rw [List.find?_cons]
 by_cases h:e.1=k
 ·simp [h]
 ·simp [h]
theorem sumH_set (h:Int→Int) {k c:Int}:∀ {T:List (Int × Int)},Keys T→T.any (fun e=>decide (e.1=k))=true→sumH h (T.map fun e=>if e.1=k then (e.1,c) else e)=sumH h T + h k * (c - gT T k)
 | [],_,ha=>by simp at ha
 | e :: T,hk,ha=>by
  have hk':=List.pairwise_cons.mp hk
  rw [List.map_cons,sumH_cons,sumH_cons,gT_cons]
  by_cases he:e.1=k
  ·rw [if_pos he,if_pos he,map_same fun e' he' h=>hk'.1 e' he' (by rw [he,h])]
   simp only
   rw [he,Int.mul_sub]
   omega
  ·have ha':T.any (fun e=>decide (e.1=k))=true:=by
    simp only [List.any_cons,he,decide_false,Bool.false_or] at ha
    exact ha
   rw [if_neg he,if_neg he,sumH_set h hk'.2 ha']
   omega
theorem sumH_pT (h:Int→Int) {T:List (Int × Int)} (hk:Keys T) (k c:Int):sumH h (pT T k (gT T k + c))=sumH h T + h k * c:=by
 unfold pT
 cases ha:T.any (fun e=>decide (e.1=k)) with
 | true=>
  rw [if_pos rfl,sumH_set h hk ha,show gT T k + c - gT T k=c by omega]
 | false=>
  rw [if_neg Bool.false_ne_true,sumH_app,no_key ha,sumH_cons]
  simp [sumH]
theorem keys_pT {T:List (Int × Int)} (hk:Keys T) (k c:Int):Keys (pT T k c):=by
 unfold pT
 cases ha:T.any (fun e=>decide (e.1=k)) with
 | true=>
  rw [if_pos rfl]
  unfold Keys
  rw [List.pairwise_map]
  refine List.Pairwise.imp (fun {a b} h=>?_) hk
  split <;> split <;> exact h
 | false=>
  rw [if_neg Bool.false_ne_true]
  refine List.pairwise_append.mpr ⟨hk,List.pairwise_singleton _ _,fun a ha' b hb=>?_⟩
  rw [List.mem_singleton.mp hb]
  rw [List.any_eq_false] at ha
  have:=ha a ha'
  simpa using this
theorem key_pT (T:List (Int × Int)) (k c v:Int):(∃ e ∈ pT T k c,e.1=v)↔(∃ e ∈ T,e.1=v) ∨ v=k:=by
 unfold pT
 cases ha:T.any (fun e=>decide (e.1=k)) with
 | true=>
  rw [if_pos rfl]
  constructor
  ·rintro ⟨e,he,rfl⟩
   obtain ⟨e',he',rfl⟩:=List.mem_map.mp he
   refine .inl ⟨e',he',?_⟩
   split <;> rfl
  ·rintro (⟨e,he,rfl⟩ | rfl)
   ·exact ⟨_,List.mem_map.mpr ⟨e,he,rfl⟩,by split <;> rfl⟩
   ·rw [List.any_eq_true] at ha
    obtain ⟨e,he,hd⟩:=ha
    exact ⟨_,List.mem_map.mpr ⟨e,he,rfl⟩,by split <;> exact of_decide_eq_true hd⟩
 | false=>
  rw [if_neg Bool.false_ne_true]
  constructor
  ·rintro ⟨e,he,rfl⟩
   rcases List.mem_append.mp he with he | he
   ·exact .inl ⟨e,he,rfl⟩
   ·rw [List.mem_singleton.mp he]; exact .inr rfl
  ·rintro (⟨e,he,rfl⟩ | rfl)
   ·exact ⟨e,List.mem_append_left _ he,rfl⟩
   ·exact ⟨(v,c),List.mem_append_right _ (List.mem_singleton.mpr rfl),rfl⟩
theorem len_pT (T:List (Int × Int)) (k c:Int):(pT T k c).length≤T.length + 1:=by
 unfold pT
 split <;> simp
structure Hist (T:List (Int × Int)) (f:List Int):Prop where
 keys:Keys T
 mem:∀ v,(∃ e ∈ T,e.1=v)↔v ∈ f
 sum:∀ h:Int→Int,sumH h T=(f.map h).sum
 len:T.length≤f.length
theorem Hist.zero:Hist [(0,1)] [0]:=⟨List.pairwise_singleton _ _,fun v=>by simp [eq_comm],fun h=>by simp [sumH],Nat.le_refl _⟩
theorem sumI_app:∀ (a b:List Int),(a ++ b).sum=a.sum + b.sum
 | [],b=>by simp
 | x :: a,b=>by rw [List.cons_append,List.sum_cons,List.sum_cons,sumI_app a b]; omega
structure HistC (T:List (Int × Int)) (L:List (Int × Int)):Prop where
 keys:Keys T
 mem:∀ v,(∃ e ∈ T,e.1=v)↔∃ e ∈ L,e.1=v
 sum:∀ h:Int→Int,sumH h T=sumH h L
 len:T.length≤L.length
theorem HistC.nil:HistC [] []:=⟨List.Pairwise.nil,fun v=>by simp,fun h=>rfl,Nat.le_refl _⟩
theorem HistC.put {T L:List (Int × Int)} (h:HistC T L) (k c:Int):HistC (pT T k (gT T k + c)) (L ++ [(k,c)]):=by
 refine ⟨keys_pT h.keys _ _,fun v=>?_,fun f=>?_,Nat.le_trans (len_pT _ _ _) (by have:=h.len; simp; omega)⟩
 ·rw [key_pT,h.mem v]
  constructor
  ·rintro (⟨e,he,e1⟩ | rfl)
   ·exact ⟨e,List.mem_append_left _ he,e1⟩
   ·exact ⟨(v,c),List.mem_append_right _ (List.mem_singleton.mpr rfl),rfl⟩
  ·rintro ⟨e,he,rfl⟩
   rcases List.mem_append.mp he with he | he
   ·exact .inl ⟨e,he,rfl⟩
   ·rw [List.mem_singleton.mp he]; exact .inr rfl
 ·rw [sumH_pT f h.keys,h.sum f,sumH_app,sumH_cons]
  simp [sumH]
def putsOf (K:List Int) (x:Int) (T:List (Int × Int)):List (Int × Int):=T.flatMap fun e=>K.map fun q=>(e.1 + q * x,e.2)
theorem sumH_puts (K:List Int) (x:Int) (h:Int→Int):∀ T:List (Int × Int),sumH h (putsOf K x T)=sumH (fun y=>(K.map fun q=>h (y + q * x)).sum) T
 | []=>rfl
 | e :: T=>by
  have ih:=sumH_puts K x h T
  unfold putsOf at ih ⊢
  rw [List.flatMap_cons,sumH_app,sumH_cons,ih]
  congr 1
  have:∀ l:List Int,sumH h (l.map fun q=>(e.1 + q * x,e.2))=(l.map fun q=>h (e.1 + q * x)).sum * e.2:=fun l=>by
   induction l with
   | nil=>simp [sumH]
   | cons q l ih=>rw [List.map_cons,sumH_cons,List.map_cons,List.sum_cons,ih,Int.add_mul]
  exact this K
theorem sum_fS (K:List Int) (x:Int) (h:Int→Int):∀ f:List Int,((fS K x f).map h).sum=(f.map fun y=>(K.map fun q=>h (y + q * x)).sum).sum
 | []=>rfl
 | w :: f=>by
  have ih:=sum_fS K x h f
  unfold fS at ih ⊢
  rw [List.flatMap_cons,List.map_append,sumI_app,ih,List.map_cons,List.sum_cons,List.map_map]
  rfl
theorem mem_fS {K:List Int} {x v:Int} {f:List Int}:v ∈ fS K x f↔∃ w ∈ f,∃ q ∈ K,w + q * x=v:=by
 simp only [fS,List.mem_flatMap,List.mem_map]
theorem fS_len (K:List Int) (x:Int):∀ f:List Int,(fS K x f).length=f.length * K.length
 | []=>by simp [fS]
 | w :: f=>by
  have:=fS_len K x f
  simp only [fS,List.flatMap_cons,List.length_append,List.length_map,List.length_cons] at this ⊢
  rw [this,Nat.succ_mul]; omega
theorem puts_len (K:List Int) (x:Int):∀ T:List (Int × Int),(putsOf K x T).length=T.length * K.length
 | []=>by simp [putsOf]
 | w :: f=>by
  have:=puts_len K x f
  simp only [putsOf,List.flatMap_cons,List.length_append,List.length_map,List.length_cons] at this ⊢
  rw [this,Nat.succ_mul]; omega
theorem Hist.step {K:List Int} {x:Int} {T T':List (Int × Int)} {f:List Int} (h:Hist T f) (h':HistC T' (putsOf K x T)):Hist T' (fS K x f):=by
 refine ⟨h'.keys,fun v=>?_,fun g=>?_,?_⟩
 ·rw [h'.mem v,mem_fS]
  simp only [putsOf,List.mem_flatMap,List.mem_map]
  constructor
  ·rintro ⟨e,⟨e0,he0,q,hq,rfl⟩,rfl⟩
   exact ⟨e0.1,(h.mem _).mp ⟨e0,he0,rfl⟩,q,hq,rfl⟩
  ·rintro ⟨w,hw,q,hq,rfl⟩
   obtain ⟨e0,he0,rfl⟩:=(h.mem w).mpr hw
   exact ⟨_,⟨e0,he0,q,hq,rfl⟩,rfl⟩
 ·rw [h'.sum g,sumH_puts,h.sum,sum_fS]
 ·have:=h'.len
  rw [puts_len] at this
  rw [fS_len]
  exact Nat.le_trans this (Nat.mul_le_mul_right _ h.len)
theorem gT_sum {k:Int}:∀ {T:List (Int × Int)},Keys T→sumH (fun y=>if y=k then 1 else 0) T=gT T k
 | [],_=>rfl
 | e :: T,hk=>by
  have hk':=List.pairwise_cons.mp hk
  rw [sumH_cons,gT_cons]
  by_cases he:e.1=k
  ·rw [if_pos he,if_pos he,gT_sum hk'.2,no_key (by
    rw [List.any_eq_false]
    intro e' he' hd
    exact hk'.1 e' he' (by rw [he,of_decide_eq_true hd]))]
   omega
  ·rw [if_neg he,if_neg he,gT_sum hk'.2]; omega
theorem sum_ind (k:Int):∀ f:List Int,(f.map fun y=>if y=k then (1:Int) else 0).sum=(f.filter fun y=>decide (y=k)).length
 | []=>rfl
 | w :: f=>by
  rw [List.map_cons,List.sum_cons,sum_ind k f,List.filter_cons]
  by_cases h:w=k
  ·simp [h]; omega
  ·simp [h]
theorem Hist.get {T:List (Int × Int)} {f:List Int} (h:Hist T f) (k:Int):gT T k=((f.filter fun y=>decide (y=k)).length:Int):=by
 rw [← gT_sum h.keys,h.sum,sum_ind]
theorem wor_snoc:∀ (xs p:List Int) (x q:Int),p.length=xs.length→wor (xs ++ [x]) (p ++ [q])=wor xs p + q * x
 | [],[],x,q,_=>by show x * q + 0=0 + q * x; rw [Int.mul_comm]; omega
 | y :: xs,r :: p,x,q,h=>by
  show y * r + wor (xs ++ [x]) (p ++ [q])=y * r + wor xs p + q * x
  rw [wor_snoc xs p x q (by simpa using h)]; omega
 | [],_ :: _,_,_,h=>by cases h
 | _ :: _,[],_,_,h=>by cases h
def wsL (K:List Int) (xs:List Int):List Int:=(allL K xs.length).map (wor xs)
theorem wsL_snoc (K xs:List Int) (x:Int):wsL K (xs ++ [x])=fS K x (wsL K xs):=by
 unfold wsL fS
 rw [List.length_append,List.length_cons,List.length_nil]
 show (ext K (allL K xs.length)).map _=_
 unfold ext
 rw [List.map_flatMap,List.flatMap_map]
 have:∀ l:List (List Int),(∀ p ∈ l,p.length=xs.length)→(l.flatMap fun p=>(K.map fun k=>p ++ [k]).map (wor (xs ++ [x])))=l.flatMap fun p=>K.map fun q=>wor xs p + q * x:=fun l=>by
  induction l with
  | nil=>intro _; rfl
  | cons p l ih=>
   intro h
   rw [List.flatMap_cons,List.flatMap_cons,ih fun p hp=>h p (.tail _ hp),List.map_map]
   congr 1
   refine List.map_congr_left fun k _=>?_
   exact wor_snoc xs p x k (h p (.head _))
 exact this _ fun p hp=>((allL_mem _ p).mp hp).1
def encT (T:List (Int × Int)):List (KD × D):=T.map fun e=>(.inl e.1,.int e.2)
theorem encT_any (T:List (Int × Int)) (k:Int):(encT T).any (fun kv=>decide (kv.1=.inl k))=T.any fun e=>decide (e.1=k):=by
 unfold encT
 rw [List.any_map]
 congr 1
 funext e
 show decide ((Sum.inl e.1:KD)=.inl k)=decide (e.1=k)
 rw [decide_eq_decide]
 exact ⟨Sum.inl.inj,fun h=>by rw [h]⟩
theorem encT_put (T:List (Int × Int)) (k c:Int):putD (encT T) (.inl k) (.int c)=encT (pT T k c):=by
 unfold putD pT
 rw [encT_any]
 cases T.any fun e=>decide (e.1=k) with
 | true=>
  rw [if_pos rfl,if_pos rfl]
  unfold encT
  rw [List.map_map,List.map_map]
  refine List.map_congr_left fun e _=>?_
  simp only [Function.comp]
  by_cases h:e.1=k
  ·rw [if_pos (by rw [h]),if_pos h]
  ·rw [if_neg (fun z=>h (Sum.inl.inj z)),if_neg h]
 | false=>
  rw [if_neg Bool.false_ne_true,if_neg Bool.false_ne_true]
  simp [encT]
theorem encT_get (T:List (Int × Int)) (k:Int):(getK (encT T) (.inl k)).getD (.int 0)=.int (gT T k):=by
 unfold getK gT encT
 rw [List.find?_map]
 have e:((fun kv:KD × D=>decide (kv.1=.inl k)) ∘ fun e:Int × Int=>((.inl e.1:KD),D.int e.2))=fun e=>decide (e.1=k):=by
  funext e
  show decide ((Sum.inl e.1:KD)=.inl k)=decide (e.1=k)
  rw [decide_eq_decide]
  exact ⟨Sum.inl.inj,fun h=>by rw [h]⟩
 rw [e]
 cases T.find? fun e=>decide (e.1=k) <;> rfl
theorem encT_some (T:List (Int × Int)) (k:Int):(getK (encT T) (.inl k)).isSome=true↔∃ e ∈ T,e.1=k:=by
 rw [getK_some,encT_any,List.any_eq_true]
 constructor
 ·rintro ⟨e,he,h⟩; exact ⟨e,he,of_decide_eq_true h⟩
 ·rintro ⟨e,he,h⟩; exact ⟨e,he,decide_eq_true h⟩
def dAt (S:Sto) (n:Nat) (T:List (Int × Int)):Prop:=S[n]?=some (.dic (encT T)) ∨ S[n]?=some (.fdic (encT T))
theorem dAt.dic {S:Sto} {n:Nat} {T:List (Int × Int)} (h:dAt S n T):dicOf S (.ref n)=some (encT T):=by
 rcases h with h | h <;> simp [dicOf,h]
theorem dAt.seq {S:Sto} {n:Nat} {T:List (Int × Int)} (h:dAt S n T):seqOf S (.ref n)=none:=by
 rcases h with h | h <;> simp [seqOf,h]
theorem dAt.lt {S:Sto} {n:Nat} {T:List (Int × Int)} (h:dAt S n T):n < S.length:=by
 rcases h with h | h <;> exact (List.getElem?_eq_some_iff.mp h).1
abbrev stI:SM:=(sSeq (sSet 7 (eOp oAdd (eVar 4) (eOp oMul (eVar 6) (eVar 1)))) (sPut fPutD (eOp oAdd (eGet2 (eVar 3) (eVar 7) (eC (.int 0))) (eVar 5)) (eVar 3) (eVar 7)))
abbrev stO:SM:=(sFor (aSeq (eVar 2) itSeq) (.nm 6) (sSeq (sSet 7 (eOp oAdd (eVar 4) (eOp oMul (eVar 6) (eVar 1)))) (sPut fPutD (eOp oAdd (eGet2 (eVar 3) (eVar 7) (eC (.int 0))) (eVar 5)) (eVar 3) (eVar 7))))
abbrev tofB:SM:=(sSet 2 (eCall F_stepped (aCons (eVar 2) (aCons (eVar 3) (aCons (eVar 1) aNil)))))
theorem sml {q:Int} (h:-1≤q∧q≤1):smallI q:=⟨by omega,by omega⟩
theorem stI_ok {S:Sto} {m:Nat} {W:List (Int × Int)} {x w c q:Int} (hq:-1≤q∧q≤1) (hm:S[m]?=some (.dic (encT W))) (hz:W.length < 1000) (r0 r2 r7:Option D):
  stI [r0,some (.int x),r2,some (.ref m),some (.int w),some (.int c),some (.int q),r7] S=.ok (.nx [r0,some (.int x),r2,some (.ref m),some (.int w),some (.int c),some (.int q),some (.int (w + q * x))]) (S.set m (.dic (encT (pT W (w + q * x) (gT W (w + q * x) + c))))):=by
 have hd:dicOf S (.ref m)=some (encT W):=by simp [dicOf,hm]
 have z:(1000:Nat)≤sizeLine:=by decide
 refine (sSeq_go (sSet_go (eOp_go (eVar_go rfl) (eOp_go (eVar_go rfl) (eVar_go rfl) (oMul_i (.inl (sml hq)))) rfl))).trans ?_
 have hg:eGet2 (eVar 3) (eVar 7) (eC (.int 0)) [r0,some (.int x),r2,some (.ref m),some (.int w),some (.int c),some (.int q),some (.int (w + q * x))] S=.ok (.int (gT W (w + q * x))) S:=by
  rw [← encT_get]
  exact eGet2_go (eVar_go rfl) hd (eVar_go rfl) rfl hd rfl
 refine sPut_go (eOp_go hg (eVar_go rfl) rfl) (eVar_go rfl) (eVar_go rfl) ?_
 have h1:isDic S (.ref m)=true:=by simp [isDic,hm]
 unfold fPutD
 rw [if_pos h1]
 unfold fPutK
 simp only [hm,keyD]
 rw [if_pos (by simp [encT]; omega),encT_put]
theorem stI_loop {x w c:Int} (r0 r2:Option D) {m:Nat}:∀ (K:List Int) (S:Sto) (W L:List (Int × Int)) (r6 r7:Option D),(∀ q ∈ K,-1≤q∧q≤1)→S[m]?=some (.dic (encT W))→HistC W L→L.length + K.length≤1000→
  ∃ (W':List (Int × Int)) (r6' r7':Option D),forL (.nm 6) stI (K.map .int) [r0,some (.int x),r2,some (.ref m),some (.int w),some (.int c),r6,r7] S=.ok (.nx [r0,some (.int x),r2,some (.ref m),some (.int w),some (.int c),r6',r7']) (S.set m (.dic (encT W')))∧HistC W' (L ++ K.map fun q=>(w + q * x,c))
 | [],S,W,L,r6,r7,_,hm,h,_=>⟨W,r6,r7,by
  have hml:m < S.length:=(List.getElem?_eq_some_iff.mp hm).1
  have:S.set m (.dic (encT W))=S:=by
   have e:=(List.getElem?_eq_some_iff.mp hm).2
   rw [← e]; exact List.set_getElem_self hml
  rw [this]; rfl,by simpa using h⟩
 | q :: K,S,W,L,r6,r7,hK,hm,h,hz=>by
  rw [List.length_cons] at hz
  have hml:m < S.length:=(List.getElem?_eq_some_iff.mp hm).1
  have e1:=stI_ok (S:=S) (x:=x) (w:=w) (c:=c) (hK q (.head _)) hm (by have:=h.len; omega) r0 r2 r7
  obtain ⟨W',a6,a7,e2,h2⟩:=stI_loop r0 r2 K (S.set m (.dic (encT (pT W (w + q * x) (gT W (w + q * x) + c))))) (pT W (w + q * x) (gT W (w + q * x) + c)) (L ++ [(w + q * x,c)]) (some (.int q)) (some (.int (w + q * x))) (fun q hq=>hK q (.tail _ hq)) (List.getElem?_set_self hml) (h.put (w + q * x) c) (by simp; omega)
  rw [List.set_set] at e2
  refine ⟨W',a6,a7,(forL_cons (r1:=[r0,some (.int x),r2,some (.ref m),some (.int w),some (.int c),some (.int q),r7]) rfl e1).trans e2,?_⟩
  rw [List.map_cons]
  simpa using h2
theorem stO_loop {K:List Int} {x:Int} (hK:∀ q ∈ K,-1≤q∧q≤1) (r0:Option D) {m:Nat}:∀ (T:List (Int × Int)) (S:Sto) (W L:List (Int × Int)) (r4 r5 r6 r7:Option D),S[m]?=some (.dic (encT W))→HistC W L→L.length + T.length * K.length≤1000→
  ∃ (W':List (Int × Int)) (r4' r5' r6' r7':Option D),forL (.tp [.nm 4,.nm 5]) stO ((encT T).map pairD) [r0,some (.int x),some (tupI K),some (.ref m),r4,r5,r6,r7] S=.ok (.nx [r0,some (.int x),some (tupI K),some (.ref m),r4',r5',r6',r7']) (S.set m (.dic (encT W')))∧HistC W' (L ++ putsOf K x T)
 | [],S,W,L,r4,r5,r6,r7,hm,h,_=>⟨W,r4,r5,r6,r7,by
  have hml:m < S.length:=(List.getElem?_eq_some_iff.mp hm).1
  have:S.set m (.dic (encT W))=S:=by
   have e:=(List.getElem?_eq_some_iff.mp hm).2
   rw [← e]; exact List.set_getElem_self hml
  rw [this]; rfl,by simpa [putsOf] using h⟩
 | e :: T,S,W,L,r4,r5,r6,r7,hm,h,hz=>by
  have hm2:(e :: T).length * K.length=T.length * K.length + K.length:=by rw [List.length_cons,Nat.succ_mul]
  have hml:m < S.length:=(List.getElem?_eq_some_iff.mp hm).1
  obtain ⟨W1,a6,a7,e1,h1⟩:=stI_loop (x:=x) (w:=e.1) (c:=e.2) r0 (some (tupI K)) K S W L r6 r7 hK hm h (by omega)
  obtain ⟨W2,b4,b5,b6,b7,e2,h2⟩:=stO_loop hK r0 T (S.set m (.dic (encT W1))) W1 (L ++ K.map fun q=>(e.1 + q * x,e.2)) (some (.int e.1)) (some (.int e.2)) a6 a7 (List.getElem?_set_self hml) h1 (by rw [List.length_append,List.length_map]; omega)
  rw [List.set_set] at e2
  refine ⟨W2,b4,b5,b6,b7,?_,?_⟩
  ·show forL _ _ (pairD (.inl e.1,.int e.2) :: (encT T).map pairD) _ _=_
   exact (forL_cons (r1:=[r0,some (.int x),some (tupI K),some (.ref m),some (.int e.1),some (.int e.2),r6,r7]) rfl ((sFor_seq (eVar_go rfl) rfl).trans e1)).trans e2
  ·have:putsOf K x (e :: T)=(K.map fun q=>(e.1 + q * x,e.2)) ++ putsOf K x T:=by simp [putsOf]
   rw [this,← List.append_assoc]
   exact h2
theorem items_go {S:Sto} {n:Nat} {T:List (Int × Int)} {ρ:Rho} {i:Nat} (hi:ρ[i]?=some (some (.ref n))) (h:dAt S n T):aItems (eVar i) ρ S=.ok ((encT T).map pairD) (S.set n (.fdic (encT T))):=by
 unfold aItems
 rw [eVar_go hi,R.bind_ok]
 rcases h with h | h
 ·simp only [h]
 ·simp only [h]
  have hnl:n < S.length:=(List.getElem?_eq_some_iff.mp h).1
  have:S.set n (.fdic (encT T))=S:=by
   have e:=(List.getElem?_eq_some_iff.mp h).2
   rw [← e]; exact List.set_getElem_self hnl
  rw [this]
theorem stepped_ok {K:List Int} {x:Int} {S:Sto} {n:Nat} {T:List (Int × Int)} {f:List Int} (hK:∀ q ∈ K,-1≤q∧q≤1) (hd:dAt S n T) (h:Hist T f) (hz:f.length * K.length≤1000):
  ∃ T':List (Int × Int),F_stepped [.ref n,.int x,tupI K] S=.ok (.ref S.length) (S.set n (.fdic (encT T)) ++ [.dic (encT T')])∧Hist T' (fS K x f):=by
 have hnl:=hd.lt
 have hd':dAt (S ++ [.dic []]) n T:=by
  unfold dAt
  rw [List.getElem?_append_left hnl]
  exact hd
 have hle:T.length * K.length≤f.length * K.length:=Nat.mul_le_mul_right _ h.len
 have e0:(S ++ [SO.dic []]).set n (.fdic (encT T))=S.set n (.fdic (encT T)) ++ [.dic []]:=List.set_append_left _ _ hnl
 obtain ⟨T',a4,a5,a6,a7,e1,h1⟩:=stO_loop (x:=x) hK (some (.ref n)) (m:=S.length) T (S.set n (.fdic (encT T)) ++ [.dic []]) [] [] none none none none (by simp [encT]) HistC.nil (by simp; omega)
 have e2:(S.set n (.fdic (encT T)) ++ [SO.dic []]).set S.length (.dic (encT T'))=S.set n (.fdic (encT T)) ++ [.dic (encT T')]:=by
  rw [List.set_append_right _ _ (by simp)]; simp
 rw [e2] at e1
 refine ⟨T',?_,h.step (by simpa using h1)⟩
 exact fnM_rt (ρ:=[some (.ref n),some (.int x),some (tupI K),none,none,none,none,none]) rfl ((sSeq_go (S1:=S ++ [.dic []]) (sSet_go rfl)).trans ((sSeq_go (r1:=[some (.ref n),some (.int x),some (tupI K),some (.ref S.length),a4,a5,a6,a7]) ((sFor_go (items_go rfl hd')).trans (by rw [e0]; exact e1))).trans (sRet_go (eVar_go rfl))))
structure Pre (S0 S:Sto):Prop where
 old:∀ i,i < S0.length→S[i]?=S0[i]?
 len:S0.length≤S.length
theorem Pre.trans {S0 S1 S2:Sto} (a:Pre S0 S1) (b:Pre S1 S2):Pre S0 S2:=⟨fun i h=>(b.old i (Nat.lt_of_lt_of_le h a.len)).trans (a.old i h),Nat.le_trans a.len b.len⟩
theorem Pre.app (S l:Sto):Pre S (S ++ l):=⟨fun i h=>List.getElem?_append_left h,by simp⟩
theorem Pre.set {S0 S:Sto} (p:Pre S0 S) {n:Nat} (h:S0.length≤n) (o:SO):Pre S0 (S.set n o):=⟨fun i hi=>by rw [List.getElem?_set_ne (by omega)]; exact p.old i hi,by rw [List.length_set]; exact p.len⟩
theorem Pre.gr {b:Nat} {S0 S:Sto} (g:Gr b S0 S0) (p:Pre S0 S):Gr b S0 S:=by
 obtain ⟨n,hn⟩:=g.bx
 have hb:b < S0.length:=(List.getElem?_eq_some_iff.mp hn).1
 exact ⟨⟨n,by rw [p.old b hb]; exact hn⟩,fun i _ hl=>p.old i hl,p.len⟩
theorem dAt.set {S:Sto} {r n:Nat} {o:SO} {T:List (Int × Int)} (h:dAt S r T) (hn:n ≠ r):dAt (S.set n o) r T:=by
 unfold dAt
 rw [List.getElem?_set_ne hn]
 exact h
def fold (K:List Int) (xs:List Int) (f:List Int):List Int:=xs.foldl (fun f x=>fS K x f) f
theorem fold_ws (K:List Int):∀ (xs pre:List Int),fold K xs (wsL K pre)=wsL K (pre ++ xs)
 | [],pre=>by simp [fold]
 | x :: xs,pre=>by
  have:=fold_ws K xs (pre ++ [x])
  rw [wsL_snoc,List.append_assoc] at this
  exact this
theorem bd_step {K:List Int} (hK:K.length≤3) {n r:Nat} (h:n * 3 ^ (r + 1)≤729):n * K.length≤1000∧n * K.length * 3 ^ r≤729:=by
 have h1:n * K.length≤n * 3:=Nat.mul_le_mul_left _ hK
 have h2:1≤3 ^ r:=Nat.one_le_pow _ _ (by decide)
 have h3:n * K.length * 3 ^ r≤n * 3 * 3 ^ r:=Nat.mul_le_mul_right _ h1
 have h4:n * 3 * 3 ^ r=n * 3 ^ (r + 1):=by rw [Nat.pow_succ,Nat.mul_assoc,Nat.mul_comm 3]
 have h5:n * 3 * 1≤n * 3 * 3 ^ r:=Nat.mul_le_mul_left _ h2
 omega
theorem tof_loop {K:List Int} (hK:K.length≤3) (hk:∀ q ∈ K,-1≤q∧q≤1) {S0:Sto} (r0:Option D):∀ (xs:List Int) (S:Sto) (n:Nat) (T:List (Int × Int)) (f:List Int) (r3:Option D),S[n]?=some (.dic (encT T))→Hist T f→f.length * 3 ^ xs.length≤729→S0.length≤n→Pre S0 S→
  ∃ (S':Sto) (n':Nat) (T':List (Int × Int)) (r3':Option D),forL (.nm 3) tofB (xs.map .int) [r0,some (tupI K),some (.ref n),r3] S=.ok (.nx [r0,some (tupI K),some (.ref n'),r3']) S'∧S'[n']?=some (.dic (encT T'))∧S0.length≤n'∧Hist T' (fold K xs f)∧Pre S0 S'
 | [],S,n,T,f,r3,hd,h,_,hn,p=>⟨S,n,T,r3,rfl,hd,hn,h,p⟩
 | x :: xs,S,n,T,f,r3,hd,h,hz,hn,p=>by
  rw [List.length_cons] at hz
  obtain ⟨z1,z2⟩:=bd_step hK hz
  obtain ⟨T1,e1,h1⟩:=stepped_ok (x:=x) hk (.inl hd) h z1
  have p1:Pre S0 (S.set n (.fdic (encT T)) ++ [SO.dic (encT T1)]):=(p.set hn _).trans (Pre.app _ _)
  obtain ⟨S2,n2,T2,a3,e2,d2,dl2,h2,p2⟩:=tof_loop hK hk r0 xs (S.set n (.fdic (encT T)) ++ [SO.dic (encT T1)]) S.length T1 (fS K x f) (some (.int x)) (by simp) h1 (by rw [fS_len]; exact z2) p.len p1
  exact ⟨S2,n2,T2,a3,(forL_cons (r1:=[r0,some (tupI K),some (.ref n),some (.int x)]) rfl (sSet_go ((eCall_go (aCons_go (eVar_go rfl) (aCons_go (eVar_go rfl) (aCons_go (eVar_go rfl) rfl)))).trans e1))).trans e2,d2,dl2,h2,p2⟩
theorem dicN_go {ρ:Rho} {S:Sto}:eDicN [((eC (.int 0)),(eC (.int 1)))] ρ S=.ok (.ref S.length) (S ++ [.dic (encT [(0,1)])]):=rfl
theorem tableof_ok {K xs:List Int} (hK:K.length≤3) (hk:∀ q ∈ K,-1≤q∧q≤1) (h6:xs.length≤6) (S:Sto):∃ (S':Sto) (n:Nat) (T:List (Int × Int)),F_table_of [tupI xs,tupI K] S=.ok (.ref n) S'∧S'[n]?=some (.dic (encT T))∧S.length≤n∧Hist T (wsL K xs)∧Pre S S':=by
 obtain ⟨S',n,T,a3,e,hd,hdl,h,p⟩:=tof_loop hK hk (S0:=S) (some (tupI xs)) xs (S ++ [.dic (encT [(0,1)])]) S.length [(0,1)] [0] none (by simp) Hist.zero (by
  rw [List.length_singleton,Nat.one_mul]
  exact Nat.le_trans (Nat.pow_le_pow_right (by decide) h6) (by decide)) (Nat.le_refl _) (Pre.app _ _)
 have hf:=fold_ws K xs []
 rw [List.nil_append] at hf
 have h0:wsL K []=[0]:=rfl
 rw [h0] at hf
 rw [hf] at h
 exact ⟨S',n,T,fnM_rt (ρ:=[some (tupI xs),some (tupI K),none,none]) rfl ((sSeq_go (sSet_go dicN_go)).trans ((sSeq_go ((sFor_seq (eVar_go rfl) rfl).trans e)).trans (sRet_go (eVar_go rfl)))),hd,hdl,h,p⟩
theorem need_row_ok {xs:List Int} (h:Row xs) (S:Sto):F_need_row [.tup (xs.map .int)] S=.ok .non S:=by
 have e:=isrow_eq (S:=S) h.okay
 rw [h.is] at e
 simp [F_need_row,fnM,m_need_row,sIf,sSkip,tNx,R.nx,PD.tNot,tV,eCall,eVar,aCons,aNil,R.bind,e]
theorem need_row_okX {xs:List Int} (h:Row xs) (S:Sto):F_need_row_n [.tup (xs.map .int)] S=.ok .non S:=by
 have e:=isrow_eq (S:=S) h.okay
 rw [h.is] at e
 simp [F_need_row_n,fnM,m_need_row_n,sIf,sSkip,tNx,R.nx,PD.tNot,tV,eCall,eVar,aCons,aNil,R.bind,e]
abbrev tabB:SM:=(sSeq (sSet 4 (eCall F__law_worth (aCons (eVar 0) (aCons (eVar 3) aNil)))) (sPut fPutD (eOp oAdd (eGet2 (eVar 2) (eVar 4) (eC (.int 0))) (eC (.int 1))) (eVar 2) (eVar 4)))
theorem set_last (S:Sto) (a b:SO):(S ++ [a]).set S.length b=S ++ [b]:=by
 rw [List.set_append_right _ _ (Nat.le_refl _)]; simp
theorem tab_step {xs p:List Int} (hl:p.length=xs.length) (hy:∀ y ∈ p,-1≤y∧y≤1) (h5:xs.length≤1000) {S:Sto} {T L:List (Int × Int)} (h:HistC T L) (hz:L.length < 1000) (r1 r4:Option D):
  ∃ T':List (Int × Int),tabB [some (tupI xs),r1,some (.ref S.length),some (tupI p),r4] (S ++ [.dic (encT T)])=.ok (.nx [some (tupI xs),r1,some (.ref S.length),some (tupI p),some (.int (wor xs p))]) (S ++ [.dic (encT T')])∧HistC T' (L ++ [(wor xs p,1)]):=by
 refine ⟨pT T (wor xs p) (gT T (wor xs p) + 1),?_,h.put _ _⟩
 have hd:dicOf (S ++ [.dic (encT T)]) (.ref S.length)=some (encT T):=by simp [dicOf]
 have z:(1000:Nat)≤sizeLine:=by decide
 have hput:fPutD (S ++ [.dic (encT T)]) (.ref S.length) (.int (wor xs p)) (.int (gT T (wor xs p) + 1))=some (S ++ [.dic (encT (pT T (wor xs p) (gT T (wor xs p) + 1)))]):=by
  have h1:isDic (S ++ [.dic (encT T)]) (.ref S.length)=true:=by simp [isDic]
  have h2:(S ++ [SO.dic (encT T)])[S.length]?=some (.dic (encT T)):=by simp
  unfold fPutD
  rw [if_pos h1]
  unfold fPutK
  simp only [h2,keyD]
  rw [if_pos (by have:=h.len; simp [encT]; omega),set_last,encT_put]
 refine (sSeq_go (sSet_go ((eCall_go (aCons_go (eVar_go rfl) (aCons_go (eVar_go rfl) rfl))).trans (lworth_ok hl hy h5 _)))).trans ?_
 have hg:eGet2 (eVar 2) (eVar 4) (eC (.int 0)) [some (tupI xs),r1,some (.ref S.length),some (tupI p),some (.int (wor xs p))] (S ++ [.dic (encT T)])=.ok (.int (gT T (wor xs p))) (S ++ [.dic (encT T)]):=by
  rw [← encT_get]
  exact eGet2_go (eVar_go rfl) hd (eVar_go rfl) rfl hd rfl
 exact sPut_go (eOp_go hg rfl rfl) (eVar_go rfl) (eVar_go rfl) hput
theorem tab_loop {xs:List Int} (h5:xs.length≤1000) {S:Sto} (r1:Option D):∀ (ps:List (List Int)) (T L:List (Int × Int)) (r3 r4:Option D),(∀ p ∈ ps,p.length=xs.length∧∀ y ∈ p,-1≤y∧y≤1)→HistC T L→L.length + ps.length≤1000→
  ∃ (T':List (Int × Int)) (r3' r4':Option D),forL (.nm 3) tabB (ps.map tupI) [some (tupI xs),r1,some (.ref S.length),r3,r4] (S ++ [.dic (encT T)])=.ok (.nx [some (tupI xs),r1,some (.ref S.length),r3',r4']) (S ++ [.dic (encT T')])∧HistC T' (L ++ ps.map fun p=>(wor xs p,1))
 | [],T,L,r3,r4,_,h,_=>⟨T,r3,r4,rfl,by simpa using h⟩
 | p :: ps,T,L,r3,r4,hp,h,hz=>by
  rw [List.length_cons] at hz
  have hp1:=hp p (.head _)
  obtain ⟨T1,e1,h1⟩:=tab_step hp1.1 hp1.2 h5 (S:=S) h (by omega) r1 r4
  obtain ⟨T2,y3,y4,e2,h2⟩:=tab_loop h5 (S:=S) r1 ps T1 (L ++ [(wor xs p,1)]) (some (tupI p)) (some (.int (wor xs p))) (fun q hq=>hp q (.tail _ hq)) h1 (by simp; omega)
  refine ⟨T2,y3,y4,(forL_cons (r1:=[some (tupI xs),r1,some (.ref S.length),some (tupI p),r4]) rfl e1).trans e2,?_⟩
  rw [List.map_cons]
  simpa using h2
theorem hist_of {T:List (Int × Int)} {f:List Int} (h:HistC T (f.map fun w=>(w,1))):Hist T f:=by
 refine ⟨h.keys,fun v=>?_,fun g=>?_,by have:=h.len; simpa using this⟩
 ·rw [h.mem v]
  constructor
  ·rintro ⟨e,he,rfl⟩
   obtain ⟨x,hx,rfl⟩:=List.mem_map.mp he
   exact hx
  ·intro hv
   exact ⟨(v,1),List.mem_map.mpr ⟨v,hv,rfl⟩,rfl⟩
 ·rw [h.sum g]
  unfold sumH
  rw [List.map_map]
  congr 1
  refine List.map_congr_left fun w _=>?_
  simp
theorem ltable_ok {K xs:List Int} (hK:K.length≤3) (hk:∀ q ∈ K,-1≤q∧q≤1) (h6:xs.length≤6) (S:Sto):∃ T:List (Int × Int),F__law_table [tupI xs,tupI K] S=.ok (.ref S.length) (S ++ [.dic (encT T)])∧Hist T (wsL K xs):=by
 have hall:(allL K xs.length).length≤729:=by
  rw [allL_len]
  have a1:K.length ^ xs.length≤3 ^ xs.length:=Nat.pow_le_pow_left hK _
  have a2:3 ^ xs.length≤3 ^ 6:=Nat.pow_le_pow_right (by decide) h6
  exact Nat.le_trans a1 (Nat.le_trans a2 (by decide))
 obtain ⟨T,r3,r4,e,h⟩:=tab_loop (xs:=xs) (by omega) (S:=S) (some (tupI K)) (allL K xs.length) [] [] none none (fun p hp=>by
  obtain ⟨a,b⟩:=(allL_mem _ p).mp hp
  exact ⟨a,fun y hy=>hk y (b y hy)⟩) HistC.nil (by simp; omega)
 refine ⟨T,?_,hist_of ?_⟩
 ·refine fnM_rt (ρ:=[some (tupI xs),some (tupI K),none,none,none]) rfl ((sSeq_go (S1:=S ++ [.dic []]) (sSet_go rfl)).trans ((sSeq_go ((sFor_seq ((eCall_go (aCons_go (eB_go (aCons_go (eVar_go rfl) rfl) (z:=.int xs.length) ?_) (aCons_go (eVar_go rfl) rfl))).trans (all_eq hK h6)) rfl).trans e)).trans (sRet_go (eVar_go rfl))))
  show some (D.int ((xs.map D.int).length:Int))=_
  rw [List.length_map]
 ·rw [List.nil_append] at h
  unfold wsL
  rw [List.map_map]
  exact h
def pairsT (A B:List (Int × Int)):List (Int × Int):=A.flatMap fun e=>B.map fun d=>(e.1 + d.1,e.2 * d.2)
theorem pairs_mem {T A B:List (Int × Int)} {f g:List Int} (h:HistC T (pairsT A B)) (hA:Hist A f) (hB:Hist B g) (v:Int):(∃ e ∈ T,e.1=v)↔∃ x ∈ f,∃ y ∈ g,x + y=v:=by
 rw [h.mem]
 constructor
 ·rintro ⟨e,he,rfl⟩
  obtain ⟨a,ha,he⟩:=List.mem_flatMap.mp he
  obtain ⟨b,hb,rfl⟩:=List.mem_map.mp he
  exact ⟨a.1,(hA.mem _).mp ⟨a,ha,rfl⟩,b.1,(hB.mem _).mp ⟨b,hb,rfl⟩,rfl⟩
 ·rintro ⟨x,hx,y,hy,rfl⟩
  obtain ⟨a,ha,rfl⟩:=(hA.mem x).mpr hx
  obtain ⟨b,hb,rfl⟩:=(hB.mem y).mpr hy
  exact ⟨_,List.mem_flatMap.mpr ⟨a,ha,List.mem_map.mpr ⟨b,hb,rfl⟩⟩,rfl⟩
theorem wor_app:∀ (xs ys p q:List Int),p.length=xs.length→wor (xs ++ ys) (p ++ q)=wor xs p + wor ys q
 | [],ys,[],q,_=>by show wor ys q=0 + wor ys q; omega
 | x :: xs,ys,r :: p,q,h=>by
  show x * r + wor (xs ++ ys) (p ++ q)=x * r + wor xs p + wor ys q
  rw [wor_app xs ys p q (by simpa using h)]; omega
 | [],_,_ :: _,_,h=>by cases h
 | _ :: _,_,[],_,h=>by cases h
theorem all_split {K:List Int} {a b:Nat} {p:List Int}:p ∈ allL K (a + b)↔∃ q r,p=q ++ r∧q ∈ allL K a∧r ∈ allL K b:=by
 constructor
 ·intro h
  obtain ⟨h1,h2⟩:=(allL_mem _ p).mp h
  exact ⟨p.take a,p.drop a,(List.take_append_drop a p).symm,(allL_mem _ _).mpr ⟨by rw [List.length_take,h1]; omega,fun y hy=>h2 y (List.mem_of_mem_take hy)⟩,(allL_mem _ _).mpr ⟨by rw [List.length_drop,h1]; omega,fun y hy=>h2 y (List.mem_of_mem_drop hy)⟩⟩
 ·rintro ⟨q,r,rfl,hq,hr⟩
  obtain ⟨q1,q2⟩:=(allL_mem _ q).mp hq
  obtain ⟨r1,r2⟩:=(allL_mem _ r).mp hr
  refine (allL_mem _ _).mpr ⟨by rw [List.length_append,q1,r1],fun y hy=>?_⟩
  rcases List.mem_append.mp hy with hy | hy
  ·exact q2 y hy
  ·exact r2 y hy
theorem ws_app {K xs ys:List Int} {v:Int}:(∃ x ∈ wsL K xs,∃ y ∈ wsL K ys,x + y=v)↔Wo K (xs ++ ys) v:=by
 rw [Wo_all,List.length_append]
 constructor
 ·rintro ⟨x,hx,y,hy,rfl⟩
  obtain ⟨p,hp,rfl⟩:=List.mem_map.mp hx
  obtain ⟨q,hq,rfl⟩:=List.mem_map.mp hy
  exact ⟨p ++ q,all_split.mpr ⟨p,q,rfl,hp,hq⟩,wor_app xs ys p q ((allL_mem _ _).mp hp).1⟩
 ·rintro ⟨p,hp,rfl⟩
  obtain ⟨q,r,rfl,hq,hr⟩:=all_split.mp hp
  exact ⟨_,List.mem_map.mpr ⟨q,hq,rfl⟩,_,List.mem_map.mpr ⟨r,hr,rfl⟩,(wor_app xs ys q r ((allL_mem _ _).mp hq).1).symm⟩
theorem eSl_go {f:Sto→D→Option Int→Option Int→Option D} {a:EM} {lo hi:OM} {r:Rho} {S S1 S2 S3:Sto} {x z:D} {l u:Option Int} (h1:a r S=.ok x S1) (h2:lo r S1=.ok l S2) (h3:hi r S2=.ok u S3) (h4:f S3 x l u=some z):eSl f a lo hi r S=.ok z S3:=by unfold eSl; rw [h1,R.bind_ok,h2,R.bind_ok,h3,R.bind_ok,h4]; rfl
theorem oPart_go {a:EM} {r:Rho} {S S1:Sto} {i:Int} (h:a r S=.ok (.int i) S1):oPart a r S=.ok (some i) S1:=by unfold oPart; rw [h,R.bind_ok]
theorem cut_take (xs:List D) (m:Nat) (h:m≤xs.length):PD.cutD xs none (some (m:Int))=xs.take m:=by
 unfold PD.cutD
 have e1:HT.sIx xs.length 0 none=0:=rfl
 have e2:HT.sIx xs.length xs.length (some (m:Int))=m:=by
  rw [HT.sIx_nat]; exact Nat.min_eq_left h
 rw [e1,e2]; simp
theorem cut_drop (xs:List D) (m:Nat) (h:m≤xs.length):PD.cutD xs (some (m:Int)) none=xs.drop m:=by
 unfold PD.cutD
 have e1:HT.sIx xs.length xs.length none=xs.length:=rfl
 have e2:HT.sIx xs.length 0 (some (m:Int))=m:=by
  rw [HT.sIx_nat]; exact Nat.min_eq_left h
 rw [e1,e2,List.take_of_length_le (by rw [List.length_drop]; omega)]
abbrev halvesM:FM:=fnM 2 (sSeq (sSet 1 (eOp oFdiv (eB fLen (aCons (eVar 0) aNil)) (eC (.int 2)))) (sRet (eTup (aCons (eSl fSlT (eVar 0) oNo (oPart (eVar 1))) (aCons (eSl fSlT (eVar 0) (oPart (eVar 1)) oNo) aNil)))))
theorem halves_ok (xs:List Int) (S:Sto):halvesM [tupI xs] S=.ok (.tup [tupI (xs.take (xs.length / 2)),tupI (xs.drop (xs.length / 2))]) S:=by
 have z2:(2:Nat)≤sizeLine:=by decide
 have hm:xs.length / 2≤(xs.map D.int).length:=by rw [List.length_map]; omega
 have hl:fLen S [tupI xs]=some (.int xs.length):=by
  show some (D.int ((xs.map D.int).length:Int))=_
  rw [List.length_map]
 have hd:oFdiv S (.int xs.length) (.int 2)=some (.int ((xs.length / 2:Nat):Int)):=by
  show (if (0:Int) < 2∧(2:Int) < 1073741824 then some (D.int ((xs.length:Int) / 2)) else none)=_
  rw [if_pos (by decide)]
  rfl
 have h1:fSlT S (tupI xs) none (some ((xs.length / 2:Nat):Int))=some (tupI (xs.take (xs.length / 2))):=by
  show some (D.tup (PD.cutD (xs.map .int) _ _))=_
  rw [cut_take _ _ hm,← List.map_take]
 have h2:fSlT S (tupI xs) (some ((xs.length / 2:Nat):Int)) none=some (tupI (xs.drop (xs.length / 2))):=by
  show some (D.tup (PD.cutD (xs.map .int) _ _))=_
  rw [cut_drop _ _ hm,← List.map_drop]
 exact fnM_rt (ρ:=[some (tupI xs),none]) rfl ((sSeq_go (sSet_go (eOp_go (eB_go (aCons_go (eVar_go rfl) rfl) hl) rfl hd))).trans (sRet_go (eTup_go (aCons_go (eSl_go (eVar_go rfl) rfl (oPart_go (eVar_go rfl)) h1) (aCons_go (eSl_go (eVar_go rfl) (oPart_go (eVar_go rfl)) rfl h2) rfl)) z2)))
theorem gT_mem {T:List (Int × Int)} (h:Keys T) {e:Int × Int} (he:e ∈ T):gT T e.1=e.2:=by
 induction T with
 | nil=>cases he
 | cons d T ih=>
  obtain ⟨h1,h2⟩:=List.pairwise_cons.mp h
  rw [gT_cons]
  rcases List.mem_cons.mp he with rfl | he
  ·rw [if_pos rfl]
  ·rw [if_neg (h1 e he)]
   exact ih h2 he
theorem ixD_ok {S:Sto} {n:Nat} {T:List (Int × Int)} (h:dAt S n T) (hk:Keys T) {e:Int × Int} (he:e ∈ T):oIxD S (.ref n) (.int e.1)=some (.int e.2):=by
 have hs:(getK (encT T) (.inl e.1)).isSome=true:=(encT_some T e.1).mpr ⟨e,he,rfl⟩
 have hg:=encT_get T e.1
 rw [gT_mem hk he] at hg
 cases hq:getK (encT T) (.inl e.1) with
 | none=>rw [hq] at hs; cases hs
 | some d=>
  rw [hq] at hg
  unfold oIxD
  rw [h.seq]
  simp only [Option.isSome_none,Bool.false_eq_true,if_false]
  unfold oGet
  simp only [h.dic,keyD]
  rw [hq]
  exact congrArg some hg
theorem keys_go {S:Sto} {n:Nat} {T:List (Int × Int)} {ρ:Rho} {i:Nat} (hi:ρ[i]?=some (some (.ref n))) (h:dAt S n T):aKeys (eVar i) ρ S=.ok (T.map fun e=>D.int e.1) (S.set n (.fdic (encT T))):=by
 have hm:((encT T).map fun kv=>kD kv.1)=T.map fun e=>D.int e.1:=by
  unfold encT
  rw [List.map_map]; rfl
 unfold aKeys
 rw [eVar_go hi,R.bind_ok]
 rcases h with h | h
 ·simp only [h,hm]
 ·simp only [h,hm]
  have hnl:n < S.length:=(List.getElem?_eq_some_iff.mp h).1
  have:S.set n (.fdic (encT T))=S:=by
   have e:=(List.getElem?_eq_some_iff.mp h).2
   rw [← e]; exact List.set_getElem_self hnl
  rw [this]
theorem ws_len (K xs:List Int):(wsL K xs).length=K.length ^ xs.length:=by
 unfold wsL
 rw [List.length_map,allL_len]
theorem small_hist {T:List (Int × Int)} {f:List Int} (h:Hist T f) (hf:f.length≤1000):∀ e ∈ T,smallI e.2:=fun e he=>by
 have e1:=gT_mem h.keys he
 rw [h.get] at e1
 have:=List.length_filter_le (fun y=>decide (y=e.1)) f
 rw [← e1]
 exact ⟨by omega,by omega⟩
theorem sNx_ok' {a:SM} {r:Rho} {S S1:Sto} {f:F} (h:a r S=.ok f S1):sNx a r S=.ok f S1:=by unfold sNx; rw [h]; rfl
theorem comp2 {e:EM} {it:AM} {ρ:Rho} {S S1 S2 S3:Sto} {x y u v:D} (hi:it ρ S=.ok [x,y] S1) (h1:e [some x] S1=.ok u S2) (h2:e [some y] S2=.ok v S3):eComp it 1 [] (.nm 0) tTrue e ρ S=.ok (.lst [u,v]) S3:=by
 have z2:(2:Nat)≤sizeLine:=by decide
 unfold eComp
 rw [hi,R.bind_ok,if_pos (show [x,y].length≤sizeLine from z2)]
 have:capOf 1 [] ρ = [none]:=rfl
 rw [this]
 simp only [compL,G.put,List.set_cons_zero,tTrue,R.bind_ok,if_true,h1,h2]
theorem sum_bdd {c:Int}:∀ {xs:List Int},(∀ x ∈ xs,x≤c)→xs.sum≤xs.length * c
 | [],_=>by simp
 | x :: xs,h=>by
  have h1:=h x (.head _)
  have h2:=sum_bdd (xs:=xs) fun y hy=>h y (.tail _ hy)
  rw [List.sum_cons,List.length_cons,Int.natCast_add,Int.add_mul]
  omega
abbrev cI:SM:=(sPut fPutD (eOp oAdd (eGet2 (eVar 5) (eOp oAdd (eVar 6) (eVar 7)) (eC (.int 0))) (eOp oMul (eOp oIxD (eVar 3) (eVar 6)) (eOp oIxD (eVar 4) (eVar 7)))) (eVar 5) (eOp oAdd (eVar 6) (eVar 7)))
abbrev cO:SM:=(sFor (aKeys (eVar 4)) (.nm 7) (sPut fPutD (eOp oAdd (eGet2 (eVar 5) (eOp oAdd (eVar 6) (eVar 7)) (eC (.int 0))) (eOp oMul (eOp oIxD (eVar 3) (eVar 6)) (eOp oIxD (eVar 4) (eVar 7)))) (eVar 5) (eOp oAdd (eVar 6) (eVar 7))))
theorem cI_ok {S:Sto} {a b c:Nat} {A B T:List (Int × Int)} (ha:dAt S a A) (hb:dAt S b B) (hc:S[c]?=some (.dic (encT T))) (kA:Keys A) (kB:Keys B) {e d:Int × Int} (he:e ∈ A) (hd:d ∈ B) (hs:smallI e.2) (hz:T.length < 3000) (r0 r1 r2:Option D):
  cI [r0,r1,r2,some (.ref a),some (.ref b),some (.ref c),some (.int e.1),some (.int d.1)] S=.ok (.nx [r0,r1,r2,some (.ref a),some (.ref b),some (.ref c),some (.int e.1),some (.int d.1)]) (S.set c (.dic (encT (pT T (e.1 + d.1) (gT T (e.1 + d.1) + e.2 * d.2))))):=by
 have hdi:dicOf S (.ref c)=some (encT T):=by simp [dicOf,hc]
 have z:(3000:Nat)≤sizeLine:=by decide
 have hg:eGet2 (eVar 5) (eOp oAdd (eVar 6) (eVar 7)) (eC (.int 0)) [r0,r1,r2,some (.ref a),some (.ref b),some (.ref c),some (.int e.1),some (.int d.1)] S=.ok (.int (gT T (e.1 + d.1))) S:=by
  rw [← encT_get]
  exact eGet2_go (eVar_go rfl) hdi (eOp_go (eVar_go rfl) (eVar_go rfl) rfl) rfl hdi rfl
 refine sPut_go (eOp_go hg (eOp_go (eOp_go (eVar_go rfl) (eVar_go rfl) (ixD_ok ha kA he)) (eOp_go (eVar_go rfl) (eVar_go rfl) (ixD_ok hb kB hd)) (oMul_i (.inl hs))) rfl) (eVar_go rfl) (eOp_go (eVar_go rfl) (eVar_go rfl) rfl) ?_
 have h1:isDic S (.ref c)=true:=by simp [isDic,hc]
 unfold fPutD
 rw [if_pos h1]
 unfold fPutK
 simp only [hc,keyD]
 rw [if_pos (by simp [encT]; omega),encT_put]
theorem cI_loop {a b c:Nat} {A B:List (Int × Int)} (kA:Keys A) (kB:Keys B) (hca:c ≠ a) (hcb:c ≠ b) {e:Int × Int} (he:e ∈ A) (hs:smallI e.2) (r0 r1 r2:Option D):∀ (l:List (Int × Int)) (S:Sto) (T L:List (Int × Int)) (r7:Option D),(∀ d ∈ l,d ∈ B)→dAt S a A→dAt S b B→S[c]?=some (.dic (encT T))→HistC T L→L.length + l.length≤2000→
  ∃ (T':List (Int × Int)) (r7':Option D),forL (.nm 7) cI (l.map fun d=>D.int d.1) [r0,r1,r2,some (.ref a),some (.ref b),some (.ref c),some (.int e.1),r7] S=.ok (.nx [r0,r1,r2,some (.ref a),some (.ref b),some (.ref c),some (.int e.1),r7']) (S.set c (.dic (encT T')))∧HistC T' (L ++ l.map fun d=>(e.1 + d.1,e.2 * d.2))
 | [],S,T,L,r7,_,_,_,hc,h,_=>⟨T,r7,by
  have hcl:c < S.length:=(List.getElem?_eq_some_iff.mp hc).1
  have:S.set c (.dic (encT T))=S:=by
   have e:=(List.getElem?_eq_some_iff.mp hc).2
   rw [← e]; exact List.set_getElem_self hcl
  rw [this]; rfl,by simpa using h⟩
 | d :: l,S,T,L,r7,hl,ha,hb,hc,h,hz=>by
  rw [List.length_cons] at hz
  have hcl:c < S.length:=(List.getElem?_eq_some_iff.mp hc).1
  have e1:=cI_ok ha hb hc kA kB he (hl d (.head _)) hs (by have:=h.len; omega) r0 r1 r2
  obtain ⟨T',a7,e2,h2⟩:=cI_loop kA kB hca hcb he hs r0 r1 r2 l (S.set c (.dic (encT (pT T (e.1 + d.1) (gT T (e.1 + d.1) + e.2 * d.2))))) _ (L ++ [(e.1 + d.1,e.2 * d.2)]) (some (.int d.1)) (fun x hx=>hl x (.tail _ hx)) (ha.set hca) (hb.set hcb) (List.getElem?_set_self hcl) (h.put _ _) (by simp; omega)
  rw [List.set_set] at e2
  refine ⟨T',a7,(forL_cons (r1:=[r0,r1,r2,some (.ref a),some (.ref b),some (.ref c),some (.int e.1),some (.int d.1)]) rfl e1).trans e2,?_⟩
  rw [List.map_cons]
  simpa using h2
theorem dAt.frz {S:Sto} {n:Nat} {T:List (Int × Int)} (h:dAt S n T):dAt (S.set n (.fdic (encT T))) n T:=.inr (List.getElem?_set_self h.lt)
theorem cO_loop {S0:Sto} {a b c:Nat} {A B:List (Int × Int)} (kA:Keys A) (kB:Keys B) (hca:c ≠ a) (hcb:c ≠ b) (hab:b ≠ a) (hb0:S0.length≤b) (hc0:S0.length≤c) (hs:∀ e ∈ A,smallI e.2) (r0 r1 r2:Option D):∀ (l:List (Int × Int)) (S:Sto) (T L:List (Int × Int)) (r6 r7:Option D),(∀ e ∈ l,e ∈ A)→dAt S a A→dAt S b B→S[c]?=some (.dic (encT T))→Pre S0 S→HistC T L→L.length + l.length * B.length≤2000→
  ∃ (S':Sto) (T':List (Int × Int)) (r6' r7':Option D),forL (.nm 6) cO (l.map fun d=>D.int d.1) [r0,r1,r2,some (.ref a),some (.ref b),some (.ref c),r6,r7] S=.ok (.nx [r0,r1,r2,some (.ref a),some (.ref b),some (.ref c),r6',r7']) S'∧S'[c]?=some (.dic (encT T'))∧Pre S0 S'∧HistC T' (L ++ pairsT l B)
 | [],S,T,L,r6,r7,_,_,_,hc,p,h,_=>⟨S,T,r6,r7,rfl,hc,p,by simpa [pairsT] using h⟩
 | e :: l,S,T,L,r6,r7,hl,ha,hb,hc,p,h,hz=>by
  have hm2:(e :: l).length * B.length=l.length * B.length + B.length:=by rw [List.length_cons,Nat.succ_mul]
  have hcl:c < S.length:=(List.getElem?_eq_some_iff.mp hc).1
  have hc1:(S.set b (.fdic (encT B)))[c]?=some (.dic (encT T)):=by rw [List.getElem?_set_ne (Ne.symm hcb)]; exact hc
  obtain ⟨T1,a7,e1,h1⟩:=cI_loop (B:=B) kA kB hca hcb (hl e (.head _)) (hs e (hl e (.head _))) r0 r1 r2 B (S.set b (.fdic (encT B))) T L r7 (fun d hd=>hd) (ha.set hab) hb.frz hc1 h (by omega)
  obtain ⟨S2,T2,b6,b7,e2,d2,p2,h2⟩:=cO_loop kA kB hca hcb hab hb0 hc0 hs r0 r1 r2 l ((S.set b (.fdic (encT B))).set c (.dic (encT T1))) T1 (L ++ B.map fun d=>(e.1 + d.1,e.2 * d.2)) (some (.int e.1)) a7 (fun x hx=>hl x (.tail _ hx)) ((ha.set hab).set hca) (hb.frz.set hcb) (List.getElem?_set_self (by rw [List.length_set]; exact hcl)) ((p.set hb0 _).set hc0 _) h1 (by rw [List.length_append,List.length_map]; omega)
  refine ⟨S2,T2,b6,b7,?_,d2,p2,?_⟩
  ·exact (forL_cons (r1:=[r0,r1,r2,some (.ref a),some (.ref b),some (.ref c),some (.int e.1),r7]) rfl ((sFor_go (keys_go rfl hb)).trans e1)).trans e2
  ·have:pairsT (e :: l) B=(B.map fun d=>(e.1 + d.1,e.2 * d.2)) ++ pairsT l B:=by simp only [pairsT,List.flatMap_cons]
   rw [this,← List.append_assoc]
   exact h2
theorem counts_ok {xs:List Int} (h10:xs.length≤10) (S:Sto):∃ (S':Sto) (c:Nat) (T A B:List (Int × Int)),F__law_counts [tupI xs] S=.ok (.ref c) S'∧S'[c]?=some (.dic (encT T))∧Pre S S'∧S.length≤c∧HistC T (pairsT A B)∧Hist A (wsL KS (xs.take (xs.length / 2)))∧Hist B (wsL KS (xs.drop (xs.length / 2))):=by
 have z2:(2:Nat)≤sizeLine:=by decide
 have hk:∀ q ∈ KS,-1≤q∧q≤1:=by decide
 have hl1:(xs.take (xs.length / 2)).length≤5:=by rw [List.length_take]; omega
 have hl2:(xs.drop (xs.length / 2)).length≤5:=by rw [List.length_drop]; omega
 obtain ⟨A,eA,hA⟩:=ltable_ok (K:=KS) (xs:=xs.take (xs.length / 2)) (by decide) hk (by omega) S
 obtain ⟨B,eB,hB⟩:=ltable_ok (K:=KS) (xs:=xs.drop (xs.length / 2)) (by decide) hk (by omega) (S ++ [.dic (encT A)])
 have hkt:∀ (ρ:Rho) (S:Sto),eTup (aCons (eUn oNeg (eC (.int 1))) (aCons (eC (.int 1)) aNil)) ρ S=.ok (tupI KS) S:=fun ρ S=>eTup_go (xs:=[.int (-1),.int 1]) (aCons_go rfl (aCons_go rfl rfl)) z2
 have bnd:∀ ys:List Int,ys.length≤5→(wsL KS ys).length≤32:=fun ys h=>by
  rw [ws_len]
  exact Nat.le_trans (Nat.pow_le_pow_right (by decide) h) (by decide)
 have lA:A.length≤32:=Nat.le_trans hA.len (bnd _ hl1)
 have lB:B.length≤32:=Nat.le_trans hB.len (bnd _ hl2)
 have hS3:(S ++ [SO.dic (encT A)] ++ [SO.dic (encT B)]).length=S.length + 2:=by simp
 have ha:dAt (S ++ [SO.dic (encT A)] ++ [SO.dic (encT B)] ++ [SO.dic []]) S.length A:=.inl (by simp)
 have hb:dAt ((S ++ [SO.dic (encT A)] ++ [SO.dic (encT B)] ++ [SO.dic []]).set S.length (.fdic (encT A))) (S ++ [SO.dic (encT A)]).length B:=by
  refine dAt.set (.inl ?_) (by simp)
  simp
 have hc:((S ++ [SO.dic (encT A)] ++ [SO.dic (encT B)] ++ [SO.dic []]).set S.length (.fdic (encT A)))[S.length + 2]?=some (.dic (encT [])):=by
  rw [List.getElem?_set_ne (by omega)]
  simp [encT]
 have p0:Pre S ((S ++ [SO.dic (encT A)] ++ [SO.dic (encT B)] ++ [SO.dic []]).set S.length (.fdic (encT A))):=Pre.set (by rw [List.append_assoc,List.append_assoc]; exact Pre.app _ _) (Nat.le_refl _) _
 have hmul:A.length * B.length≤32 * 32:=Nat.mul_le_mul lA lB
 obtain ⟨S',T,a6,a7,e,hd,p,h⟩:=cO_loop (S0:=S) (a:=S.length) (b:=(S ++ [SO.dic (encT A)]).length) (c:=S.length + 2) hA.keys hB.keys (by omega) (by simp) (by simp) (by simp) (by omega) (small_hist hA (by have:=bnd _ hl1; omega)) (some (tupI xs)) (some (tupI (xs.take (xs.length / 2)))) (some (tupI (xs.drop (xs.length / 2)))) A _ [] [] none none (fun e he=>he) ha.frz hb hc p0 HistC.nil (by simp; omega)
 refine ⟨S',S.length + 2,T,A,B,?_,hd,p,by omega,by simpa using h,hA,hB⟩
 have hh:sAsg (.tp [(.nm 1),(.nm 2)]) (eCall F__law_halves (aCons (eVar 0) aNil)) [some (tupI xs),none,none,none,none,none,none,none] S=.ok (.nx [some (tupI xs),some (tupI (xs.take (xs.length / 2))),some (tupI (xs.drop (xs.length / 2))),none,none,none,none,none]) S:=by
  unfold sAsg
  rw [(eCall_go (aCons_go (eVar_go rfl) rfl)).trans (show F__law_halves [tupI xs] S=_ from halves_ok xs S),R.bind_ok]
  rfl
 have hp:sPar 3 4 (aCons (eCall F__law_table (aCons (eVar 1) (aCons (eTup (aCons (eUn oNeg (eC (.int 1))) (aCons (eC (.int 1)) aNil))) aNil))) (aCons (eCall F__law_table (aCons (eVar 2) (aCons (eTup (aCons (eUn oNeg (eC (.int 1))) (aCons (eC (.int 1)) aNil))) aNil))) aNil)) [some (tupI xs),some (tupI (xs.take (xs.length / 2))),some (tupI (xs.drop (xs.length / 2))),none,none,none,none,none] S=.ok (.nx [some (tupI xs),some (tupI (xs.take (xs.length / 2))),some (tupI (xs.drop (xs.length / 2))),some (.ref S.length),some (.ref (S ++ [SO.dic (encT A)]).length),none,none,none]) (S ++ [SO.dic (encT A)] ++ [SO.dic (encT B)]):=by
  unfold sPar
  rw [aCons_go ((eCall_go (aCons_go (eVar_go rfl) (aCons_go (hkt _ _) rfl))).trans eA) (aCons_go ((eCall_go (aCons_go (eVar_go rfl) (aCons_go (hkt _ _) rfl))).trans eB) rfl),R.bind_ok]
  rfl
 have hde:sSet 5 eDicE [some (tupI xs),some (tupI (xs.take (xs.length / 2))),some (tupI (xs.drop (xs.length / 2))),some (.ref S.length),some (.ref (S ++ [SO.dic (encT A)]).length),none,none,none] (S ++ [SO.dic (encT A)] ++ [SO.dic (encT B)])=.ok (.nx [some (tupI xs),some (tupI (xs.take (xs.length / 2))),some (tupI (xs.drop (xs.length / 2))),some (.ref S.length),some (.ref (S ++ [SO.dic (encT A)]).length),some (.ref (S.length + 2)),none,none]) (S ++ [SO.dic (encT A)] ++ [SO.dic (encT B)] ++ [SO.dic []]):=by
  rw [← hS3]
  exact sSet_go rfl
 exact fnM_rt (ρ:=[some (tupI xs),none,none,none,none,none,none,none]) rfl ((sSeq_go hh).trans ((sSeq_go hp).trans ((sSeq_go hde).trans ((sSeq_go ((sFor_go (keys_go rfl ha)).trans e)).trans (sRet_go (eVar_go rfl))))))
theorem need_rn_ok {xs:List Int} (h:Row xs) (v:Int) (S:Sto):F_need_row_and_number [tupI xs,.int v] S=.ok .non S:=by
 have e2:F_need_number [.int v] S=.ok .non S:=by
  have e:=whole_eq (d:=.int v) (S:=S) rfl
  have e':isI (.int v)=true:=rfl
  rw [e'] at e
  simp [F_need_number,fnM,m_need_number,sIf,sSkip,tNx,R.nx,PD.tNot,tV,eCall,eVar,aCons,aNil,R.bind,e]
 refine fnM_nx (ρ:=[some (tupI xs),some (.int v)]) rfl ((sSeq_go (sDrop_go ((eCall_go (aCons_go (eVar_go rfl) rfl)).trans (need_row_ok h S)))).trans (sDrop_go ((eCall_go (aCons_go (eVar_go rfl) rfl)).trans e2)))
theorem intsOf_map':∀ xs:List Int,intsOf (xs.map .int)=some xs
 | []=>rfl
 | x :: xs=>by rw [List.map_cons,intsOf,intsOf_map' xs]; rfl
def wlk (A B:List Int) (v:Int):Nat→Nat→Nat→List (Nat × Nat × Int)
 | 0,_,_=>[]
 | n + 1,i,j=>if i < A.length∧1≤j then (i,j - 1,A.getD i 0 + B.getD (j - 1) 0) :: (if A.getD i 0 + B.getD (j - 1) 0 < v then wlk A B v n (i + 1) j else wlk A B v n i (j - 1)) else []
theorem rise {A:List Int} (h:A.Pairwise (· ≤ ·)) {i j:Nat} (hij:i≤j) (hj:j < A.length):A.getD i 0≤A.getD j 0:=by
 have hi:i < A.length:=by omega
 rw [List.getD_eq_getElem?_getD,List.getD_eq_getElem?_getD,List.getElem?_eq_getElem hi,List.getElem?_eq_getElem hj]
 by_cases e:i=j
 ·subst e; exact Int.le_refl _
 ·exact List.pairwise_iff_getElem.mp h i j hi hj (by omega)
theorem walk_least {A B:List Int} {v:Int} (hA:A.Pairwise (· ≤ ·)) (hB:B.Pairwise (· ≤ ·)) {p q:Nat} (hp:p < A.length) (hq:q < B.length) (hv:v≤A.getD p 0 + B.getD q 0)
  (hm:∀ x y,x < A.length→y < B.length→v≤A.getD x 0 + B.getD y 0→A.getD p 0 + B.getD q 0≤A.getD x 0 + B.getD y 0):
  ∀ (n i j:Nat),(A.length - i) + j≤n→i≤p→q < j→j≤B.length→∃ e ∈ wlk A B v n i j,e.2.2=A.getD p 0 + B.getD q 0
 | 0,i,j,h,h1,h2,_=>by omega
 | n + 1,i,j,h,h1,h2,h3=>by
  unfold wlk
  rw [if_pos ⟨by omega,by omega⟩]
  by_cases hlt:A.getD i 0 + B.getD (j - 1) 0 < v
  ·rw [if_pos hlt]
   by_cases e:i=p
   ·subst e
    have:=rise hB (i:=q) (j:=j - 1) (by omega) (by omega)
    omega
   ·obtain ⟨x,hx,e2⟩:=walk_least hA hB hp hq hv hm n (i + 1) j (by omega) (by omega) h2 h3
    exact ⟨x,.tail _ hx,e2⟩
  ·rw [if_neg hlt]
   by_cases e:j - 1=q
   ·rw [e] at hlt ⊢
    refine ⟨_,.head _,?_⟩
    have a1:=rise hA h1 hp
    have a2:=hm i q (by omega) hq (by omega)
    show A.getD i 0 + B.getD q 0=_
    omega
   ·obtain ⟨x,hx,e2⟩:=walk_least hA hB hp hq hv hm n i (j - 1) (by omega) h1 (by omega) (by omega)
    exact ⟨x,.tail _ hx,e2⟩
theorem walk_great {A B:List Int} {v:Int} (hA:A.Pairwise (· ≤ ·)) (hB:B.Pairwise (· ≤ ·)) {p q:Nat} (hp:p < A.length) (hq:q < B.length) (hv:A.getD p 0 + B.getD q 0≤v)
  (hm:∀ x y,x < A.length→y < B.length→A.getD x 0 + B.getD y 0≤v→A.getD x 0 + B.getD y 0≤A.getD p 0 + B.getD q 0):
  ∀ (n i j:Nat),(A.length - i) + j≤n→i≤p→q < j→j≤B.length→∃ e ∈ wlk A B v n i j,e.2.2=A.getD p 0 + B.getD q 0
 | 0,i,j,h,h1,h2,_=>by omega
 | n + 1,i,j,h,h1,h2,h3=>by
  unfold wlk
  rw [if_pos ⟨by omega,by omega⟩]
  by_cases hlt:A.getD i 0 + B.getD (j - 1) 0 < v
  ·rw [if_pos hlt]
   by_cases e:i=p
   ·subst e
    refine ⟨_,.head _,?_⟩
    have a1:=rise hB (i:=q) (j:=j - 1) (by omega) (by omega)
    have a2:=hm i (j - 1) (by omega) (by omega) (by omega)
    show A.getD i 0 + B.getD (j - 1) 0=_
    omega
   ·obtain ⟨x,hx,e2⟩:=walk_great hA hB hp hq hv hm n (i + 1) j (by omega) (by omega) h2 h3
    exact ⟨x,.tail _ hx,e2⟩
  ·rw [if_neg hlt]
   by_cases e:j - 1=q
   ·rw [e] at hlt ⊢
    refine ⟨_,.head _,?_⟩
    have a1:=rise hA h1 hp
    show A.getD i 0 + B.getD q 0=_
    omega
   ·obtain ⟨x,hx,e2⟩:=walk_great hA hB hp hq hv hm n i (j - 1) (by omega) h1 (by omega) (by omega)
    exact ⟨x,.tail _ hx,e2⟩
theorem walk_mem {A B:List Int} {v:Int}:∀ (n i j:Nat),j≤B.length→∀ e ∈ wlk A B v n i j,∃ x y,x < A.length∧y < B.length∧e=(x,y,A.getD x 0 + B.getD y 0)
 | 0,_,_,_,e,he=>by cases he
 | n + 1,i,j,hj,e,he=>by
  unfold wlk at he
  by_cases h:i < A.length∧1≤j
  ·rw [if_pos h] at he
   rcases List.mem_cons.mp he with rfl | he
   ·exact ⟨i,j - 1,h.1,by omega,rfl⟩
   ·by_cases hlt:A.getD i 0 + B.getD (j - 1) 0 < v
    ·rw [if_pos hlt] at he; exact walk_mem n (i + 1) j hj e he
    ·rw [if_neg hlt] at he; exact walk_mem n i (j - 1) (by omega) e he
  ·rw [if_neg h] at he; cases he
theorem walk_len {A B:List Int} {v:Int}:∀ (n i j:Nat),(wlk A B v n i j).length≤n
 | 0,_,_=>Nat.le_refl _
 | n + 1,i,j=>by
  unfold wlk
  split
  ·rw [List.length_cons]
   split
   ·have:=walk_len (A:=A) (B:=B) (v:=v) n (i + 1) j; omega
   ·have:=walk_len (A:=A) (B:=B) (v:=v) n i (j - 1); omega
  ·simp
theorem idx_of {A:List Int} {x:Int} (h:x ∈ A):∃ p,p < A.length∧A.getD p 0=x:=by
 obtain ⟨p,hp,e⟩:=List.mem_iff_getElem.mp h
 exact ⟨p,hp,by rw [List.getD_eq_getElem?_getD,List.getElem?_eq_getElem hp]; exact e⟩
theorem getD_mem' {A:List Int} {p:Nat} (h:p < A.length):A.getD p 0 ∈ A:=by
 rw [List.getD_eq_getElem?_getD,List.getElem?_eq_getElem h]
 exact List.getElem_mem h
def sumsL (A B:List Int):List Int:=A.flatMap fun x=>B.map fun y=>x + y
theorem mem_sums {A B:List Int} {s:Int}:s ∈ sumsL A B↔∃ x ∈ A,∃ y ∈ B,x + y=s:=by
 simp [sumsL]
theorem least_of {l:List Int} {s:Int} (h:s ∈ l):∃ m ∈ l,∀ x ∈ l,m≤x:=by
 match l,h with
 | a :: r,_=>
  obtain ⟨⟨h1,h2⟩,h3⟩:=minZ_le r a
  refine ⟨minZ a r,?_,fun x hx=>?_⟩
  ·rcases h3 with e | e
   ·rw [e]; exact .head _
   ·exact .tail _ e
  ·rcases List.mem_cons.mp hx with rfl | hx
   ·exact h1
   ·exact h2 x hx
theorem above_walk {A B:List Int} {v:Int} (hA:A.Pairwise (· ≤ ·)) (hB:B.Pairwise (· ≤ ·)) {x y:Int} (hx:x ∈ A) (hy:y ∈ B) (h:v≤x + y):∃ e ∈ wlk A B v (A.length + B.length) 0 B.length,v≤e.2.2∧e.2.2≤x + y:=by
 have hs:x + y ∈ (sumsL A B).filter fun s=>decide (v≤s):=List.mem_filter.mpr ⟨mem_sums.mpr ⟨x,hx,y,hy,rfl⟩,by simpa using h⟩
 obtain ⟨m,hm,hle⟩:=least_of hs
 obtain ⟨hm1,hm2⟩:=List.mem_filter.mp hm
 obtain ⟨a,ha,b,hb,rfl⟩:=mem_sums.mp hm1
 obtain ⟨p,hp,rfl⟩:=idx_of ha
 obtain ⟨q,hq,rfl⟩:=idx_of hb
 have hv:v≤A.getD p 0 + B.getD q 0:=by simpa using hm2
 obtain ⟨e,he,ee⟩:=walk_least hA hB hp hq hv (fun i j hi hj hij=>hle _ (List.mem_filter.mpr ⟨mem_sums.mpr ⟨_,getD_mem' hi,_,getD_mem' hj,rfl⟩,by simpa using hij⟩)) (A.length + B.length) 0 B.length (by omega) (Nat.zero_le _) hq (Nat.le_refl _)
 exact ⟨e,he,by rw [ee]; exact hv,by rw [ee]; exact hle _ hs⟩
def eW (e:Nat × Nat × Int):D:=.tup [.int e.1,.int e.2.1,.int e.2.2]
theorem tAnd_t {a b:TM} {r:Rho} {S S1:Sto} (h:a r S=.ok true S1):PD.tAnd a b r S=b r S1:=by unfold PD.tAnd; rw [h,R.bind_ok]; exact if_pos rfl
theorem tAnd_f {a b:TM} {r:Rho} {S S1:Sto} (h:a r S=.ok false S1):PD.tAnd a b r S=.ok false S1:=by unfold PD.tAnd; rw [h,R.bind_ok]; exact if_neg Bool.false_ne_true
abbrev wkT:TM:=(PD.tAnd (tV (eOp oLt (eVar 4) (eB fLen (aCons (eOp oIx (eVar 2) (eC (.int 0))) aNil)))) (tV (eOp oGe (eVar 5) (eC (.int 0)))))
abbrev wkB:SM:=(sSeq (sSet 6 (eOp oAdd (eOp oIx (eOp oIx (eVar 2) (eC (.int 0))) (eVar 4)) (eOp oIx (eOp oIx (eVar 2) (eC (.int 1))) (eVar 5)))) (sSeq (sDrop (eMtL mAppend (eVar 3) (aCons (eTup (aCons (eVar 4) (aCons (eVar 5) (aCons (eVar 6) aNil)))) aNil))) (sIf (tV (eOp oLt (eVar 6) (eVar 1))) (sSet 4 (eOp oAdd (eVar 4) (eC (.int 1)))) (sSet 5 (eOp oSub (eVar 5) (eC (.int 1)))))))
theorem ix_tup {S:Sto} {A:List Int} {i:Nat} (h:i < A.length):oIx S (tupI A) (.int (i:Int))=some (.int (A.getD i 0)):=by
 show atI (A.map D.int) (i:Int)=_
 rw [atI_nat' (by rw [List.length_map]; exact h),List.getD_eq_getElem?_getD,List.getElem?_eq_getElem h]; simp
theorem len_tup {S:Sto} {A:List Int}:fLen S [tupI A]=some (.int A.length):=by
 show some (D.int ((A.map D.int).length:Int))=_
 rw [List.length_map]
theorem wk_test {A B:List Int} {v:Int} (r0 r3 r6:Option D) (i j:Nat) (S:Sto):wkT [r0,some (.int v),some (.tup [tupI A,tupI B]),r3,some (.int i),some (.int ((j:Int) - 1)),r6] S=.ok (decide (i < A.length∧1≤j)) S:=by
 have h1:tV (eOp oLt (eVar 4) (eB fLen (aCons (eOp oIx (eVar 2) (eC (.int 0))) aNil))) [r0,some (.int v),some (.tup [tupI A,tupI B]),r3,some (.int i),some (.int ((j:Int) - 1)),r6] S=.ok (decide ((i:Int) < A.length)) S:=
  tV_go (eOp_go (eVar_go rfl) (eB_go (aCons_go (eOp_go (x:=.tup [tupI A,tupI B]) (eVar_go rfl) rfl rfl) rfl) len_tup) rfl)
 have h2:tV (eOp oGe (eVar 5) (eC (.int 0))) [r0,some (.int v),some (.tup [tupI A,tupI B]),r3,some (.int i),some (.int ((j:Int) - 1)),r6] S=.ok (decide ((j:Int) - 1 ≥ 0)) S:=tV_go (eOp_go (eVar_go rfl) rfl rfl)
 by_cases g:i < A.length
 ·rw [decide_eq_true (show (i:Int) < A.length by omega)] at h1
  rw [show wkT=PD.tAnd _ _ from rfl,tAnd_t h1,h2]
  congr 1
  rw [decide_eq_decide]
  omega
 ·rw [decide_eq_false (show ¬ (i:Int) < A.length by omega)] at h1
  rw [show wkT=PD.tAnd _ _ from rfl,tAnd_f h1,decide_eq_false (by omega)]
def WkC (A B:List Int) (v:Int) (r0:Option D) (m n:Nat):Prop:=∀ (i j:Nat) (S:Sto) (w:List D) (r6:Option D),(A.length - i) + j≤n→j≤B.length→S[m]?=some (.lst w)→w.length + n≤1000→
  ∃ r4 r5 r6':Option D,whileL wkT wkB (n + 1) [r0,some (.int v),some (.tup [tupI A,tupI B]),some (.ref m),some (.int i),some (.int ((j:Int) - 1)),r6] S=.ok (.nx [r0,some (.int v),some (.tup [tupI A,tupI B]),some (.ref m),r4,r5,r6']) (S.set m (.lst (w ++ (wlk A B v n i j).map eW)))
theorem wk_step {A B:List Int} {v:Int} (r0:Option D) {m n:Nat} (ih:∀ k,n=k + 1→WkC A B v r0 m k):WkC A B v r0 m n:=fun i j S w r6 h1 h2 hm hz=>by
  have hml:m < S.length:=(List.getElem?_eq_some_iff.mp hm).1
  have same:S.set m (.lst w)=S:=by
   have e:=(List.getElem?_eq_some_iff.mp hm).2
   rw [← e]; exact List.set_getElem_self hml
  have ht:=wk_test (A:=A) (B:=B) (v:=v) r0 (some (.ref m)) r6 i j S
  by_cases g:i < A.length∧1≤j
  ·rw [decide_eq_true g] at ht
   obtain ⟨k,rfl⟩:∃ k,n=k + 1:=⟨n - 1,by omega⟩
   have z3:(3:Nat)≤sizeLine:=by decide
   have z:(1000:Nat)≤sizeLine:=by decide
   have hj:((j:Int) - 1)=((j - 1:Nat):Int):=by omega
   have hL:isL S (.ref m)=true:=by simp [isL,hm]
   -- the body,up to its last choice
   have hb:∀ (k1:SM),sSeq (sSet 6 (eOp oAdd (eOp oIx (eOp oIx (eVar 2) (eC (.int 0))) (eVar 4)) (eOp oIx (eOp oIx (eVar 2) (eC (.int 1))) (eVar 5)))) (sSeq (sDrop (eMtL mAppend (eVar 3) (aCons (eTup (aCons (eVar 4) (aCons (eVar 5) (aCons (eVar 6) aNil)))) aNil))) k1) [r0,some (.int v),some (.tup [tupI A,tupI B]),some (.ref m),some (.int i),some (.int ((j - 1:Nat):Int)),r6] S
     = k1 [r0,some (.int v),some (.tup [tupI A,tupI B]),some (.ref m),some (.int i),some (.int ((j - 1:Nat):Int)),some (.int (A.getD i 0 + B.getD (j - 1) 0))] (S.set m (.lst (w ++ [eW (i,j - 1,A.getD i 0 + B.getD (j - 1) 0)]))):=fun k1=>by
    refine (sSeq_go (sSet_go (eOp_go (eOp_go (eOp_go (x:=.tup [tupI A,tupI B]) (eVar_go rfl) rfl rfl) (eVar_go rfl) (ix_tup g.1)) (eOp_go (eOp_go (x:=.tup [tupI A,tupI B]) (eVar_go rfl) rfl rfl) (eVar_go rfl) (ix_tup (by omega))) rfl))).trans (sSeq_go (sDrop_go (d:=.non) ((eMtL_go (ys:=[eW (i,j - 1,A.getD i 0 + B.getD (j - 1) 0)]) (eVar_go rfl) hL (aCons_go (eTup_go (xs:=[.int i,.int ((j - 1:Nat):Int),.int (A.getD i 0 + B.getD (j - 1) 0)]) rfl z3) rfl)).trans ?_)))
    unfold mAppend
    simp only [hm]
    rw [if_pos (by omega)]
   unfold whileL
   rw [ht,R.bind_ok,if_pos rfl,hj,show wkB=sSeq _ (sSeq _ _) from rfl,hb]
   have hw:wlk A B v (k + 1) i j=(i,j - 1,A.getD i 0 + B.getD (j - 1) 0) :: (if A.getD i 0 + B.getD (j - 1) 0 < v then wlk A B v k (i + 1) j else wlk A B v k i (j - 1)):=by
    rw [wlk,if_pos g]
   rw [hw]
   have hm':(S.set m (.lst (w ++ [eW (i,j - 1,A.getD i 0 + B.getD (j - 1) 0)])))[m]?=some (.lst (w ++ [eW (i,j - 1,A.getD i 0 + B.getD (j - 1) 0)])):=List.getElem?_set_self hml
   by_cases hlt:A.getD i 0 + B.getD (j - 1) 0 < v
   ·obtain ⟨r4,r5,r6',e⟩:=ih k rfl (i + 1) j _ _ (some (.int (A.getD i 0 + B.getD (j - 1) 0))) (by omega) h2 hm' (by simp; omega)
    refine ⟨r4,r5,r6',?_⟩
    rw [if_pos hlt,(sIf_t (tV_go (eOp_go (eVar_go rfl) (eVar_go rfl) (congrArg (fun b=>some (D.bl b)) (decide_eq_true hlt))))).trans (sSet_go (eOp_go (eVar_go rfl) rfl rfl)),R.bind_ok]
    rw [hj,List.set_set,List.append_assoc] at e
    exact e
   ·obtain ⟨r4,r5,r6',e⟩:=ih k rfl i (j - 1) _ _ (some (.int (A.getD i 0 + B.getD (j - 1) 0))) (by omega) (by omega) hm' (by simp; omega)
    refine ⟨r4,r5,r6',?_⟩
    rw [if_neg hlt,(sIf_f (tV_go (eOp_go (eVar_go rfl) (eVar_go rfl) (congrArg (fun b=>some (D.bl b)) (decide_eq_false hlt))))).trans (sSet_go (eOp_go (eVar_go rfl) rfl rfl)),R.bind_ok]
    rw [List.set_set,List.append_assoc] at e
    exact e
  ·rw [decide_eq_false g] at ht
   have hw:wlk A B v n i j=[]:=by
    cases n with
    | zero=>rfl
    | succ n=>rw [wlk,if_neg g]
   refine ⟨some (.int i),some (.int ((j:Int) - 1)),r6,?_⟩
   unfold whileL
   rw [ht,R.bind_ok,if_neg Bool.false_ne_true,hw,List.map_nil,List.append_nil,same]
theorem wk_loop {A B:List Int} {v:Int} (r0:Option D) {m:Nat}:∀ n:Nat,WkC A B v r0 m n
 | 0=>wk_step r0 fun _ e=>Nat.noConfusion e
 | n + 1=>wk_step r0 fun k e=>(Nat.succ.inj e) ▸ wk_loop r0 n
theorem idok {a:SM} {r:Rho} {S S1:Sto} {f:F} (h:a r S=.ok f S1):a r S=.ok f S1:=h
theorem tNx_ok' {a:TM} {r:Rho} {S S1:Sto} {b:Bool} (h:a r S=.ok b S1):a r S=.ok b S1:=h
theorem kints_enc:∀ T:List (Int × Int),kints (encT T)=some (T.map (·.1))
 | []=>rfl
 | e :: T=>by
  show (kints (encT T)).map (e.1 :: ·)=_
  rw [kints_enc T]; rfl
def wsS (T:List (Int × Int)):List Int:=sortZ (T.map (·.1))
theorem srt_ok {S:Sto} {n:Nat} {T:List (Int × Int)} (h:dAt S n T) (hz:T.length≤1000):fSrt S [.ref n]=some (.lst ((wsS T).map .int)):=by
 have z:(1000:Nat)≤sizeLine:=by decide
 show (match srtOf S (.ref n) with | some ns=>if ns.length≤sizeLine then some (D.lst ((sortZ ns).map .int)) else none | none=>none)=_
 have e:srtOf S (.ref n)=some (T.map (·.1)):=by
  unfold srtOf
  rw [h.seq]
  simp only [h.dic,kints_enc]
 rw [e]
 dsimp only
 rw [if_pos (by rw [List.length_map]; omega)]
 rfl
theorem srt_big {S:Sto} {n:Nat} {T:List (Int × Int)} (h:dAt S n T) (hz:T.length≤3000):fSrt S [.ref n]=some (.lst ((wsS T).map .int)):=by
 have z:(3000:Nat)≤sizeLine:=by decide
 show (match srtOf S (.ref n) with | some ns=>if ns.length≤sizeLine then some (D.lst ((sortZ ns).map .int)) else none | none=>none)=_
 have e:srtOf S (.ref n)=some (T.map (·.1)):=by
  unfold srtOf
  rw [h.seq]
  simp only [h.dic,kints_enc]
 rw [e]
 dsimp only
 rw [if_pos (by rw [List.length_map]; omega)]
 rfl
theorem wsS_mem {T:List (Int × Int)} {f:List Int} (h:Hist T f) (w:Int):w ∈ wsS T↔w ∈ f:=by
 unfold wsS
 rw [(sortZ_perm _).mem_iff,List.mem_map,← h.mem w]
theorem wsS_len (T:List (Int × Int)):(wsS T).length=T.length:=by unfold wsS; rw [(sortZ_perm _).length_eq,List.length_map]
theorem tup_lst {S:Sto} {l:List D}:fTuple S [.lst l]=some (.tup l):=rfl
theorem hw_ok {xs:List Int} (h12:xs.length≤12) (hr:Row xs) (S:Sto):∃ (S':Sto) (A B:List (Int × Int)),F_half_worths_n [tupI xs] S=.ok (.tup [tupI (wsS A),tupI (wsS B)]) S'∧Pre S S'∧Hist A (wsL KS (xs.take (xs.length / 2)))∧Hist B (wsL KS (xs.drop (xs.length / 2)))∧A.length≤64∧B.length≤64:=by
 have hk:∀ q ∈ KS,-1≤q∧q≤1:=by decide
 have hl1:(xs.take (xs.length / 2)).length≤6:=by rw [List.length_take]; omega
 have hl2:(xs.drop (xs.length / 2)).length≤6:=by rw [List.length_drop]; omega
 have bnd:∀ ys:List Int,ys.length≤6→(wsL KS ys).length≤64:=fun ys h=>by
  rw [ws_len]
  exact Nat.le_trans (Nat.pow_le_pow_right (by decide) h) (by decide)
 obtain ⟨S1,a,A,tA,dA,la,hA,pA⟩:=tableof_ok (K:=KS) (xs:=xs.take (xs.length / 2)) (by decide) hk (by omega) S
 obtain ⟨S2,b,B,tB,dB,lb,hB,pB⟩:=tableof_ok (K:=KS) (xs:=xs.drop (xs.length / 2)) (by decide) hk (by omega) S1
 have lA:A.length≤64:=Nat.le_trans hA.len (bnd _ hl1)
 have lB:B.length≤64:=Nat.le_trans hB.len (bnd _ hl2)
 refine ⟨S2,A,B,?_,pA.trans pB,hA,hB,lA,lB⟩
 have hc:eComp (aSeq (eCall F_halves_of (aCons (eVar 0) aNil)) itSeq) 1 [] (.nm 0) tTrue (eB fTuple (aCons (eB fSrt (aCons (eCall F_table_of (aCons (eVar 0) (aCons (eC (.tup (([(-1),(1)]:List Int).map .int))) aNil))) aNil)) aNil)) [some (tupI xs)] S=.ok (.lst [tupI (wsS A),tupI (wsS B)]) S2:=
  comp2 (S1:=S) (by unfold aSeq; rw [(eCall_go (aCons_go (eVar_go rfl) rfl)).trans (show F_halves_of [tupI xs] S=_ from halves_ok xs S),R.bind_ok]; rfl)
   (eB_go (aCons_go (eB_go (aCons_go ((eCall_go (aCons_go (eVar_go rfl) (aCons_go rfl rfl))).trans tA) rfl) (srt_ok (.inl dA) (by omega))) rfl) tup_lst)
   (eB_go (aCons_go (eB_go (aCons_go ((eCall_go (aCons_go (eVar_go rfl) (aCons_go rfl rfl))).trans tB) rfl) (srt_ok (.inl dB) (by omega))) rfl) tup_lst)
 exact fnM_rt (ρ:=[some (tupI xs)]) rfl ((sSeq_go (sDrop_go ((eCall_go (aCons_go (eVar_go rfl) rfl)).trans (need_row_okX hr S)))).trans (idok (sRet_go (eB_go (aCons_go hc rfl) tup_lst))))
abbrev wkL (A B:List (Int × Int)) (v:Int):List (Nat × Nat × Int):=wlk (wsS A) (wsS B) v ((wsS A).length + (wsS B).length) 0 (wsS B).length
theorem walk_ok {xs:List Int} (h12:xs.length≤12) (hr:Row xs) (v:Int) (S:Sto):∃ (S':Sto) (m:Nat) (A B:List (Int × Int)),F_walk_n [tupI xs,.int v] S=.ok (.ref m) S'∧S'[m]?=some (.lst ((wkL A B v).map eW))∧Pre S S'∧Hist A (wsL KS (xs.take (xs.length / 2)))∧Hist B (wsL KS (xs.drop (xs.length / 2)))∧(wkL A B v).length≤128∧S.length≤m:=by
 obtain ⟨S1,A,B,e1,p1,hA,hB,lA,lB⟩:=hw_ok h12 hr S
 have hlen:(wsS A).length + (wsS B).length≤128:=by rw [wsS_len,wsS_len]; omega
 obtain ⟨r4,r5,r6,e2⟩:=wk_loop (A:=wsS A) (B:=wsS B) (v:=v) (some (tupI xs)) (m:=S1.length) ((wsS A).length + (wsS B).length) 0 (wsS B).length (S1 ++ [.lst []]) [] none (by omega) (Nat.le_refl _) (by simp) (by simp; omega)
 have hset:(S1 ++ [SO.lst []]).set S1.length (.lst ([] ++ (wkL A B v).map eW))=S1 ++ [.lst ((wkL A B v).map eW)]:=by simp
 refine ⟨S1 ++ [.lst ((wkL A B v).map eW)],S1.length,A,B,?_,by simp,p1.trans (Pre.app _ _),hA,hB,Nat.le_trans (walk_len _ _ _) hlen,p1.len⟩
 have e3:sWh wkT wkB [some (tupI xs),some (.int v),some (.tup [tupI (wsS A),tupI (wsS B)]),some (.ref S1.length),some (.int ((0:Nat):Int)),some (.int (((wsS B).length:Int) - 1)),none] (S1 ++ [.lst []])=.ok (.nx [some (tupI xs),some (.int v),some (.tup [tupI (wsS A),tupI (wsS B)]),some (.ref S1.length),r4,r5,r6]) (S1 ++ [.lst ((wkL A B v).map eW)]):=by
  rw [sWh_eq _ (by rw [e2]; exact fun z=>by cases z),e2,hset]
 refine fnM_rt (ρ:=[some (tupI xs),some (.int v),none,none,none,none,none]) rfl ?_
 refine (sSeq_go (sSet_go ((eCall_go (aCons_go (eVar_go rfl) rfl)).trans e1))).trans ?_
 refine (sSeq_go (S1:=S1 ++ [.lst []]) (idok (sSet_go rfl))).trans ?_
 refine (sSeq_go (idok (sSet_go rfl))).trans ?_
 refine (sSeq_go (idok (sSet_go (eOp_go (eB_go (aCons_go (eOp_go (x:=.tup [tupI (wsS A),tupI (wsS B)]) (eVar_go rfl) rfl rfl) rfl) len_tup) rfl rfl)))).trans ?_
 exact (sSeq_go (idok e3)).trans (idok (sRet_go (eVar_go rfl)))
theorem frz_go {m:EM} {r:Rho} {S S1:Sto} {n:Nat} {xs:List D} (h:m r S=.ok (.ref n) S1) (hn:S1[n]?=some (.lst xs)):aFrz m r S=.ok xs (S1.set n (.flst xs)):=by
 unfold aFrz
 rw [h,R.bind_ok]
 simp only [hn]
theorem comp_thrF {A:Type} {x1 x2 x3:A→D} {out:A→D} {p:A→Bool} {t:TM} {e:EM} {tl:Rho} {S:Sto}:∀ (xs:List A) (r0 r1 r2:Option D),(∀ x ∈ xs,t (some (x1 x) :: some (x2 x) :: some (x3 x) :: tl) S=.ok (p x) S)→(∀ x ∈ xs,p x=true→e (some (x1 x) :: some (x2 x) :: some (x3 x) :: tl) S=.ok (out x) S)→compL (.tp [.nm 0,.nm 1,.nm 2]) t e (xs.map fun x=>.tup [x1 x,x2 x,x3 x]) (r0 :: r1 :: r2 :: tl) S=.ok ((xs.filter p).map out) S
 | [],_,_,_,_,_=>rfl
 | x :: xs,r0,r1,r2,ht,h=>by
  have h0:=ht x List.mem_cons_self
  have h2:=comp_thrF (out:=out) xs (some (x1 x)) (some (x2 x)) (some (x3 x)) (fun y hy=>ht y (List.mem_cons_of_mem _ hy)) fun y hy=>h y (List.mem_cons_of_mem _ hy)
  rw [List.map_cons,compL]
  cases hp:p x with
  | true=>
   have h1:=h x List.mem_cons_self hp
   rw [hp] at h0
   simp only [G.put,G.puts,List.set_cons_zero,List.set_cons_succ,R.bind_ok,if_true,h0,h1,h2,List.map_cons,List.filter_cons,hp]
  | false=>
   rw [hp] at h0
   simp only [G.put,G.puts,List.set_cons_zero,List.set_cons_succ,R.bind_ok,h0,h2,List.filter_cons,hp,Bool.false_eq_true,if_false]
theorem eComp_thrF {A:Type} {x1 x2 x3:A→D} {out:A→D} {p:A→Bool} {t:TM} {e:EM} {it:AM} {caps:List Nat} {tl r:Rho} {S S1:Sto} (xs:List A) (hi:it r S=.ok (xs.map fun x=>.tup [x1 x,x2 x,x3 x]) S1) (hl:xs.length≤sizeLine) (hc:caps.map (fun i=>(r[i]?).join)=tl) (ht:∀ x ∈ xs,t (some (x1 x) :: some (x2 x) :: some (x3 x) :: tl) S1=.ok (p x) S1) (h:∀ x ∈ xs,p x=true→e (some (x1 x) :: some (x2 x) :: some (x3 x) :: tl) S1=.ok (out x) S1):eComp it 3 caps (.tp [.nm 0,.nm 1,.nm 2]) t e r S=.ok (.lst ((xs.filter p).map out)) S1:=by
 unfold eComp
 rw [hi,R.bind_ok,if_pos (by rw [List.length_map]; exact hl)]
 have:capOf 3 caps r=none :: none :: none :: tl:=by unfold capOf; rw [hc]; rfl
 rw [this,comp_thrF (out:=out) xs none none none ht h,R.bind_ok]
def optI:Option Int→D
 | none=>.non
 | some i=>.int i
def minO:List Int→Option Int
 | []=>none
 | n :: ns=>some (minZ n ns)
theorem minDI (S:Sto):∀ l:List Int,fMinD S [.lst (l.map .int)]=some (optI (minO l))
 | []=>rfl
 | n :: ns=>by
  have e:=intsOf_map' (n :: ns)
  rw [List.map_cons] at e ⊢
  unfold fMinD
  have ht:tupsOf (D.int n :: ns.map D.int)=none:=rfl
  simp only [isLst,ht,e]
  rfl
theorem minO_ok:∀ {l:List Int} {u:Int},minO l=some u→u ∈ l∧∀ x ∈ l,u≤x
 | n :: ns,u,h=>by
  cases h
  obtain ⟨⟨h1,h2⟩,h3⟩:=minZ_le ns n
  refine ⟨?_,fun x hx=>?_⟩
  ·rcases h3 with e | e
   ·rw [e]; exact .head _
   ·exact .tail _ e
  ·rcases List.mem_cons.mp hx with rfl | hx
   ·exact h1
   ·exact h2 x hx
def IsAb (xs:List Int) (v:Int):Option Int→Prop
 | none=>∀ u,Wo KS xs u→u < v
 | some u=>Wo KS xs u∧v≤u∧∀ z,Wo KS xs z→v≤z→u≤z
theorem wo_halves {xs:List Int} {A B:List (Int × Int)} (hA:Hist A (wsL KS (xs.take (xs.length / 2)))) (hB:Hist B (wsL KS (xs.drop (xs.length / 2)))) (u:Int):Wo KS xs u↔∃ x ∈ wsS A,∃ y ∈ wsS B,x + y=u:=by
 have:=ws_app (K:=KS) (xs:=xs.take (xs.length / 2)) (ys:=xs.drop (xs.length / 2)) (v:=u)
 rw [List.take_append_drop] at this
 rw [← this]
 constructor
 ·rintro ⟨x,hx,y,hy,e⟩
  exact ⟨x,(wsS_mem hA x).mpr hx,y,(wsS_mem hB y).mpr hy,e⟩
 ·rintro ⟨x,hx,y,hy,e⟩
  exact ⟨x,(wsS_mem hA x).mp hx,y,(wsS_mem hB y).mp hy,e⟩
theorem above_ok {xs:List Int} (h12:xs.length≤12) (hr:Row xs) (v:Int) (S:Sto):∃ (S':Sto) (o:Option Int),F_above [tupI xs,.int v] S=.ok (optI o) S'∧Pre S S'∧IsAb xs v o:=by
 obtain ⟨S1,m,A,B,e1,hm,p1,hA,hB,hlen,hml⟩:=walk_ok h12 hr v S
 have z:(1000:Nat)≤sizeLine:=by decide
 have hc:eComp (aFrz (eCall F_walk_n (aCons (eVar 0) (aCons (eVar 1) aNil)))) 3 [1] (.tp [(.nm 0),(.nm 1),(.nm 2)]) (tV (eOp oGe (eVar 2) (eVar 3))) (eVar 2) [some (tupI xs),some (.int v)] S=.ok (.lst (((wkL A B v).filter fun e=>decide (v≤e.2.2)).map fun e=>D.int e.2.2)) (S1.set m (.flst ((wkL A B v).map eW))):=
  eComp_thrF (x1:=fun e:Nat × Nat × Int=>.int e.1) (x2:=fun e=>.int e.2.1) (x3:=fun e=>.int e.2.2) (tl:=[some (.int v)]) (wkL A B v) (frz_go ((eCall_go (aCons_go (eVar_go rfl) (aCons_go (eVar_go rfl) rfl))).trans e1) hm) (by omega) rfl
   (fun e he=>tNx_ok' (tV_go (eOp_go (eVar_go rfl) (eVar_go rfl) rfl))) fun e he _=>eVar_go rfl
 have hl:((wkL A B v).filter fun e=>decide (v≤e.2.2)).map (fun e=>D.int e.2.2)=(((wkL A B v).filter fun e=>decide (v≤e.2.2)).map fun e=>e.2.2).map D.int:=by rw [List.map_map]; rfl
 rw [hl] at hc
 refine ⟨S1.set m (.flst ((wkL A B v).map eW)),minO (((wkL A B v).filter fun e=>decide (v≤e.2.2)).map fun e=>e.2.2),?_,p1.set hml _,?_⟩
 ·exact fnM_rt (ρ:=[some (tupI xs),some (.int v)]) rfl ((sSeq_go (sDrop_go ((eCall_go (aCons_go (eVar_go rfl) (aCons_go (eVar_go rfl) rfl))).trans (need_rn_ok hr v S)))).trans (sNx_ok' (sRet_go (eB_go (aCons_go hc rfl) (minDI _ _)))))
 ·have hit:∀ u,Wo KS xs u→v≤u→∃ w ∈ ((wkL A B v).filter fun e=>decide (v≤e.2.2)).map fun e=>e.2.2,w≤u:=fun u hu hv=>by
   obtain ⟨x,hx,y,hy,rfl⟩:=(wo_halves hA hB u).mp hu
   obtain ⟨e,he,h1,h2⟩:=above_walk (sortZ_sorted _) (sortZ_sorted _) hx hy hv
   exact ⟨e.2.2,List.mem_map.mpr ⟨e,List.mem_filter.mpr ⟨he,by simpa using h1⟩,rfl⟩,h2⟩
  cases ho:minO (((wkL A B v).filter fun e=>decide (v≤e.2.2)).map fun e=>e.2.2) with
  | none=>
   intro u hu
   rcases Int.lt_or_le u v with h | h
   ·exact h
   ·obtain ⟨w,hw,_⟩:=hit u hu h
    match hl:((wkL A B v).filter fun e=>decide (v≤e.2.2)).map fun e=>e.2.2 with
    | []=>rw [hl] at hw; cases hw
    | n :: ns=>rw [hl] at ho; cases ho
  | some u=>
   obtain ⟨h1,h2⟩:=minO_ok ho
   obtain ⟨e,he,rfl⟩:=List.mem_map.mp h1
   obtain ⟨he,hv⟩:=List.mem_filter.mp he
   obtain ⟨x,y,hx,hy,rfl⟩:=walk_mem _ _ _ (Nat.le_refl _) e he
   refine ⟨(wo_halves hA hB _).mpr ⟨_,getD_mem' hx,_,getD_mem' hy,rfl⟩,by simpa using hv,fun z hz hvz=>?_⟩
   obtain ⟨w,hw,hwz⟩:=hit z hz hvz
   exact Int.le_trans (h2 w hw) hwz
theorem great_of {l:List Int} {s:Int} (h:s ∈ l):∃ m ∈ l,∀ x ∈ l,x≤m:=by
 match l,h with
 | a :: r,_=>
  obtain ⟨⟨h1,h2⟩,h3⟩:=maxZ_ge r a
  refine ⟨maxZ a r,?_,fun x hx=>?_⟩
  ·rcases h3 with e | e
   ·rw [e]; exact .head _
   ·exact .tail _ e
  ·rcases List.mem_cons.mp hx with rfl | hx
   ·exact h1
   ·exact h2 x hx
theorem below_walk {A B:List Int} {v:Int} (hA:A.Pairwise (· ≤ ·)) (hB:B.Pairwise (· ≤ ·)) {x y:Int} (hx:x ∈ A) (hy:y ∈ B) (h:x + y≤v):∃ e ∈ wlk A B v (A.length + B.length) 0 B.length,e.2.2≤v∧x + y≤e.2.2:=by
 have hs:x + y ∈ (sumsL A B).filter fun s=>decide (s≤v):=List.mem_filter.mpr ⟨mem_sums.mpr ⟨x,hx,y,hy,rfl⟩,by simpa using h⟩
 obtain ⟨m,hm,hle⟩:=great_of hs
 obtain ⟨hm1,hm2⟩:=List.mem_filter.mp hm
 obtain ⟨a,ha,b,hb,rfl⟩:=mem_sums.mp hm1
 obtain ⟨p,hp,rfl⟩:=idx_of ha
 obtain ⟨q,hq,rfl⟩:=idx_of hb
 have hv:A.getD p 0 + B.getD q 0≤v:=by simpa using hm2
 obtain ⟨e,he,ee⟩:=walk_great hA hB hp hq hv (fun i j hi hj hij=>hle _ (List.mem_filter.mpr ⟨mem_sums.mpr ⟨_,getD_mem' hi,_,getD_mem' hj,rfl⟩,by simpa using hij⟩)) (A.length + B.length) 0 B.length (by omega) (Nat.zero_le _) hq (Nat.le_refl _)
 exact ⟨e,he,by rw [ee]; exact hv,by rw [ee]; exact hle _ hs⟩
def maxO:List Int→Option Int
 | []=>none
 | n :: ns=>some (maxZ n ns)
theorem maxDI (S:Sto):∀ l:List Int,fMaxD S [.lst (l.map .int)]=some (optI (maxO l))
 | []=>rfl
 | n :: ns=>by
  have e:=intsOf_map' (n :: ns)
  rw [List.map_cons] at e ⊢
  unfold fMaxD
  simp only [isLst,e]
  rfl
theorem maxO_ok:∀ {l:List Int} {u:Int},maxO l=some u→u ∈ l∧∀ x ∈ l,x≤u
 | n :: ns,u,h=>by
  cases h
  obtain ⟨⟨h1,h2⟩,h3⟩:=maxZ_ge ns n
  refine ⟨?_,fun x hx=>?_⟩
  ·rcases h3 with e | e
   ·rw [e]; exact .head _
   ·exact .tail _ e
  ·rcases List.mem_cons.mp hx with rfl | hx
   ·exact h1
   ·exact h2 x hx
def IsBe (xs:List Int) (v:Int):Option Int→Prop
 | none=>∀ u,Wo KS xs u→v < u
 | some u=>Wo KS xs u∧u≤v∧∀ z,Wo KS xs z→z≤v→z≤u
theorem below_ok {xs:List Int} (h12:xs.length≤12) (hr:Row xs) (v:Int) (S:Sto):∃ (S':Sto) (o:Option Int),F_below [tupI xs,.int v] S=.ok (optI o) S'∧Pre S S'∧IsBe xs v o:=by
 obtain ⟨S1,m,A,B,e1,hm,p1,hA,hB,hlen,hml⟩:=walk_ok h12 hr v S
 have z:(1000:Nat)≤sizeLine:=by decide
 have hc:eComp (aFrz (eCall F_walk_n (aCons (eVar 0) (aCons (eVar 1) aNil)))) 3 [1] (.tp [(.nm 0),(.nm 1),(.nm 2)]) (tV (eOp oLe (eVar 2) (eVar 3))) (eVar 2) [some (tupI xs),some (.int v)] S=.ok (.lst (((wkL A B v).filter fun e=>decide (e.2.2≤v)).map fun e=>D.int e.2.2)) (S1.set m (.flst ((wkL A B v).map eW))):=
  eComp_thrF (x1:=fun e:Nat × Nat × Int=>.int e.1) (x2:=fun e=>.int e.2.1) (x3:=fun e=>.int e.2.2) (tl:=[some (.int v)]) (wkL A B v) (frz_go ((eCall_go (aCons_go (eVar_go rfl) (aCons_go (eVar_go rfl) rfl))).trans e1) hm) (by omega) rfl
   (fun e he=>tNx_ok' (tV_go (eOp_go (eVar_go rfl) (eVar_go rfl) rfl))) fun e he _=>eVar_go rfl
 have hl:((wkL A B v).filter fun e=>decide (e.2.2≤v)).map (fun e=>D.int e.2.2)=(((wkL A B v).filter fun e=>decide (e.2.2≤v)).map fun e=>e.2.2).map D.int:=by rw [List.map_map]; rfl
 rw [hl] at hc
 refine ⟨S1.set m (.flst ((wkL A B v).map eW)),maxO (((wkL A B v).filter fun e=>decide (e.2.2≤v)).map fun e=>e.2.2),?_,p1.set hml _,?_⟩
 ·exact fnM_rt (ρ:=[some (tupI xs),some (.int v)]) rfl ((sSeq_go (sDrop_go ((eCall_go (aCons_go (eVar_go rfl) (aCons_go (eVar_go rfl) rfl))).trans (need_rn_ok hr v S)))).trans (sNx_ok' (sRet_go (eB_go (aCons_go hc rfl) (maxDI _ _)))))
 ·have hit:∀ u,Wo KS xs u→u≤v→∃ w ∈ ((wkL A B v).filter fun e=>decide (e.2.2≤v)).map fun e=>e.2.2,u≤w:=fun u hu hv=>by
   obtain ⟨x,hx,y,hy,rfl⟩:=(wo_halves hA hB u).mp hu
   obtain ⟨e,he,h1,h2⟩:=below_walk (sortZ_sorted _) (sortZ_sorted _) hx hy hv
   exact ⟨e.2.2,List.mem_map.mpr ⟨e,List.mem_filter.mpr ⟨he,by simpa using h1⟩,rfl⟩,h2⟩
  cases ho:maxO (((wkL A B v).filter fun e=>decide (e.2.2≤v)).map fun e=>e.2.2) with
  | none=>
   intro u hu
   rcases Int.lt_or_le v u with h | h
   ·exact h
   ·obtain ⟨w,hw,_⟩:=hit u hu h
    match hl:((wkL A B v).filter fun e=>decide (e.2.2≤v)).map fun e=>e.2.2 with
    | []=>rw [hl] at hw; cases hw
    | n :: ns=>rw [hl] at ho; cases ho
  | some u=>
   obtain ⟨h1,h2⟩:=maxO_ok ho
   obtain ⟨e,he,rfl⟩:=List.mem_map.mp h1
   obtain ⟨he,hv⟩:=List.mem_filter.mp he
   obtain ⟨x,y,hx,hy,rfl⟩:=walk_mem _ _ _ (Nat.le_refl _) e he
   refine ⟨(wo_halves hA hB _).mpr ⟨_,getD_mem' hx,_,getD_mem' hy,rfl⟩,by simpa using hv,fun z hz hvz=>?_⟩
   obtain ⟨w,hw,hwz⟩:=hit z hz hvz
   exact Int.le_trans hwz (h2 w hw)
theorem wo_small {xs:List Int} (h:∀ x ∈ xs,okN x) (hl:xs.length≤16) {v:Int} (hv:Wo KS xs v):v.natAbs < 10 ^ 30:=by
 obtain ⟨h1,h2⟩:=Wo_bd kdS (fun x hx=>(h x hx).1) hv
 have hs:xs.sum≤xs.length * 1000000000000000:=sum_bdd fun x hx=>by have:=(h x hx).2; omega
 have h3:(xs.length:Int) * 1000000000000000≤16 * 1000000000000000:=Int.mul_le_mul_of_nonneg_right (by omega) (by decide)
 exact Nat.lt_of_le_of_lt (show v.natAbs≤16 * 1000000000000000 by omega) (by decide)
theorem pairs_len (A B:List (Int × Int)):(pairsT A B).length=A.length * B.length:=by
 unfold pairsT
 rw [List.length_flatMap]
 simp [List.map_const',List.sum_replicate_nat]
theorem ws_halves (xs:List Int) (v:Int):(∃ x ∈ wsL KS (xs.take (xs.length / 2)),∃ y ∈ wsL KS (xs.drop (xs.length / 2)),x + y=v)↔Wo KS xs v:=by rw [ws_app,List.take_append_drop]
theorem laps_le (ns:List Int) (c:Nat) (hn:ns.length≤63) (hc:1≤c∧c≤63) (r:Rho) (hr:r[0]?=some (some (.fz (ns.map .int)))) (S:Sto):∃ n:Nat,aRange1 (aCons (eB fMax (aCons (eC (.int 1)) (aCons (eB fMin (aCons (eB fLen (aCons (eVar 0) aNil)) (aCons (eC (.int c)) aNil))) aNil))) aNil) r S=.ok ((List.range n).map (fun (i:Nat)=>D.int i)) S∧n≤c:=by
 refine ⟨max 1 (min ns.length c),aRange1_ok ?_ (by omega),by omega⟩
 have e:(if (1:Int) < (if (c:Int) < (ns.length:Int) then (c:Int) else (ns.length:Int)) then (if (c:Int) < (ns.length:Int) then (c:Int) else (ns.length:Int)) else 1)=((max 1 (min ns.length c):Nat):Int):=by
  split <;> split <;> omega
 rw [← e]
 simp [aCons,aNil,eB,eC,eVar,R.bind,R.of,hr,fLen,seqOf,fMin,fMax]
theorem tNx_ok {a:TM} {r:Rho} {S S1:Sto} {b:Bool} (h:a r S=.ok b S1):tNx a r S=.ok b S1:=by unfold tNx; rw [h]; rfl
theorem sSeq_err {a b:SM} {r:Rho} {S S1:Sto} {x:XD} (h:a r S=.err x S1):sSeq a b r S=.err x S1:=by unfold sSeq; rw [h]; rfl
theorem sDrop_err {a:EM} {r:Rho} {S S1:Sto} {x:XD} (h:a r S=.err x S1):sDrop a r S=.err x S1:=by unfold sDrop; rw [h]; rfl
theorem sRet_err {a:EM} {r:Rho} {S S1:Sto} {x:XD} (h:a r S=.err x S1):sRet a r S=.err x S1:=by unfold sRet; rw [h]; rfl
theorem fnM_err {n:Nat} {b:SM} {ds:List D} {ρ:Rho} {S S1:Sto} {x:XD} (hρ:ds.map some ++ List.replicate (n - ds.length) none = ρ) (h:b ρ S=.err x S1):fnM n b ds S=.err x S1:=by unfold fnM; rw [hρ,h]; rfl
theorem ne_self {S:Sto} {t:Str}:oNeP S (.str t) (.str t)=some (.bl false):=by simp [oNeP,eqP,eqS]
theorem number_ok {S:Sto} {b:Nat} {row:List Int} (g:Gr b S S) (h6:row.length≤10):∃ (v:Int) (S':Sto),F__law_number [.ref b,tupI row] S=.ok (.int v) S'∧Gr b S S':=by
 obtain ⟨q,S1,e1,a0,a1,g1⟩:=take_ok g (many:=30) (by decide) (by decide)
 obtain ⟨j,S2,e2,b0,b1,g2⟩:=take_ok g1.self (many:=9) (by decide) (by decide)
 obtain ⟨n,rfl⟩:∃ n:Nat,j=n:=⟨j.toNat,by omega⟩
 generalize hs:q - 15=s
 have ss:smallI s:=⟨by omega,by omega⟩
 have z1:(1:Nat)≤sizeLine:=by decide
 have z9:(9:Nat)≤sizeLine:=by decide
 have z100:(100:Nat)≤sizeLine:=by decide
 obtain ⟨x0,hx0⟩:∃ x0:Int,∀ T:Sto,oIx T (.tup (row.map .int ++ [.int 1])) (.int 0)=some (.int x0):=by
  cases row with
  | nil=>exact ⟨1,fun T=>rfl⟩
  | cons x row=>exact ⟨x,fun T=>atI_nat' (xs:=D.int x :: (row.map D.int ++ [D.int 1])) (i:=0) (Nat.zero_lt_succ _)⟩
 have hl:(eLst (aCons (eC (.int 0)) (aCons (eVar 2) (aCons (eOp oSub (eC (.int 0)) (eVar 2)) (aCons (eOp oSub (eVar 2) (eC (.int 2))) (aCons (eVar 3) (aCons (eOp oAdd (eOp oAdd (eVar 2) (eC (.int 1))) (eOp oMul (eVar 3) (eVar 3))) (aCons (eVar 3) (aCons (eOp oSub (eVar 2) (eOp oMul (eC (.int 2)) (eOp oIx (eOp oAdd (eVar 1) (eTup (aCons (eC (.int 1)) aNil))) (eC (.int 0))))) (aCons (eVar 3) aNil)))))))))) [some (.ref b),some (tupI row),some (.int row.sum),some (.int s),none] S1=.ok (.lst ([0,row.sum,0 - row.sum,row.sum - 2,s,row.sum + 1 + s * s,s,row.sum - 2 * x0,s].map .int)) S1:=by
  have a1:∀ T:Sto,oAdd T (tupI row) (.tup [.int 1])=some (.tup (row.map .int ++ [.int 1])):=fun T=>oAdd_t (by simp; omega)
  have m1:∀ T:Sto,oMul T (.int s) (.int s)=some (.int (s * s)):=fun T=>oMul_i (.inl ss)
  have m2:∀ (T:Sto) (y:Int),oMul T (.int 2) (.int y)=some (.int (2 * y)):=fun T y=>oMul_i (.inl (by decide))
  exact eLst_go (aCons_go rfl (aCons_go (eVar_go rfl) (aCons_go (eOp_go rfl (eVar_go rfl) rfl) (aCons_go (eOp_go (eVar_go rfl) rfl rfl) (aCons_go (eVar_go rfl) (aCons_go (eOp_go (eOp_go (eVar_go rfl) rfl rfl) (eOp_go (eVar_go rfl) (eVar_go rfl) (m1 _)) rfl) (aCons_go (eVar_go rfl) (aCons_go (eOp_go (eVar_go rfl) (eOp_go rfl (eOp_go (eOp_go (eVar_go rfl) (eTup_go (xs:=[.int 1]) rfl z1) (a1 _)) rfl (hx0 _)) (m2 _ _)) rfl) (aCons_go (eVar_go rfl) rfl))))))))) z9
 generalize hL:([0,row.sum,0 - row.sum,row.sum - 2,s,row.sum + 1 + s * s,s,row.sum - 2 * x0,s]:List Int)=L at hl
 have hLn:n < L.length:=by rw [← hL]; show n < 9; omega
 refine ⟨L[n],S2,?_,g1.trans g2⟩
 have hix:oIx S2 (.lst (L.map .int)) (.int (n:Int))=some (.int L[n]):=by
  have:=atI_nat' (xs:=L.map D.int) (i:=n) (by rw [List.length_map]; exact hLn)
  rw [List.getElem_map] at this
  exact this
 have t1:eOp oSub (eCall F__law_take (aCons (eVar 0) (aCons (eC (.int 30)) aNil))) (eC (.int 15)) [some (.ref b),some (tupI row),some (.int row.sum),none,none] S=.ok (.int s) S1:=by
  rw [← hs]
  exact eOp_go ((eCall_go (aCons_go (eVar_go rfl) (aCons_go rfl rfl))).trans e1) rfl rfl
 exact fnM_rt (ρ:=[some (.ref b),some (tupI row),none,none,none]) rfl ((sSeq_go (sSet_go (eB_go (aCons_go (eVar_go rfl) rfl) fSum_t))).trans ((sSeq_go (sSet_go t1)).trans ((sSeq_go (sSet_go hl)).trans (sRet_go (eOp_go (eVar_go rfl) ((eCall_go (aCons_go (eVar_go rfl) (aCons_go rfl rfl))).trans e2) hix)))))
def noNumber:XD:=⟨"NoNumber",.tup [.str "this is no whole number"]⟩
theorem marks_number (S:Sto):F__law_marks [.exc "NoNumber"] S=.ok (.str "number") S:=by kernel_rfl
theorem said_many {r d z:D} {S S':Sto} (h:F_below [r,d] S=.ok z S'):F__law_said [.int 0,r,d] S=.ok z S':=by
 refine fnM_rt (ρ:=[some (.int 0),some r,some d,none]) rfl ?_
 have h0:tNx (tV (eOp oEqP (eVar 0) (eC (.int 0)))) [some (.int 0),some r,some d,none] S=.ok true S:=tNx_ok (tV_go (eOp_go (eVar_go rfl) rfl rfl))
 show sTry raisedX 3 4 _ _ _ _=_
 unfold sTry
 rw [sSeq_rt ((sIf_t h0).trans (sRet_go ((eCall_go (aCons_go (eVar_go rfl) (aCons_go (eVar_go rfl) rfl))).trans h)))]
theorem said_first {r d z:D} {S S':Sto} (h:F_above [r,d] S=.ok z S'):F__law_said [.int 1,r,d] S=.ok z S':=by
 refine fnM_rt (ρ:=[some (.int 1),some r,some d,none]) rfl ?_
 have h0:tNx (tV (eOp oEqP (eVar 0) (eC (.int 0)))) [some (.int 1),some r,some d,none] S=.ok false S:=tNx_ok (tV_go (eOp_go (eVar_go rfl) rfl rfl))
 show sTry raisedX 3 4 _ _ _ _=_
 unfold sTry
 rw [(sSeq_go ((sIf_f h0).trans rfl)).trans (sRet_go ((eCall_go (aCons_go (eVar_go rfl) (aCons_go (eVar_go rfl) rfl))).trans h))]
theorem need_number_eq {d:D} (h:shal d=true) (S:Sto):F_need_number [d] S=if isI d=true then .ok .non S else .err noNumber S:=by
 have e:=whole_eq (S:=S) h
 cases hb:isI d with
 | true=>rw [hb] at e; simp [F_need_number,fnM,m_need_number,sIf,sSkip,tNx,R.nx,PD.tNot,tV,eCall,eVar,aCons,aNil,R.bind,e]
 | false=>rw [hb] at e; simp [F_need_number,fnM,m_need_number,sIf,sSkip,tNx,R.nx,PD.tNot,tV,eCall,eVar,eC,aCons,aNil,R.bind,e,sRaise,one_line,noNumber]
theorem need_rn_no {xs:List Int} (h:Row xs) {d:D} (hd:shal d=true) (hi:isI d=false) (S:Sto):F_need_row_and_number [tupI xs,d] S=.err noNumber S:=by
 have e2:=need_number_eq hd S
 rw [hi,if_neg Bool.false_ne_true] at e2
 exact fnM_err (ρ:=[some (tupI xs),some d]) rfl ((sSeq_go (sDrop_go ((eCall_go (aCons_go (eVar_go rfl) rfl)).trans (need_row_ok h S)))).trans (sDrop_err ((eCall_go (aCons_go (eVar_go rfl) rfl)).trans e2)))
theorem raisedN:raisedX.contains noNumber.cls=true:=by decide +kernel
theorem saidN {xs:List Int} (h:Row xs) {d:D} (hd:shal d=true) (hi:isI d=false) (S:Sto):F__law_said [.int 0,tupI xs,d] S=.ok (.str "number") S∧F__law_said [.int 1,tupI xs,d] S=.ok (.str "number") S:=by
 have hn:=need_rn_no h hd hi S
 have hm:F_below [tupI xs,d] S=.err noNumber S:=fnM_err (ρ:=[some (tupI xs),some d]) rfl (sSeq_err (sDrop_err ((eCall_go (aCons_go (eVar_go rfl) (aCons_go (eVar_go rfl) rfl))).trans hn)))
 have hf:F_above [tupI xs,d] S=.err noNumber S:=fnM_err (ρ:=[some (tupI xs),some d]) rfl (sSeq_err (sDrop_err ((eCall_go (aCons_go (eVar_go rfl) (aCons_go (eVar_go rfl) rfl))).trans hn)))
 have e':sRet (eCall F__law_marks (aCons (eVar 3) aNil)) ((List.replicate 4 none).set 3 (some (.exc noNumber.cls))) S=.ok (.rt (.str "number")) S:=sRet_go ((eCall_go (aCons_go (eVar_go rfl) rfl)).trans (marks_number S))
 constructor
 ·refine fnM_rt (ρ:=[some (.int 0),some (tupI xs),some d,none]) rfl ?_
  have h0:tNx (tV (eOp oEqP (eVar 0) (eC (.int 0)))) [some (.int 0),some (tupI xs),some d,none] S=.ok true S:=tNx_ok (tV_go (eOp_go (eVar_go rfl) rfl rfl))
  show sTry raisedX 3 4 _ _ _ _=_
  unfold sTry
  rw [sSeq_err ((sIf_t h0).trans (sRet_err ((eCall_go (aCons_go (eVar_go rfl) (aCons_go (eVar_go rfl) rfl))).trans hm)))]
  show (if raisedX.contains noNumber.cls=true then _ else _)=_
  rw [if_pos raisedN,e']; rfl
 ·refine fnM_rt (ρ:=[some (.int 1),some (tupI xs),some d,none]) rfl ?_
  have h0:tNx (tV (eOp oEqP (eVar 0) (eC (.int 0)))) [some (.int 1),some (tupI xs),some d,none] S=.ok false S:=tNx_ok (tV_go (eOp_go (eVar_go rfl) rfl rfl))
  show sTry raisedX 3 4 _ _ _ _=_
  unfold sTry
  rw [(sSeq_go ((sIf_f h0).trans rfl)).trans (sRet_err ((eCall_go (aCons_go (eVar_go rfl) (aCons_go (eVar_go rfl) rfl))).trans hf))]
  show (if raisedX.contains noNumber.cls=true then _ else _)=_
  rw [if_pos raisedN,e']; rfl
abbrev thB:SM:=(sIf (PD.tOr (tV (eOp oNeP (eCall F__law_said (aCons (eC (.int 0)) (aCons (eVar 3) (aCons (eVar 6) aNil)))) (eC (.str "number")))) (tV (eOp oNeP (eCall F__law_said (aCons (eC (.int 1)) (aCons (eVar 3) (aCons (eVar 6) aNil)))) (eC (.str "number"))))) (sRet (eC (.bl false))) sSkip)
theorem th_loop {row:List Int} (hr:Row row) (r0 r1 r2 r4 r5 r7 r8 r9:Option D) (S:Sto):∀ (ds:List D) (r6:Option D),(∀ d ∈ ds,shal d=true∧isI d=false)→∃ a6:Option D,forL (.nm 6) thB ds [r0,r1,r2,some (tupI row),r4,r5,r6,r7,r8,r9] S=.ok (.nx [r0,r1,r2,some (tupI row),r4,r5,a6,r7,r8,r9]) S
 | [],r6,_=>⟨r6,rfl⟩
 | d :: ds,r6,h=>by
  obtain ⟨h1,h2⟩:=h d (.head _)
  obtain ⟨a6,e⟩:=th_loop hr r0 r1 r2 r4 r5 r7 r8 r9 S ds (some d) fun x hx=>h x (.tail _ hx)
  obtain ⟨s0,s1⟩:=saidN hr h1 h2 S
  refine ⟨a6,(forL_cons (r1:=[r0,r1,r2,some (tupI row),r4,r5,some d,r7,r8,r9]) rfl ?_).trans e⟩
  exact (sIf_f ((tOr_f (tV_go (eOp_go ((eCall_go (aCons_go rfl (aCons_go (eVar_go rfl) (aCons_go (eVar_go rfl) rfl)))).trans s0) rfl ne_self))).trans (tV_go (eOp_go ((eCall_go (aCons_go rfl (aCons_go (eVar_go rfl) (aCons_go (eVar_go rfl) rfl)))).trans s1) rfl ne_self)))).trans rfl
abbrev lapB:SM:=(sSeq (sSet 7 (eCall F__law_number (aCons (eVar 2) (aCons (eVar 3) aNil)))) (sSeq (sSet 8 (eComp (aSeq (eVar 4) itSeq) 1 [7] (.nm 0) (tV (eOp oLe (eVar 0) (eVar 1))) (eVar 0))) (sSeq (sSet 9 (eComp (aSeq (eVar 4) itSeq) 1 [7] (.nm 0) (tV (eOp oGe (eVar 0) (eVar 1))) (eVar 0))) (sSeq (sIf (tV (eOp oNeP (eB fRepr (aCons (eCall F__law_said (aCons (eC (.int 0)) (aCons (eVar 3) (aCons (eVar 7) aNil)))) aNil)) (eB fRepr (aCons (eOp oIx (eOp oAdd (eLst (aCons (eC .non) aNil)) (eVar 8)) (eUn oNeg (eC (.int 1)))) aNil)))) (sRet (eC (.bl false))) sSkip) (sIf (tV (eOp oNeP (eB fRepr (aCons (eCall F__law_said (aCons (eC (.int 1)) (aCons (eVar 3) (aCons (eVar 7) aNil)))) aNil)) (eB fRepr (aCons (eOp oIx (eOp oAdd (eVar 9) (eLst (aCons (eC .non) aNil))) (eC (.int 0))) aNil)))) (sRet (eC (.bl false))) sSkip)))))
abbrev lawB:SM:=(sSeq (sSet 2 (eCall F__law_box (aCons (eVar 0) (aCons (eVar 1) aNil)))) (sSeq (sSet 3 (eCall F__law_row (aCons (eVar 2) (aCons (eOp oIx (eLst (aCons (eC (.int 10)) (aCons (eC (.int 7)) (aCons (eC (.int 7)) aNil)))) (eVar 1)) aNil)))) (sSeq (sSet 4 (eB fSrt (aCons (eCall F__law_counts (aCons (eVar 3) aNil)) aNil))) (sSeq (sFor (aRange1 (aCons (eC (.int 4)) aNil)) (.nm 5) lapB) (sFor (aSeq (eLst (aCons (eC .non) (aCons (eC (.bl true)) (aCons (eC (.str "1")) (aCons (eTup (aCons (eC (.int 1)) aNil)) (aCons (eLst (aCons (eC (.int 1)) aNil)) (aCons (eDic []) aNil))))))) itSeq) (.nm 6) thB)))))
theorem IsAb.uniqO {xs:List Int} {v:Int}:∀ {a b:Option Int},IsAb xs v a→IsAb xs v b→a=b
 | none,none,_,_=>rfl
 | some u,some z,a,b=>by rw [Int.le_antisymm (a.2.2 z b.1 b.2.1) (b.2.2 u a.1 a.2.1)]
 | none,some z,a,b=>absurd (a z b.1) (by have:=b.2.1; omega)
 | some z,none,b,a=>absurd (a z b.1) (by have:=b.2.1; omega)
theorem IsBe.uniqO {xs:List Int} {v:Int}:∀ {a b:Option Int},IsBe xs v a→IsBe xs v b→a=b
 | none,none,_,_=>rfl
 | some u,some z,a,b=>by rw [Int.le_antisymm (b.2.2 u a.1 a.2.1) (a.2.2 z b.1 b.2.1)]
 | none,some z,a,b=>absurd (a z b.1) (by have:=b.2.1; omega)
 | some z,none,b,a=>absurd (a z b.1) (by have:=b.2.1; omega)
theorem abv_of {xs l:List Int} (hs:l.Pairwise (· ≤ ·)) (hm:∀ w,w ∈ l↔Wo KS xs w) (v:Int):IsAb xs v (l.filter fun w=>decide (v≤w)).head?:=by
 cases e:(l.filter fun w=>decide (v≤w)) with
 | nil=>
  intro u hu
  rcases Int.lt_or_le u v with h | h
  ·exact h
  ·have:u ∈ l.filter fun w=>decide (v≤w):=List.mem_filter.mpr ⟨(hm u).mpr hu,by simpa using h⟩
   rw [e] at this; cases this
 | cons u r=>
  have hu:u ∈ l.filter fun w=>decide (v≤w):=by rw [e]; exact .head _
  obtain ⟨h1,h2⟩:=List.mem_filter.mp hu
  refine ⟨(hm u).mp h1,by simpa using h2,fun z hz hvz=>?_⟩
  have hz':z ∈ l.filter fun w=>decide (v≤w):=List.mem_filter.mpr ⟨(hm z).mpr hz,by simpa using hvz⟩
  have hp:(l.filter fun w=>decide (v≤w)).Pairwise (· ≤ ·):=List.Pairwise.sublist List.filter_sublist hs
  rw [e] at hz' hp
  rcases List.mem_cons.mp hz' with rfl | hz'
  ·exact Int.le_refl _
  ·exact (List.pairwise_cons.mp hp).1 z hz'
theorem bel_of {xs l:List Int} (hs:l.Pairwise (· ≤ ·)) (hm:∀ w,w ∈ l↔Wo KS xs w) (v:Int):IsBe xs v (l.filter fun w=>decide (w≤v)).getLast?:=by
 cases e:(l.filter fun w=>decide (w≤v)).getLast? with
 | none=>
  have e:=List.getLast?_eq_none_iff.mp e
  intro u hu
  rcases Int.lt_or_le v u with h | h
  ·exact h
  ·have:u ∈ l.filter fun w=>decide (w≤v):=List.mem_filter.mpr ⟨(hm u).mpr hu,by simpa using h⟩
   rw [e] at this; cases this
 | some u=>
  obtain ⟨r,e⟩:=List.getLast?_eq_some_iff.mp e
  have hu:u ∈ l.filter fun w=>decide (w≤v):=by rw [e]; simp
  obtain ⟨h1,h2⟩:=List.mem_filter.mp hu
  refine ⟨(hm u).mp h1,by simpa using h2,fun z hz hvz=>?_⟩
  have hz':z ∈ l.filter fun w=>decide (w≤v):=List.mem_filter.mpr ⟨(hm z).mpr hz,by simpa using hvz⟩
  have hp:(l.filter fun w=>decide (w≤v)).Pairwise (· ≤ ·):=List.Pairwise.sublist List.filter_sublist hs
  rw [e] at hz' hp
  rcases List.mem_append.mp hz' with hz' | hz'
  ·exact (List.pairwise_append.mp hp).2.2 z hz' u (by simp)
  ·rw [List.mem_singleton.mp hz']; exact Int.le_refl _
theorem ix_last (S:Sto) (l:List Int):oIx S (.lst (D.non :: l.map D.int)) (.int (-1))=some (optI l.getLast?):=by
 show atI (D.non :: l.map D.int) (-1)=_
 unfold L2.atI
 have e:ixN (D.non :: l.map D.int).length (-1)=some l.length:=by
  unfold ixN
  rw [if_neg (by decide),if_pos (by simp; omega)]
  simp
  omega
 rw [e]
 cases hl:l.getLast? with
 | none=>rw [List.getLast?_eq_none_iff.mp hl]; rfl
 | some u=>
  obtain ⟨r,rfl⟩:=List.getLast?_eq_some_iff.mp hl
  simp [optI]
theorem ix_head (S:Sto) (l:List Int):oIx S (.lst (l.map D.int ++ [D.non])) (.int 0)=some (optI l.head?):=by
 cases l with
 | nil=>rfl
 | cons x l=>exact atI_nat' (xs:=D.int x :: (l.map D.int ++ [D.non])) (i:=0) (Nat.zero_lt_succ _)
theorem shown_optI {o:Option Int} (h:∀ u,o=some u→u.natAbs < 10 ^ 30):∃ t,∀ S:Sto,fRepr S [optI o]=some (.str t):=by
 cases o with
 | none=>exact ⟨_,fun S=>rfl⟩
 | some u=>
  obtain ⟨t,e⟩:=shows_one (S:=[]) (nl:=false) (sh_int (i:=u) (h u rfl))
  exact ⟨t,fun S=>e⟩
theorem lap_ok {row l:List Int} (h10:row.length≤10) (hr:Row row) (hn:∀ x ∈ row,okN x) (hs:l.Pairwise (· ≤ ·)) (hm:∀ w,w ∈ l↔Wo KS row w) (hl:l.length≤3000) {b:Nat} (r0 r1 r5 r6 r7 r8 r9:Option D) (S:Sto) (g:Gr b S S):
  ∃ (S':Sto) (a7 a8 a9:Option D),lapB [r0,r1,some (.ref b),some (tupI row),some (.lst (l.map .int)),r5,r6,r7,r8,r9] S=.ok (.nx [r0,r1,some (.ref b),some (tupI row),some (.lst (l.map .int)),r5,r6,a7,a8,a9]) S'∧Gr b S S':=by
 have z:(10000:Nat)≤sizeLine:=by decide
 have z1:(1:Nat)≤sizeLine:=by decide
 obtain ⟨v,S1,e1,g1⟩:=number_ok g h10
 obtain ⟨S2,o2,e2,p2,h2⟩:=below_ok (by omega) hr v S1
 obtain ⟨S3,o3,e3,p3,h3⟩:=above_ok (by omega) hr v S2
 have u2:=IsBe.uniqO h2 (bel_of hs hm v)
 have u3:=IsAb.uniqO h3 (abv_of hs hm v)
 have fl:∀ (p:Int→Bool),(l.filter p).length≤3000:=fun p=>Nat.le_trans (List.length_filter_le _ _) hl
 have c1:∀ (r8 r9:Option D),eComp (aSeq (eVar 4) itSeq) 1 [7] (.nm 0) (tV (eOp oLe (eVar 0) (eVar 1))) (eVar 0) [r0,r1,some (.ref b),some (tupI row),some (.lst (l.map .int)),r5,r6,some (.int v),r8,r9] S1=.ok (.lst ((l.filter fun w=>decide (w≤v)).map .int)) S1:=fun r8 r9=>
  eComp_flt (enc:=D.int) (out:=D.int) (p:=fun w=>decide (w≤v)) (tl:=[some (.int v)]) l (it_var rfl rfl) (by omega) rfl (fun d _=>tV_go (eOp_go (eVar_go rfl) (eVar_go rfl) rfl)) (fun d _ _=>eVar_go rfl)
 have c2:∀ (r8 r9:Option D),eComp (aSeq (eVar 4) itSeq) 1 [7] (.nm 0) (tV (eOp oGe (eVar 0) (eVar 1))) (eVar 0) [r0,r1,some (.ref b),some (tupI row),some (.lst (l.map .int)),r5,r6,some (.int v),r8,r9] S1=.ok (.lst ((l.filter fun w=>decide (v≤w)).map .int)) S1:=fun r8 r9=>
  eComp_flt (enc:=D.int) (out:=D.int) (p:=fun w=>decide (v≤w)) (tl:=[some (.int v)]) l (it_var rfl rfl) (by omega) rfl (fun d _=>tV_go (eOp_go (eVar_go rfl) (eVar_go rfl) rfl)) (fun d _ _=>eVar_go rfl)
 obtain ⟨t2,ht2⟩:=shown_optI (o:=o2) fun u hu=>by subst hu; exact wo_small hn (by omega) h2.1
 obtain ⟨t3,ht3⟩:=shown_optI (o:=o3) fun u hu=>by subst hu; exact wo_small hn (by omega) h3.1
 refine ⟨S3,some (.int v),some (.lst ((l.filter fun w=>decide (w≤v)).map .int)),some (.lst ((l.filter fun w=>decide (v≤w)).map .int)),?_,g1.trans (Pre.gr g1.self (p2.trans p3))⟩
 refine (sSeq_go (sSet_go ((eCall_go (aCons_go (eVar_go rfl) (aCons_go (eVar_go rfl) rfl))).trans e1))).trans ?_
 refine (sSeq_go (sSet_go (c1 _ _))).trans ((sSeq_go (sSet_go (c2 _ _))).trans ?_)
 have hlo:∀ S:Sto,oIx S (.lst (D.non :: (l.filter fun w=>decide (w≤v)).map D.int)) (.int (-1))=some (optI o2):=fun S=>by rw [u2]; exact ix_last S _
 have hhi:∀ S:Sto,oIx S (.lst ((l.filter fun w=>decide (v≤w)).map D.int ++ [D.non])) (.int 0)=some (optI o3):=fun S=>by rw [u3]; exact ix_head S _
 refine (sSeq_go ((sIf_f (tV_go (eOp_go (eB_go (aCons_go ((eCall_go (aCons_go rfl (aCons_go (eVar_go rfl) (aCons_go (eVar_go rfl) rfl)))).trans (said_many e2)) rfl) (ht2 S2)) (eB_go (aCons_go (eOp_go (eOp_go (eLst_go (xs:=[.non]) rfl z1) (eVar_go rfl) (oAdd_l (by have:=fl (fun w=>decide (w≤v)); rw [List.length_map,List.length_singleton]; omega))) rfl (hlo S2)) rfl) (ht2 S2)) ne_self))).trans rfl)).trans ?_
 exact (sIf_f (tV_go (eOp_go (eB_go (aCons_go ((eCall_go (aCons_go rfl (aCons_go (eVar_go rfl) (aCons_go (eVar_go rfl) rfl)))).trans (said_first e3)) rfl) (ht3 S3)) (eB_go (aCons_go (eOp_go (eOp_go (eVar_go rfl) (eLst_go (xs:=[.non]) rfl z1) (oAdd_l (by have:=fl (fun w=>decide (v≤w)); rw [List.length_map,List.length_singleton]; omega))) rfl (hhi S3)) rfl) (ht3 S3)) ne_self))).trans rfl
theorem lap_loop {row l:List Int} (h10:row.length≤10) (hr:Row row) (hn:∀ x ∈ row,okN x) (hs:l.Pairwise (· ≤ ·)) (hm:∀ w,w ∈ l↔Wo KS row w) (hl:l.length≤3000) {b:Nat} (r0 r1 r6:Option D):∀ (ks:List Nat) (S:Sto) (r5 r7 r8 r9:Option D),Gr b S S→
  ∃ (S':Sto) (a5 a7 a8 a9:Option D),forL (.nm 5) lapB (ks.map fun (i:Nat)=>D.int i) [r0,r1,some (.ref b),some (tupI row),some (.lst (l.map .int)),r5,r6,r7,r8,r9] S=.ok (.nx [r0,r1,some (.ref b),some (tupI row),some (.lst (l.map .int)),a5,r6,a7,a8,a9]) S'
 | [],S,r5,r7,r8,r9,_=>⟨S,r5,r7,r8,r9,rfl⟩
 | i :: ks,S,r5,r7,r8,r9,g=>by
  obtain ⟨S1,a7,a8,a9,e1,g1⟩:=lap_ok h10 hr hn hs hm hl r0 r1 (some (.int i)) r6 r7 r8 r9 S g
  obtain ⟨S2,b5,b7,b8,b9,e2⟩:=lap_loop h10 hr hn hs hm hl r0 r1 r6 ks S1 (some (.int i)) a7 a8 a9 g1.self
  exact ⟨S2,b5,b7,b8,b9,(forL_cons (r1:=[r0,r1,some (.ref b),some (tupI row),some (.lst (l.map .int)),some (.int i),r6,r7,r8,r9]) rfl e1).trans e2⟩
theorem most_ix (S:Sto):∀ k:Nat,k < 3→∃ m:Nat,(m=10 ∨ m=7)∧oIx S (.lst [.int 10,.int 7,.int 7]) (.int k)=some (.int m)
 | 0,_=>⟨10,.inl rfl,rfl⟩
 | 1,_=>⟨7,.inr rfl,rfl⟩
 | 2,_=>⟨7,.inr rfl,rfl⟩
 | k + 3,h=>by omega
theorem law_turn (ns:List Int) {k:Nat} (hk:k < 3) (S:Sto) (r2 r3 r4 r5 r6 r7 r8 r9:Option D):∃ (S':Sto) (a2 a3 a4 a5 a6 a7 a8 a9:Option D),lawB [some (.fz (ns.map .int)),some (.int k),r2,r3,r4,r5,r6,r7,r8,r9] S=.ok (.nx [some (.fz (ns.map .int)),some (.int k),a2,a3,a4,a5,a6,a7,a8,a9]) S':=by
 obtain ⟨v,e0⟩:=box_ok ns k S
 have g0:Gr S.length (S ++ [.lst [.int v]]) (S ++ [.lst [.int v]]):=⟨⟨v,by simp⟩,fun _ _ _=>rfl,Nat.le_refl _⟩
 obtain ⟨m,hm,hix⟩:=most_ix (S ++ [.lst [.int v]]) k hk
 obtain ⟨row,S1,e1,l1,p1,g1⟩:=row_ok g0 (most:=(m:Int)) ⟨by omega,by omega⟩
 have h10:row.length≤10:=by omega
 have hr:Row row:=⟨fun x hx=>(p1 x hx).1,by omega⟩
 have z1:(1:Nat)≤sizeLine:=by decide
 have z3:(3:Nat)≤sizeLine:=by decide
 have z6:(6:Nat)≤sizeLine:=by decide
 obtain ⟨S2,c,T,A,B,e2,hc,p2,hcl,hT,hA,hB⟩:=counts_ok h10 S1
 have hmem:∀ w,w ∈ wsS T↔Wo KS row w:=fun w=>by
  unfold wsS
  rw [(sortZ_perm _).mem_iff,List.mem_map,← ws_halves row w,← pairs_mem hT hA hB]
 have lT:T.length≤1024:=by
  refine Nat.le_trans hT.len ?_
  have bnd:∀ ys:List Int,ys.length≤5→(wsL KS ys).length≤32:=fun ys h=>by
   rw [ws_len]
   exact Nat.le_trans (Nat.pow_le_pow_right (by decide) h) (by decide)
  have lA:A.length≤32:=Nat.le_trans hA.len (bnd _ (by rw [List.length_take]; omega))
  have lB:B.length≤32:=Nat.le_trans hB.len (bnd _ (by rw [List.length_drop]; omega))
  rw [pairs_len]
  exact Nat.le_trans (Nat.mul_le_mul lA lB) (by decide)
 have hsr:=srt_big (.inl hc) (show T.length≤3000 by omega)
 have g2:=Pre.gr g1.self p2
 obtain ⟨S3,a5,a7,a8,a9,e3⟩:=lap_loop (l:=wsS T) h10 hr p1 (sortZ_sorted _) hmem (by rw [wsS_len]; omega) (some (.fz (ns.map .int))) (some (.int k)) r6 (List.range 4) S2 r5 r7 r8 r9 g2.self
 obtain ⟨a6,e4⟩:=th_loop hr (some (.fz (ns.map .int))) (some (.int k)) (some (.ref S.length)) (some (.lst ((wsS T).map .int))) a5 a7 a8 a9 S3 [.non,.bl true,.str "1",.tup [.int 1],.lst [.int 1],.dic []] r6 (fun d hd=>by
  simp only [List.mem_cons,List.not_mem_nil,or_false] at hd
  rcases hd with rfl | rfl | rfl | rfl | rfl | rfl <;> exact ⟨rfl,rfl⟩)
 have hth:(eLst (aCons (eC .non) (aCons (eC (.bl true)) (aCons (eC (.str "1")) (aCons (eTup (aCons (eC (.int 1)) aNil)) (aCons (eLst (aCons (eC (.int 1)) aNil)) (aCons (eDic []) aNil))))))) [some (.fz (ns.map .int)),some (.int k),some (.ref S.length),some (tupI row),some (.lst ((wsS T).map .int)),a5,r6,a7,a8,a9] S3=.ok (.lst [.non,.bl true,.str "1",.tup [.int 1],.lst [.int 1],.dic []]) S3:=
  eLst_go (aCons_go rfl (aCons_go rfl (aCons_go rfl (aCons_go (eTup_go (xs:=[.int 1]) rfl z1) (aCons_go (eLst_go (xs:=[.int 1]) rfl z1) (aCons_go rfl rfl)))))) z6
 exact ⟨S3,some (.ref S.length),some (tupI row),some (.lst ((wsS T).map .int)),a5,a6,a7,a8,a9,(sSeq_go (sSet_go ((eCall_go (aCons_go (eVar_go rfl) (aCons_go (eVar_go rfl) rfl))).trans e0))).trans ((sSeq_go (sSet_go ((eCall_go (aCons_go (eVar_go rfl) (aCons_go (eOp_go (eLst_go (xs:=[.int 10,.int 7,.int 7]) rfl z3) (eVar_go rfl) hix) rfl))).trans e1))).trans ((sSeq_go (sSet_go (eB_go (aCons_go ((eCall_go (aCons_go (eVar_go rfl) rfl)).trans e2) rfl) hsr))).trans ((sSeq_go ((sFor_go (aRange1_ok (n:=4) rfl (by decide))).trans e3)).trans ((sFor_seq hth rfl).trans e4))))⟩
theorem law_loop (ns:List Int):∀ (l:List Nat) (S:Sto) (r1 r2 r3 r4 r5 r6 r7 r8 r9:Option D),(∀ k ∈ l,k < 3)→∃ (S':Sto) (ρ:Rho),forL (.nm 1) lawB (l.map fun (i:Nat)=>D.int i) [some (.fz (ns.map .int)),r1,r2,r3,r4,r5,r6,r7,r8,r9] S=.ok (.nx ρ) S'
 | [],S,r1,r2,r3,r4,r5,r6,r7,r8,r9,_=>⟨S,_,rfl⟩
 | k :: l,S,r1,r2,r3,r4,r5,r6,r7,r8,r9,h=>by
  obtain ⟨S1,a2,a3,a4,a5,a6,a7,a8,a9,e1⟩:=law_turn ns (h k (.head _)) S r2 r3 r4 r5 r6 r7 r8 r9
  obtain ⟨S2,ρ,e2⟩:=law_loop ns l S1 (some (.int k)) a2 a3 a4 a5 a6 a7 a8 a9 fun j hj=>h j (.tail _ hj)
  exact ⟨S2,ρ,(forL_cons (r1:=[some (.fz (ns.map .int)),some (.int k),r2,r3,r4,r5,r6,r7,r8,r9]) rfl e1).trans e2⟩
theorem law_true (ns:List Int) (hn:ns.length≤63):∃ S,F_law [.fz (ns.map .int)] []=.ok (.bl true) S:=by
 obtain ⟨n,hg,hn3⟩:=laps_le ns 3 hn (by decide) [some (.fz (ns.map .int)),none,none,none,none,none,none,none,none,none] rfl []
 obtain ⟨S,ρ,e⟩:=law_loop ns (List.range n) [] none none none none none none none none none fun k hk=>by have:=List.mem_range.mp hk; omega
 exact ⟨S,fnM_rt (ρ:=[some (.fz (ns.map .int)),none,none,none,none,none,none,none,none,none]) rfl ((sSeq_go ((sFor_go hg).trans e)).trans (sRet_go rfl))⟩
set_option maxHeartbeats 4000000
theorem boo_ValueError:bootBuiltins "ValueError" = some (.type "ValueError"):=by decide +kernel
theorem boo_abs:bootBuiltins "abs" = some (.builtin "abs"):=by decide +kernel
theorem boo_all:bootBuiltins "all" = some (.builtin "all"):=by decide +kernel
theorem boo_bool:bootBuiltins "bool" = some (.type "bool"):=by decide +kernel
theorem boo_divmod:bootBuiltins "divmod" = some (.builtin "divmod"):=by decide +kernel
theorem boo_int:bootBuiltins "int" = some (.type "int"):=by decide +kernel
theorem boo_isinstance:bootBuiltins "isinstance" = some (.builtin "isinstance"):=by decide +kernel
theorem boo_len:bootBuiltins "len" = some (.builtin "len"):=by decide +kernel
theorem boo_max:bootBuiltins "max" = some (.builtin "max"):=by decide +kernel
theorem boo_min:bootBuiltins "min" = some (.builtin "min"):=by decide +kernel
theorem boo_repr:bootBuiltins "repr" = some (.builtin "repr"):=by decide +kernel
theorem boo_sorted:bootBuiltins "sorted" = some (.builtin "sorted"):=by decide +kernel
theorem boo_sum:bootBuiltins "sum" = some (.builtin "sum"):=by decide +kernel
theorem boo_tuple:bootBuiltins "tuple" = some (.type "tuple"):=by decide +kernel
structure Txt (K:PySem.W.Frag) (mg:Str→Option Value):Prop where
 cl:Cls K raisedX askedX isaX
 x_NoNumber:XC K mg "NoNumber"
 x_NoRow:XC K mg "NoRow"
 v_Lacking:ClsAt K mg "Lacking"
 v_NoNumber:ClsAt K mg "NoNumber"
 v_NoRow:ClsAt K mg "NoRow"
 v_NoSigns:ClsAt K mg "NoSigns"
 v_NoText:ClsAt K mg "NoText"
 v_PlusError:ClsAt K mg "PlusError"
 v_TooMany:ClsAt K mg "TooMany"
 tr:TryAt K mg "PlusError" raisedX
 b_ValueError:mg "ValueError" = none
 b_abs:mg "abs" = none
 b_all:mg "all" = none
 b_bool:mg "bool" = none
 b_divmod:mg "divmod" = none
 b_int:mg "int" = none
 b_isinstance:mg "isinstance" = none
 b_len:mg "len" = none
 b_max:mg "max" = none
 b_min:mg "min" = none
 b_range:mg "range" = none
 b_repr:mg "repr" = none
 b_sorted:mg "sorted" = none
 b_sum:mg "sum" = none
 b_tuple:mg "tuple" = none
 c_LONGEST_ROW:∃ t,mg "LONGEST_ROW" = some (.int 16 t)
 m_SIGNS:TupAt K mg "SIGNS" [(-1),(1)]
section
variable {P:Program} {w:World} {K:PySem.W.Frag} {mg:Str→Option Value} {base:Heap}
theorem sc__law_cell:FnScope ["script","k"] ["script","k"] (defScope st__law_cell):=⟨by kernel_rfl,by kernel_rfl,by kernel_rfl,by decide +kernel,rfl,by decide +kernel,by decide +kernel⟩
theorem ok__law_cell {f:Addr} {fd:FuncData} (F:Fun K "_law_cell" "_law_cell" st__law_cell f fd) (hm:mg "_law_cell" = some (.ref f)) (hb:Binds K fd ["script","k"] []) (T:Txt K mg) :DefN P w K mg base "_law_cell" 1 2 F__law_cell:=
 def_ofN ["script","k"] ["script","k"] 0 1 2 2 rfl rfl rfl F hm hb sc__law_cell (m:=m__law_cell) fun cdv A outer s H E hr=>(ss_cons (ss_if (st_cmp xo_lt (se_var 1 (by kernel_rfl) (Or.inl (by kernel_rfl))) (se_callB xc_len (by unfold Gl; kernel_rfl) T.b_len boo_len (sa_cons (se_var 0 (by kernel_rfl) (Or.inl (by kernel_rfl))) sa_nil))) (ss_one (ss_ret (se_ix xi_ix (se_var 0 (by kernel_rfl) (Or.inl (by kernel_rfl))) (se_var 1 (by kernel_rfl) (Or.inl (by kernel_rfl)))))) ss_nil) (ss_one (ss_ret se_int)))
theorem sc__law_mix:FnScope ["cell","k","some","stir"] ["cell","k"] (defScope st__law_mix):=⟨by kernel_rfl,by kernel_rfl,by kernel_rfl,by decide +kernel,rfl,by decide +kernel,by decide +kernel⟩
theorem ok__law_mix {f:Addr} {fd:FuncData} (F:Fun K "_law_mix" "_law_mix" st__law_mix f fd) (hm:mg "_law_mix" = some (.ref f)) (hb:Binds K fd ["cell","k"] []) (T:Txt K mg) :DefN P w K mg base "_law_mix" 1 2 F__law_mix:=
 def_ofN ["cell","k","some","stir"] ["cell","k"] 0 1 2 4 rfl rfl rfl F hm hb sc__law_mix (m:=m__law_mix) fun cdv A outer s H E hr=>(ss_cons (ss_set sc__law_mix.nd (by kernel_rfl) (Or.inl (by kernel_rfl)) (se_lst (sa_cons se_int (sa_cons se_int (sa_cons se_int (sa_cons se_int (sa_cons se_int (sa_cons se_int (sa_cons se_int (sa_cons se_int (sa_cons se_int (sa_cons se_int (sa_cons se_int (sa_cons se_int (sa_cons se_int sa_nil))))))))))))))) (ss_cons (ss_set sc__law_mix.nd (by kernel_rfl) (Or.inl (by kernel_rfl)) (se_op xo_add (se_op xo_add (se_op xo_mul (se_op xo_add (se_op xo_mod (se_var 0 (by kernel_rfl) (Or.inl (by kernel_rfl))) se_int) se_int) (se_ix xi_ix (se_var 2 (by kernel_rfl) (Or.inl (by kernel_rfl))) (se_op xo_mod (se_var 1 (by kernel_rfl) (Or.inl (by kernel_rfl))) se_int))) (se_op xo_mul se_int (se_var 1 (by kernel_rfl) (Or.inl (by kernel_rfl))))) (se_op xo_mul se_int (se_op xo_fdiv (se_var 1 (by kernel_rfl) (Or.inl (by kernel_rfl))) se_int)))) (ss_cons (ss_set sc__law_mix.nd (by kernel_rfl) (Or.inl (by kernel_rfl)) (se_op xo_mod (se_var 3 (by kernel_rfl) (Or.inl (by kernel_rfl))) se_int)) (ss_one (ss_ret (se_op xo_fdiv (se_op xo_mod (se_op xo_add (se_op xo_mul (se_var 3 (by kernel_rfl) (Or.inl (by kernel_rfl))) (se_var 3 (by kernel_rfl) (Or.inl (by kernel_rfl)))) (se_op xo_mul se_int (se_var 1 (by kernel_rfl) (Or.inl (by kernel_rfl))))) se_int) se_int))))))
theorem sc__law_box:FnScope ["script","k","cell","number","j"] ["script","k"] (defScope st__law_box):=⟨by kernel_rfl,by kernel_rfl,by kernel_rfl,by decide +kernel,rfl,by decide +kernel,by decide +kernel⟩
theorem ok__law_box {f:Addr} {fd:FuncData} (F:Fun K "_law_box" "_law_box" st__law_box f fd) (hm:mg "_law_box" = some (.ref f)) (hb:Binds K fd ["script","k"] []) (T:Txt K mg) (d__law_cell:DefN P w K mg base "_law_cell" 1 2 F__law_cell) (d__law_mix:DefN P w K mg base "_law_mix" 1 2 F__law_mix):DefN P w K mg base "_law_box" 2 2 F__law_box:=
 def_ofN ["script","k","cell","number","j"] ["script","k"] 1 2 2 5 rfl rfl rfl F hm hb sc__law_box (m:=m__law_box) fun cdv A outer s H E hr=>(ss_cons (ss_set sc__law_box.nd (by kernel_rfl) (Or.inl (by kernel_rfl)) (se_fnN d__law_cell (hr.mono (by decide)) (by unfold Gl; kernel_rfl) (sa_cons (se_var 0 (by kernel_rfl) (Or.inl (by kernel_rfl))) (sa_cons (se_var 1 (by kernel_rfl) (Or.inl (by kernel_rfl))) sa_nil)) (alen_cons (alen_cons alen_nil)))) (ss_cons (ss_if (st_cmp (xo_eqP hr) (se_op xo_mod (se_var 2 (by kernel_rfl) (Or.inl (by kernel_rfl))) se_int) se_int) (ss_one (ss_ret (se_new (sa_cons (se_op xo_fdiv (se_callB xc_abs (by unfold Gl; kernel_rfl) T.b_abs boo_abs (sa_cons (se_var 2 (by kernel_rfl) (Or.inl (by kernel_rfl))) sa_nil)) se_int) sa_nil)))) ss_nil) (ss_cons (ss_set sc__law_box.nd (by kernel_rfl) (Or.inl (by kernel_rfl)) se_int) (ss_cons (ss_for PassesOwn.never rfl (si_range1 (by unfold Gl; kernel_rfl) T.b_range (sa_cons se_int sa_nil)) (sg_name sc__law_box.nd (by kernel_rfl) (Or.inl (by kernel_rfl))) (ss_one (ss_set sc__law_box.nd (by kernel_rfl) (Or.inl (by kernel_rfl)) (se_op xo_add (se_op xo_mul (se_var 3 (by kernel_rfl) (Or.inl (by kernel_rfl))) se_int) (se_fnN d__law_mix (hr.mono (by decide)) (by unfold Gl; kernel_rfl) (sa_cons (se_var 2 (by kernel_rfl) (Or.inl (by kernel_rfl))) (sa_cons (se_var 4 (by kernel_rfl) (Or.inl (by kernel_rfl))) sa_nil)) (alen_cons (alen_cons alen_nil))))))) (ss_one (ss_ret (se_new (sa_cons (se_var 3 (by kernel_rfl) (Or.inl (by kernel_rfl))) sa_nil))))))))
theorem sc__law_halves:FnScope ["row","half"] ["row"] (defScope st__law_halves):=⟨by kernel_rfl,by kernel_rfl,by kernel_rfl,by decide +kernel,rfl,by decide +kernel,by decide +kernel⟩
theorem ok__law_halves {f:Addr} {fd:FuncData} (F:Fun K "_law_halves" "_law_halves" st__law_halves f fd) (hm:mg "_law_halves" = some (.ref f)) (hb:Binds K fd ["row"] []) (T:Txt K mg) :DefN P w K mg base "_law_halves" 1 1 F__law_halves:=
 def_ofN ["row","half"] ["row"] 0 1 1 2 rfl rfl rfl F hm hb sc__law_halves (m:=m__law_halves) fun cdv A outer s H E hr=>(ss_cons (ss_set sc__law_halves.nd (by kernel_rfl) (Or.inl (by kernel_rfl)) (se_op xo_fdiv (se_callB xc_len (by unfold Gl; kernel_rfl) T.b_len boo_len (sa_cons (se_var 0 (by kernel_rfl) (Or.inl (by kernel_rfl))) sa_nil)) se_int)) (ss_one (ss_ret (se_tup (sa_cons (se_sl xl_tup (se_var 0 (by kernel_rfl) (Or.inl (by kernel_rfl))) so_none (so_some (se_var 1 (by kernel_rfl) (Or.inl (by kernel_rfl))))) (sa_cons (se_sl xl_tup (se_var 0 (by kernel_rfl) (Or.inl (by kernel_rfl))) (so_some (se_var 1 (by kernel_rfl) (Or.inl (by kernel_rfl)))) so_none) sa_nil))))))
theorem sc__law_all:FnScope ["many","kinds","found","k","more","some"] ["many","kinds"] (defScope st__law_all):=⟨by kernel_rfl,by kernel_rfl,by kernel_rfl,by decide +kernel,rfl,by decide +kernel,by decide +kernel⟩
theorem ok__law_all {f:Addr} {fd:FuncData} (F:Fun K "_law_all" "_law_all" st__law_all f fd) (hm:mg "_law_all" = some (.ref f)) (hb:Binds K fd ["many","kinds"] []) (T:Txt K mg) :DefN P w K mg base "_law_all" 1 2 F__law_all:=
 def_ofN ["many","kinds","found","k","more","some"] ["many","kinds"] 0 1 2 6 rfl rfl rfl F hm hb sc__law_all (m:=m__law_all) fun cdv A outer s H E hr=>(ss_cons (ss_set sc__law_all.nd (by kernel_rfl) (Or.inl (by kernel_rfl)) (se_lst (sa_cons (se_tup sa_nil) sa_nil))) (ss_cons (ss_for PassesOwn.never rfl (si_range1 (by unfold Gl; kernel_rfl) T.b_range (sa_cons (se_var 0 (by kernel_rfl) (Or.inl (by kernel_rfl))) sa_nil)) (sg_name sc__law_all.nd (by kernel_rfl) (Or.inl (by kernel_rfl))) (ss_cons (ss_set sc__law_all.nd (by kernel_rfl) (Or.inl (by kernel_rfl)) (se_lst sa_nil)) (ss_cons (ss_for PassesOwn.never rfl (si_seq (se_var 2 (by kernel_rfl) (Or.inl (by kernel_rfl)))) (sg_name sc__law_all.nd (by kernel_rfl) (Or.inr (by kernel_rfl))) (ss_one (ss_set sc__law_all.nd (by kernel_rfl) (Or.inl (by kernel_rfl)) (se_op xo_add (se_var 4 (by kernel_rfl) (Or.inl (by kernel_rfl))) (se_comp (N:=["part","some"]) (k:=1) (caps:=[5]) rfl (fun _ _ z=>z) (cs_mk (by kernel_rfl) (by kernel_rfl) (by kernel_rfl) (by kernel_rfl) rfl (by kernel_rfl)) (si_seq (se_var 1 (by kernel_rfl) (Or.inl (by kernel_rfl)))) (fun _ _ _ _=>(sg_name (show (["part","some"]:List Str).Nodup by decide +kernel) (by kernel_rfl) (Or.inl (by kernel_rfl)))) (fun _ _ _ _=>sif_nil) (fun _ _ _ _=>(se_op xo_add (se_var 1 (by kernel_rfl) (Or.inr (Or.inl (by kernel_rfl)))) (se_tup (sa_cons (se_var 0 (by kernel_rfl) (Or.inl (by kernel_rfl))) sa_nil))))))))) (ss_one (ss_set sc__law_all.nd (by kernel_rfl) (Or.inl (by kernel_rfl)) (se_var 4 (by kernel_rfl) (Or.inl (by kernel_rfl)))))))) (ss_one (ss_ret (se_var 2 (by kernel_rfl) (Or.inl (by kernel_rfl)))))))
theorem sc__law_worth:FnScope ["row","parts","found","at"] ["row","parts"] (defScope st__law_worth):=⟨by kernel_rfl,by kernel_rfl,by kernel_rfl,by decide +kernel,rfl,by decide +kernel,by decide +kernel⟩
theorem ok__law_worth {f:Addr} {fd:FuncData} (F:Fun K "_law_worth" "_law_worth" st__law_worth f fd) (hm:mg "_law_worth" = some (.ref f)) (hb:Binds K fd ["row","parts"] []) (T:Txt K mg) :DefN P w K mg base "_law_worth" 1 2 F__law_worth:=
 def_ofN ["row","parts","found","at"] ["row","parts"] 0 1 2 4 rfl rfl rfl F hm hb sc__law_worth (m:=m__law_worth) fun cdv A outer s H E hr=>(ss_cons (ss_set sc__law_worth.nd (by kernel_rfl) (Or.inl (by kernel_rfl)) se_int) (ss_cons (ss_for PassesOwn.never rfl (si_range1 (by unfold Gl; kernel_rfl) T.b_range (sa_cons (se_callB xc_len (by unfold Gl; kernel_rfl) T.b_len boo_len (sa_cons (se_var 0 (by kernel_rfl) (Or.inl (by kernel_rfl))) sa_nil)) sa_nil)) (sg_name sc__law_worth.nd (by kernel_rfl) (Or.inl (by kernel_rfl))) (ss_one (ss_set sc__law_worth.nd (by kernel_rfl) (Or.inl (by kernel_rfl)) (se_op xo_add (se_var 2 (by kernel_rfl) (Or.inl (by kernel_rfl))) (se_op xo_mul (se_ix xi_ix (se_var 0 (by kernel_rfl) (Or.inl (by kernel_rfl))) (se_var 3 (by kernel_rfl) (Or.inl (by kernel_rfl)))) (se_ix xi_ix (se_var 1 (by kernel_rfl) (Or.inl (by kernel_rfl))) (se_var 3 (by kernel_rfl) (Or.inl (by kernel_rfl))))))))) (ss_one (ss_ret (se_var 2 (by kernel_rfl) (Or.inl (by kernel_rfl)))))))
theorem sc__law_table:FnScope ["row","kinds","found","parts","here"] ["row","kinds"] (defScope st__law_table):=⟨by kernel_rfl,by kernel_rfl,by kernel_rfl,by decide +kernel,rfl,by decide +kernel,by decide +kernel⟩
theorem ok__law_table {f:Addr} {fd:FuncData} (F:Fun K "_law_table" "_law_table" st__law_table f fd) (hm:mg "_law_table" = some (.ref f)) (hb:Binds K fd ["row","kinds"] []) (T:Txt K mg) (d__law_all:DefN P w K mg base "_law_all" 1 2 F__law_all) (d__law_worth:DefN P w K mg base "_law_worth" 1 2 F__law_worth):DefN P w K mg base "_law_table" 2 2 F__law_table:=
 def_ofN ["row","kinds","found","parts","here"] ["row","kinds"] 1 2 2 5 rfl rfl rfl F hm hb sc__law_table (m:=m__law_table) fun cdv A outer s H E hr=>(ss_cons (ss_set sc__law_table.nd (by kernel_rfl) (Or.inl (by kernel_rfl)) se_dicE) (ss_cons (ss_for PassesOwn.never rfl (si_seq (se_fnN d__law_all (hr.mono (by decide)) (by unfold Gl; kernel_rfl) (sa_cons (se_callB xc_len (by unfold Gl; kernel_rfl) T.b_len boo_len (sa_cons (se_var 0 (by kernel_rfl) (Or.inl (by kernel_rfl))) sa_nil)) (sa_cons (se_var 1 (by kernel_rfl) (Or.inl (by kernel_rfl))) sa_nil)) (alen_cons (alen_cons alen_nil)))) (sg_name sc__law_table.nd (by kernel_rfl) (Or.inl (by kernel_rfl))) (ss_cons (ss_set sc__law_table.nd (by kernel_rfl) (Or.inl (by kernel_rfl)) (se_fnN d__law_worth (hr.mono (by decide)) (by unfold Gl; kernel_rfl) (sa_cons (se_var 0 (by kernel_rfl) (Or.inl (by kernel_rfl))) (sa_cons (se_var 3 (by kernel_rfl) (Or.inl (by kernel_rfl))) sa_nil)) (alen_cons (alen_cons alen_nil)))) (ss_one (ss_put (xs_putD hr) (se_op xo_add (se_get2 hr (se_var 2 (by kernel_rfl) (Or.inl (by kernel_rfl))) (se_var 4 (by kernel_rfl) (Or.inl (by kernel_rfl))) se_int (m2_mk (by kernel_rfl) (by kernel_rfl) (by kernel_rfl) (by kernel_rfl))) se_int) (se_var 2 (by kernel_rfl) (Or.inl (by kernel_rfl))) (se_var 4 (by kernel_rfl) (Or.inl (by kernel_rfl))))))) (ss_one (ss_ret (se_var 2 (by kernel_rfl) (Or.inl (by kernel_rfl)))))))
theorem sc__law_counts:FnScope ["row","one","other","first","second","found","here","there"] ["row"] (defScope st__law_counts):=⟨by kernel_rfl,by kernel_rfl,by kernel_rfl,by decide +kernel,rfl,by decide +kernel,by decide +kernel⟩
theorem ok__law_counts {f:Addr} {fd:FuncData} (F:Fun K "_law_counts" "_law_counts" st__law_counts f fd) (hm:mg "_law_counts" = some (.ref f)) (hb:Binds K fd ["row"] []) (T:Txt K mg) (d__law_halves:DefN P w K mg base "_law_halves" 1 1 F__law_halves) (d__law_table:DefN P w K mg base "_law_table" 2 2 F__law_table):DefN P w K mg base "_law_counts" 3 1 F__law_counts:=
 def_ofN ["row","one","other","first","second","found","here","there"] ["row"] 2 3 1 8 rfl rfl rfl F hm hb sc__law_counts (m:=m__law_counts) fun cdv A outer s H E hr=>(ss_cons (ss_asg (se_fnN d__law_halves (hr.mono (by decide)) (by unfold Gl; kernel_rfl) (sa_cons (se_var 0 (by kernel_rfl) (Or.inl (by kernel_rfl))) sa_nil) (alen_cons alen_nil)) (sg_tup rfl (sgs_cons (sg_name sc__law_counts.nd (by kernel_rfl) (Or.inl (by kernel_rfl))) (sgs_cons (sg_name sc__law_counts.nd (by kernel_rfl) (Or.inl (by kernel_rfl))) sgs_nil)))) (ss_cons (ss_par rfl sc__law_counts.nd (by kernel_rfl) (by kernel_rfl) (by decide) (by kernel_rfl) (by kernel_rfl) (sa_cons (se_fnN d__law_table (hr.mono (by decide)) (by unfold Gl; kernel_rfl) (sa_cons (se_var 1 (by kernel_rfl) (Or.inl (by kernel_rfl))) (sa_cons (se_tup (sa_cons (se_un xu_neg se_int) (sa_cons se_int sa_nil))) sa_nil)) (alen_cons (alen_cons alen_nil))) (sa_cons (se_fnN d__law_table (hr.mono (by decide)) (by unfold Gl; kernel_rfl) (sa_cons (se_var 2 (by kernel_rfl) (Or.inl (by kernel_rfl))) (sa_cons (se_tup (sa_cons (se_un xu_neg se_int) (sa_cons se_int sa_nil))) sa_nil)) (alen_cons (alen_cons alen_nil))) sa_nil))) (ss_cons (ss_set sc__law_counts.nd (by kernel_rfl) (Or.inl (by kernel_rfl)) se_dicE) (ss_cons (ss_for PassesOwn.never rfl (si_keys (se_var 3 (by kernel_rfl) (Or.inl (by kernel_rfl)))) (sg_name sc__law_counts.nd (by kernel_rfl) (Or.inl (by kernel_rfl))) (ss_one (ss_for PassesOwn.never rfl (si_keys (se_var 4 (by kernel_rfl) (Or.inl (by kernel_rfl)))) (sg_name sc__law_counts.nd (by kernel_rfl) (Or.inl (by kernel_rfl))) (ss_one (ss_put (xs_putD hr) (se_op xo_add (se_get2 hr (se_var 5 (by kernel_rfl) (Or.inl (by kernel_rfl))) (se_op xo_add (se_var 6 (by kernel_rfl) (Or.inl (by kernel_rfl))) (se_var 7 (by kernel_rfl) (Or.inl (by kernel_rfl)))) se_int (m2_mk (by kernel_rfl) (by kernel_rfl) (by kernel_rfl) (by kernel_rfl))) (se_op xo_mul (se_ix (xi_ixD hr) (se_var 3 (by kernel_rfl) (Or.inl (by kernel_rfl))) (se_var 6 (by kernel_rfl) (Or.inl (by kernel_rfl)))) (se_ix (xi_ixD hr) (se_var 4 (by kernel_rfl) (Or.inl (by kernel_rfl))) (se_var 7 (by kernel_rfl) (Or.inl (by kernel_rfl)))))) (se_var 5 (by kernel_rfl) (Or.inl (by kernel_rfl))) (se_op xo_add (se_var 6 (by kernel_rfl) (Or.inl (by kernel_rfl))) (se_var 7 (by kernel_rfl) (Or.inl (by kernel_rfl))))))))) (ss_one (ss_ret (se_var 5 (by kernel_rfl) (Or.inl (by kernel_rfl)))))))))
theorem sc__law_take:FnScope ["box","many","left","digit"] ["box","many"] (defScope st__law_take):=⟨by kernel_rfl,by kernel_rfl,by kernel_rfl,by decide +kernel,rfl,by decide +kernel,by decide +kernel⟩
theorem ok__law_take {f:Addr} {fd:FuncData} (F:Fun K "_law_take" "_law_take" st__law_take f fd) (hm:mg "_law_take" = some (.ref f)) (hb:Binds K fd ["box","many"] []) (T:Txt K mg) :DefN P w K mg base "_law_take" 1 2 F__law_take:=
 def_ofN ["box","many","left","digit"] ["box","many"] 0 1 2 4 rfl rfl rfl F hm hb sc__law_take (m:=m__law_take) fun cdv A outer s H E hr=>(ss_cons (ss_asg (se_callB xc_divmod (by unfold Gl; kernel_rfl) T.b_divmod boo_divmod (sa_cons (se_ix xi_ix (se_var 0 (by kernel_rfl) (Or.inl (by kernel_rfl))) se_int) (sa_cons (se_var 1 (by kernel_rfl) (Or.inl (by kernel_rfl))) sa_nil))) (sg_tup rfl (sgs_cons (sg_name sc__law_take.nd (by kernel_rfl) (Or.inl (by kernel_rfl))) (sgs_cons (sg_name sc__law_take.nd (by kernel_rfl) (Or.inl (by kernel_rfl))) sgs_nil)))) (ss_cons (ss_put xs_put (se_var 2 (by kernel_rfl) (Or.inl (by kernel_rfl))) (se_var 0 (by kernel_rfl) (Or.inl (by kernel_rfl))) se_int) (ss_one (ss_ret (se_var 3 (by kernel_rfl) (Or.inl (by kernel_rfl)))))))
theorem sc__law_number:FnScope ["box","row","high","small","some"] ["box","row"] (defScope st__law_number):=⟨by kernel_rfl,by kernel_rfl,by kernel_rfl,by decide +kernel,rfl,by decide +kernel,by decide +kernel⟩
theorem ok__law_number {f:Addr} {fd:FuncData} (F:Fun K "_law_number" "_law_number" st__law_number f fd) (hm:mg "_law_number" = some (.ref f)) (hb:Binds K fd ["box","row"] []) (T:Txt K mg) (d__law_take:DefN P w K mg base "_law_take" 1 2 F__law_take):DefN P w K mg base "_law_number" 2 2 F__law_number:=
 def_ofN ["box","row","high","small","some"] ["box","row"] 1 2 2 5 rfl rfl rfl F hm hb sc__law_number (m:=m__law_number) fun cdv A outer s H E hr=>(ss_cons (ss_set sc__law_number.nd (by kernel_rfl) (Or.inl (by kernel_rfl)) (se_callB (xc_sum rfl) (by unfold Gl; kernel_rfl) T.b_sum boo_sum (sa_cons (se_var 1 (by kernel_rfl) (Or.inl (by kernel_rfl))) sa_nil))) (ss_cons (ss_set sc__law_number.nd (by kernel_rfl) (Or.inl (by kernel_rfl)) (se_op xo_sub (se_fnN d__law_take (hr.mono (by decide)) (by unfold Gl; kernel_rfl) (sa_cons (se_var 0 (by kernel_rfl) (Or.inl (by kernel_rfl))) (sa_cons se_int sa_nil)) (alen_cons (alen_cons alen_nil))) se_int)) (ss_cons (ss_set sc__law_number.nd (by kernel_rfl) (Or.inl (by kernel_rfl)) (se_lst (sa_cons se_int (sa_cons (se_var 2 (by kernel_rfl) (Or.inl (by kernel_rfl))) (sa_cons (se_op xo_sub se_int (se_var 2 (by kernel_rfl) (Or.inl (by kernel_rfl)))) (sa_cons (se_op xo_sub (se_var 2 (by kernel_rfl) (Or.inl (by kernel_rfl))) se_int) (sa_cons (se_var 3 (by kernel_rfl) (Or.inl (by kernel_rfl))) (sa_cons (se_op xo_add (se_op xo_add (se_var 2 (by kernel_rfl) (Or.inl (by kernel_rfl))) se_int) (se_op xo_mul (se_var 3 (by kernel_rfl) (Or.inl (by kernel_rfl))) (se_var 3 (by kernel_rfl) (Or.inl (by kernel_rfl))))) (sa_cons (se_var 3 (by kernel_rfl) (Or.inl (by kernel_rfl))) (sa_cons (se_op xo_sub (se_var 2 (by kernel_rfl) (Or.inl (by kernel_rfl))) (se_op xo_mul se_int (se_ix xi_ix (se_op xo_add (se_var 1 (by kernel_rfl) (Or.inl (by kernel_rfl))) (se_tup (sa_cons se_int sa_nil))) se_int))) (sa_cons (se_var 3 (by kernel_rfl) (Or.inl (by kernel_rfl))) sa_nil))))))))))) (ss_one (ss_ret (se_ix xi_ix (se_var 4 (by kernel_rfl) (Or.inl (by kernel_rfl))) (se_fnN d__law_take (hr.mono (by decide)) (by unfold Gl; kernel_rfl) (sa_cons (se_var 0 (by kernel_rfl) (Or.inl (by kernel_rfl))) (sa_cons se_int sa_nil)) (alen_cons (alen_cons alen_nil)))))))))
theorem sc__law_row:FnScope ["box","most","many","kind","base","found","k","given","some"] ["box","most"] (defScope st__law_row):=⟨by kernel_rfl,by kernel_rfl,by kernel_rfl,by decide +kernel,rfl,by decide +kernel,by decide +kernel⟩
theorem ok__law_row {f:Addr} {fd:FuncData} (F:Fun K "_law_row" "_law_row" st__law_row f fd) (hm:mg "_law_row" = some (.ref f)) (hb:Binds K fd ["box","most"] []) (T:Txt K mg) (d__law_take:DefN P w K mg base "_law_take" 1 2 F__law_take):DefN P w K mg base "_law_row" 2 2 F__law_row:=
 def_ofN ["box","most","many","kind","base","found","k","given","some"] ["box","most"] 1 2 2 9 rfl rfl rfl F hm hb sc__law_row (m:=m__law_row) fun cdv A outer s H E hr=>(ss_cons (ss_set sc__law_row.nd (by kernel_rfl) (Or.inl (by kernel_rfl)) (se_fnN d__law_take (hr.mono (by decide)) (by unfold Gl; kernel_rfl) (sa_cons (se_var 0 (by kernel_rfl) (Or.inl (by kernel_rfl))) (sa_cons (se_op xo_add (se_var 1 (by kernel_rfl) (Or.inl (by kernel_rfl))) se_int) sa_nil)) (alen_cons (alen_cons alen_nil)))) (ss_cons (ss_set sc__law_row.nd (by kernel_rfl) (Or.inl (by kernel_rfl)) (se_fnN d__law_take (hr.mono (by decide)) (by unfold Gl; kernel_rfl) (sa_cons (se_var 0 (by kernel_rfl) (Or.inl (by kernel_rfl))) (sa_cons se_int sa_nil)) (alen_cons (alen_cons alen_nil)))) (ss_cons (ss_set sc__law_row.nd (by kernel_rfl) (Or.inl (by kernel_rfl)) (se_op xo_add se_int (se_fnN d__law_take (hr.mono (by decide)) (by unfold Gl; kernel_rfl) (sa_cons (se_var 0 (by kernel_rfl) (Or.inl (by kernel_rfl))) (sa_cons se_int sa_nil)) (alen_cons (alen_cons alen_nil))))) (ss_cons (ss_set sc__law_row.nd (by kernel_rfl) (Or.inl (by kernel_rfl)) (se_new sa_nil)) (ss_cons (ss_for PassesOwn.never rfl (si_range1 (by unfold Gl; kernel_rfl) T.b_range (sa_cons (se_var 2 (by kernel_rfl) (Or.inl (by kernel_rfl))) sa_nil)) (sg_name sc__law_row.nd (by kernel_rfl) (Or.inl (by kernel_rfl))) (ss_cons (ss_set sc__law_row.nd (by kernel_rfl) (Or.inl (by kernel_rfl)) (se_op xo_add se_int (se_fnN d__law_take (hr.mono (by decide)) (by unfold Gl; kernel_rfl) (sa_cons (se_var 0 (by kernel_rfl) (Or.inl (by kernel_rfl))) (sa_cons se_int sa_nil)) (alen_cons (alen_cons alen_nil))))) (ss_cons (ss_set sc__law_row.nd (by kernel_rfl) (Or.inl (by kernel_rfl)) (se_lst (sa_cons (se_var 7 (by kernel_rfl) (Or.inl (by kernel_rfl))) (sa_cons (se_var 7 (by kernel_rfl) (Or.inl (by kernel_rfl))) (sa_cons (se_var 4 (by kernel_rfl) (Or.inl (by kernel_rfl))) (sa_cons (se_op xo_shl se_int (se_var 6 (by kernel_rfl) (Or.inl (by kernel_rfl)))) (sa_cons (se_op xo_add (se_var 4 (by kernel_rfl) (Or.inl (by kernel_rfl))) (se_op xo_mul (se_var 6 (by kernel_rfl) (Or.inl (by kernel_rfl))) (se_var 7 (by kernel_rfl) (Or.inl (by kernel_rfl))))) (sa_cons (se_op xo_mul (se_var 7 (by kernel_rfl) (Or.inl (by kernel_rfl))) (se_var 7 (by kernel_rfl) (Or.inl (by kernel_rfl)))) (sa_cons (se_op xo_add (se_op xo_mul (se_op xo_pow se_int se_int) (se_var 7 (by kernel_rfl) (Or.inl (by kernel_rfl)))) (se_var 7 (by kernel_rfl) (Or.inl (by kernel_rfl)))) sa_nil))))))))) (ss_one (ss_expr (se_mtL PySem.F.plainAttrs_list PySem.F.slot_list_append PySem.F.type_list_append xm_append (se_var 5 (by kernel_rfl) (Or.inl (by kernel_rfl))) (sa_cons (se_ix xi_ix (se_lst (sa_cons (se_ix xi_ix (se_var 8 (by kernel_rfl) (Or.inl (by kernel_rfl))) (se_var 3 (by kernel_rfl) (Or.inl (by kernel_rfl)))) (sa_cons (se_op xo_mul (se_var 4 (by kernel_rfl) (Or.inl (by kernel_rfl))) (se_var 7 (by kernel_rfl) (Or.inl (by kernel_rfl)))) sa_nil))) (se_callTy xc_int (by unfold Gl; kernel_rfl) T.b_int boo_int (sa_cons (se_cmp (xo_eqP hr) (se_fnN d__law_take (hr.mono (by decide)) (by unfold Gl; kernel_rfl) (sa_cons (se_var 0 (by kernel_rfl) (Or.inl (by kernel_rfl))) (sa_cons se_int sa_nil)) (alen_cons (alen_cons alen_nil))) se_int) sa_nil))) sa_nil))))))) (ss_one (ss_ret (se_callTy xc_tuple (by unfold Gl; kernel_rfl) T.b_tuple boo_tuple (sa_cons (se_var 5 (by kernel_rfl) (Or.inl (by kernel_rfl))) sa_nil)))))))))
theorem sc__law_marks:FnScope ["e","found"] ["e"] (defScope st__law_marks):=⟨by kernel_rfl,by kernel_rfl,by kernel_rfl,by decide +kernel,rfl,by decide +kernel,by decide +kernel⟩
theorem ok__law_marks {f:Addr} {fd:FuncData} (F:Fun K "_law_marks" "_law_marks" st__law_marks f fd) (hm:mg "_law_marks" = some (.ref f)) (hb:Binds K fd ["e"] []) (T:Txt K mg) :DefM P w K mg base "_law_marks" 1 1 F__law_marks:=
 def_ofM ["e","found"] ["e"] 0 1 1 2 rfl rfl rfl F hm hb sc__law_marks (m:=m__law_marks) fun cdv A outer s H hr=>(ss_cons (ss_if (sw_st (sw_or (st_not (st_val (se_callB (xc_isx T.cl) (by unfold Gl; kernel_rfl) T.b_isinstance boo_isinstance (sa_cons (se_var 0 (by kernel_rfl) (Or.inl (by kernel_rfl))) (sa_cons (se_cls T.v_PlusError (by unfold Gl; kernel_rfl)) sa_nil))))) (sw_or1 (st_not (st_val (se_callB (xc_isx T.cl) (by unfold Gl; kernel_rfl) T.b_isinstance boo_isinstance (sa_cons (se_var 0 (by kernel_rfl) (Or.inl (by kernel_rfl))) (sa_cons (se_ty (by unfold Gl; kernel_rfl) T.b_ValueError boo_ValueError) sa_nil)))))))) (ss_one (ss_ret se_str)) ss_nil) (ss_cons (ss_set sc__law_marks.nd (by kernel_rfl) (Or.inl (by kernel_rfl)) (se_lst (sa_cons (se_callB (xc_isx T.cl) (by unfold Gl; kernel_rfl) T.b_isinstance boo_isinstance (sa_cons (se_var 0 (by kernel_rfl) (Or.inl (by kernel_rfl))) (sa_cons (se_cls T.v_NoRow (by unfold Gl; kernel_rfl)) sa_nil))) (sa_cons (se_callB (xc_isx T.cl) (by unfold Gl; kernel_rfl) T.b_isinstance boo_isinstance (sa_cons (se_var 0 (by kernel_rfl) (Or.inl (by kernel_rfl))) (sa_cons (se_cls T.v_NoNumber (by unfold Gl; kernel_rfl)) sa_nil))) (sa_cons (se_callB (xc_isx T.cl) (by unfold Gl; kernel_rfl) T.b_isinstance boo_isinstance (sa_cons (se_var 0 (by kernel_rfl) (Or.inl (by kernel_rfl))) (sa_cons (se_cls T.v_NoSigns (by unfold Gl; kernel_rfl)) sa_nil))) (sa_cons (se_callB (xc_isx T.cl) (by unfold Gl; kernel_rfl) T.b_isinstance boo_isinstance (sa_cons (se_var 0 (by kernel_rfl) (Or.inl (by kernel_rfl))) (sa_cons (se_cls T.v_TooMany (by unfold Gl; kernel_rfl)) sa_nil))) sa_nil)))))) (ss_cons (ss_set sc__law_marks.nd (by kernel_rfl) (Or.inl (by kernel_rfl)) (se_op xo_add (se_var 1 (by kernel_rfl) (Or.inl (by kernel_rfl))) (se_lst (sa_cons (se_callB (xc_isx T.cl) (by unfold Gl; kernel_rfl) T.b_isinstance boo_isinstance (sa_cons (se_var 0 (by kernel_rfl) (Or.inl (by kernel_rfl))) (sa_cons (se_cls T.v_Lacking (by unfold Gl; kernel_rfl)) sa_nil))) (sa_cons (se_callB (xc_isx T.cl) (by unfold Gl; kernel_rfl) T.b_isinstance boo_isinstance (sa_cons (se_var 0 (by kernel_rfl) (Or.inl (by kernel_rfl))) (sa_cons (se_cls T.v_NoText (by unfold Gl; kernel_rfl)) sa_nil))) sa_nil))))) (ss_cons (ss_if (st_cmp xo_ne (se_mtL PySem.F.plainAttrs_list PySem.F.slot_list_count PySem.F.type_list_count xm_count (se_var 1 (by kernel_rfl) (Or.inl (by kernel_rfl))) (sa_cons se_bl sa_nil)) se_int) (ss_one (ss_ret se_str)) ss_nil) (ss_one (ss_ret (se_ix xi_ix (se_lst (sa_cons se_str (sa_cons se_str (sa_cons se_str (sa_cons se_str (sa_cons se_str (sa_cons se_str sa_nil))))))) (se_mtL PySem.F.plainAttrs_list PySem.F.slot_list_index PySem.F.type_list_index xm_index (se_var 1 (by kernel_rfl) (Or.inl (by kernel_rfl))) (sa_cons se_bl sa_nil)))))))))
theorem sc_is_whole:FnScope ["thing"] ["thing"] (defScope st_is_whole):=⟨by kernel_rfl,by kernel_rfl,by kernel_rfl,by decide +kernel,rfl,by decide +kernel,by decide +kernel⟩
theorem ok_is_whole {f:Addr} {fd:FuncData} (F:Fun K "is_whole" "is_whole" st_is_whole f fd) (hm:mg "is_whole" = some (.ref f)) (hb:Binds K fd ["thing"] []) (T:Txt K mg) :DefN P w K mg base "is_whole" 1 1 F_is_whole:=
 def_ofN ["thing"] ["thing"] 0 1 1 1 rfl rfl rfl F hm hb sc_is_whole (m:=m_is_whole) fun cdv A outer s H E hr=>(ss_one (ss_ret (se_and (se_callB xc_isi (by unfold Gl; kernel_rfl) T.b_isinstance boo_isinstance (sa_cons (se_var 0 (by kernel_rfl) (Or.inl (by kernel_rfl))) (sa_cons (se_ty (by unfold Gl; kernel_rfl) T.b_int boo_int) sa_nil))) (se_one (se_not (se_callB xc_isi (by unfold Gl; kernel_rfl) T.b_isinstance boo_isinstance (sa_cons (se_var 0 (by kernel_rfl) (Or.inl (by kernel_rfl))) (sa_cons (se_ty (by unfold Gl; kernel_rfl) T.b_bool boo_bool) sa_nil))))))))
theorem sc_need_number:FnScope ["thing"] ["thing"] (defScope st_need_number):=⟨by kernel_rfl,by kernel_rfl,by kernel_rfl,by decide +kernel,rfl,by decide +kernel,by decide +kernel⟩
theorem ok_need_number {f:Addr} {fd:FuncData} (F:Fun K "need_number" "need_number" st_need_number f fd) (hm:mg "need_number" = some (.ref f)) (hb:Binds K fd ["thing"] []) (T:Txt K mg) (d_is_whole:DefN P w K mg base "is_whole" 1 1 F_is_whole):DefR P w K mg base "need_number" 2 1 F_need_number:=
 def_ofR ["thing"] ["thing"] 1 2 1 1 rfl rfl rfl F hm hb sc_need_number (m:=m_need_number) fun cdv A outer s H E hr=>(ss_one (ss_if (st_nx (st_not (st_val (se_fnN d_is_whole (hr.mono (by decide)) (by unfold Gl; kernel_rfl) (sa_cons (se_var 0 (by kernel_rfl) (Or.inl (by kernel_rfl))) sa_nil) (alen_cons alen_nil))))) (ss_one (ss_raise T.x_NoNumber raises_cx hr.hd (by unfold Gl; kernel_rfl) (sa_cons se_str sa_nil))) ss_nil))
theorem sc_is_row:FnScope ["thing"] ["thing"] (defScope st_is_row):=⟨by kernel_rfl,by kernel_rfl,by kernel_rfl,by decide +kernel,rfl,by decide +kernel,by decide +kernel⟩
theorem ok_is_row {f:Addr} {fd:FuncData} (F:Fun K "is_row" "is_row" st_is_row f fd) (hm:mg "is_row" = some (.ref f)) (hb:Binds K fd ["thing"] []) (T:Txt K mg) (d_is_whole:DefN P w K mg base "is_whole" 1 1 F_is_whole):DefN P w K mg base "is_row" 2 1 F_is_row:=
 def_ofN ["thing"] ["thing"] 1 2 1 1 rfl rfl rfl F hm hb sc_is_row (m:=m_is_row) fun cdv A outer s H E hr=>(ss_cons (ss_if (sw_st (sw_or (st_not (st_val (se_callB xc_isi (by unfold Gl; kernel_rfl) T.b_isinstance boo_isinstance (sa_cons (se_var 0 (by kernel_rfl) (Or.inl (by kernel_rfl))) (sa_cons (se_ty (by unfold Gl; kernel_rfl) T.b_tuple boo_tuple) sa_nil))))) (sw_or1 (st_cmp xo_gt (se_callB xc_len (by unfold Gl; kernel_rfl) T.b_len boo_len (sa_cons (se_var 0 (by kernel_rfl) (Or.inl (by kernel_rfl))) sa_nil)) (se_gi T.c_LONGEST_ROW (by unfold Gl; kernel_rfl)))))) (ss_one (ss_ret se_bl)) ss_nil) (ss_one (ss_ret (se_callB (xc_all rfl) (by unfold Gl; kernel_rfl) T.b_all boo_all (sa_cons (se_comp (N:=["number"]) (k:=1) (caps:=[]) rfl (fun _ _ z=>z) (cs_mk (by kernel_rfl) (by kernel_rfl) (by kernel_rfl) (by kernel_rfl) rfl (by kernel_rfl)) (si_seq (se_var 0 (by kernel_rfl) (Or.inl (by kernel_rfl)))) (fun _ _ _ _=>(sg_name (show (["number"]:List Str).Nodup by decide +kernel) (by kernel_rfl) (Or.inl (by kernel_rfl)))) (fun _ _ _ _=>sif_nil) (fun _ _ _ _=>(se_and (se_fnN d_is_whole (hr.mono (by decide)) (by unfold Gl; kernel_rfl) (sa_cons (se_var 0 (by kernel_rfl) (Or.inl (by kernel_rfl))) sa_nil) (alen_cons alen_nil)) (se_one (se_cmp xo_ge (se_var 0 (by kernel_rfl) (Or.inl (by kernel_rfl))) se_int))))) sa_nil)))))
theorem sc_need_row:FnScope ["thing"] ["thing"] (defScope st_need_row):=⟨by kernel_rfl,by kernel_rfl,by kernel_rfl,by decide +kernel,rfl,by decide +kernel,by decide +kernel⟩
theorem ok_need_row {f:Addr} {fd:FuncData} (F:Fun K "need_row" "need_row" st_need_row f fd) (hm:mg "need_row" = some (.ref f)) (hb:Binds K fd ["thing"] []) (T:Txt K mg) (d_is_row:DefN P w K mg base "is_row" 2 1 F_is_row):DefR P w K mg base "need_row" 3 1 F_need_row:=
 def_ofR ["thing"] ["thing"] 2 3 1 1 rfl rfl rfl F hm hb sc_need_row (m:=m_need_row) fun cdv A outer s H E hr=>(ss_one (ss_if (st_nx (st_not (st_val (se_fnN d_is_row (hr.mono (by decide)) (by unfold Gl; kernel_rfl) (sa_cons (se_var 0 (by kernel_rfl) (Or.inl (by kernel_rfl))) sa_nil) (alen_cons alen_nil))))) (ss_one (ss_raise T.x_NoRow raises_cx hr.hd (by unfold Gl; kernel_rfl) (sa_cons se_str sa_nil))) ss_nil))
theorem sc_need_row_and_number:FnScope ["row","number"] ["row","number"] (defScope st_need_row_and_number):=⟨by kernel_rfl,by kernel_rfl,by kernel_rfl,by decide +kernel,rfl,by decide +kernel,by decide +kernel⟩
theorem ok_need_row_and_number {f:Addr} {fd:FuncData} (F:Fun K "need_row_and_number" "need_row_and_number" st_need_row_and_number f fd) (hm:mg "need_row_and_number" = some (.ref f)) (hb:Binds K fd ["row","number"] []) (T:Txt K mg) (d_need_number:DefR P w K mg base "need_number" 2 1 F_need_number) (d_need_row:DefR P w K mg base "need_row" 3 1 F_need_row):DefR P w K mg base "need_row_and_number" 4 2 F_need_row_and_number:=
 def_ofR ["row","number"] ["row","number"] 3 4 2 2 rfl rfl rfl F hm hb sc_need_row_and_number (m:=m_need_row_and_number) fun cdv A outer s H E hr=>(ss_cons (ss_expr (se_fnR d_need_row passes_cx (hr.mono (by decide)) (by unfold Gl; kernel_rfl) (sa_cons (se_var 0 (by kernel_rfl) (Or.inl (by kernel_rfl))) sa_nil) (alen_cons alen_nil))) (ss_one (ss_expr (se_fnR d_need_number passes_cx (hr.mono (by decide)) (by unfold Gl; kernel_rfl) (sa_cons (se_var 1 (by kernel_rfl) (Or.inl (by kernel_rfl))) sa_nil) (alen_cons alen_nil)))))
theorem sc_halves_of:FnScope ["row","middle"] ["row"] (defScope st_halves_of):=⟨by kernel_rfl,by kernel_rfl,by kernel_rfl,by decide +kernel,rfl,by decide +kernel,by decide +kernel⟩
theorem ok_halves_of {f:Addr} {fd:FuncData} (F:Fun K "halves_of" "halves_of" st_halves_of f fd) (hm:mg "halves_of" = some (.ref f)) (hb:Binds K fd ["row"] []) (T:Txt K mg) :DefN P w K mg base "halves_of" 1 1 F_halves_of:=
 def_ofN ["row","middle"] ["row"] 0 1 1 2 rfl rfl rfl F hm hb sc_halves_of (m:=m_halves_of) fun cdv A outer s H E hr=>(ss_cons (ss_set sc_halves_of.nd (by kernel_rfl) (Or.inl (by kernel_rfl)) (se_op xo_fdiv (se_callB xc_len (by unfold Gl; kernel_rfl) T.b_len boo_len (sa_cons (se_var 0 (by kernel_rfl) (Or.inl (by kernel_rfl))) sa_nil)) se_int)) (ss_one (ss_ret (se_tup (sa_cons (se_sl xl_tup (se_var 0 (by kernel_rfl) (Or.inl (by kernel_rfl))) so_none (so_some (se_var 1 (by kernel_rfl) (Or.inl (by kernel_rfl))))) (sa_cons (se_sl xl_tup (se_var 0 (by kernel_rfl) (Or.inl (by kernel_rfl))) (so_some (se_var 1 (by kernel_rfl) (Or.inl (by kernel_rfl)))) so_none) sa_nil))))))
theorem sc_need_row_n:FnScope ["thing"] ["thing"] (defScope st_need_row_n):=⟨by kernel_rfl,by kernel_rfl,by kernel_rfl,by decide +kernel,rfl,by decide +kernel,by decide +kernel⟩
theorem ok_need_row_n {f:Addr} {fd:FuncData} (F:Fun K "need_row" "need_row" st_need_row_n f fd) (hm:mg "need_row" = some (.ref f)) (hb:Binds K fd ["thing"] []) (T:Txt K mg) (d_is_row:DefN P w K mg base "is_row" 2 1 F_is_row):DefN P w K mg base "need_row" 3 1 F_need_row_n:=
 def_ofN ["thing"] ["thing"] 2 3 1 1 rfl rfl rfl F hm hb sc_need_row_n (m:=m_need_row_n) fun cdv A outer s H E hr=>(ss_one (ss_if (st_not (st_val (se_fnN d_is_row (hr.mono (by decide)) (by unfold Gl; kernel_rfl) (sa_cons (se_var 0 (by kernel_rfl) (Or.inl (by kernel_rfl))) sa_nil) (alen_cons alen_nil)))) (ss_one ss_never) ss_nil))
theorem sc_stepped:FnScope ["table","step","choices","wider","reached","ways","choice","there"] ["table","step","choices"] (defScope st_stepped):=⟨by kernel_rfl,by kernel_rfl,by kernel_rfl,by decide +kernel,rfl,by decide +kernel,by decide +kernel⟩
theorem ok_stepped {f:Addr} {fd:FuncData} (F:Fun K "stepped" "stepped" st_stepped f fd) (hm:mg "stepped" = some (.ref f)) (hb:Binds K fd ["table","step","choices"] []) (T:Txt K mg) :DefN P w K mg base "stepped" 1 3 F_stepped:=
 def_ofN ["table","step","choices","wider","reached","ways","choice","there"] ["table","step","choices"] 0 1 3 8 rfl rfl rfl F hm hb sc_stepped (m:=m_stepped) fun cdv A outer s H E hr=>(ss_cons (ss_set sc_stepped.nd (by kernel_rfl) (Or.inl (by kernel_rfl)) se_dicE) (ss_cons (ss_for PassesOwn.never rfl (si_items (se_var 0 (by kernel_rfl) (Or.inl (by kernel_rfl)))) (sg_tup rfl (sgs_cons (sg_name sc_stepped.nd (by kernel_rfl) (Or.inl (by kernel_rfl))) (sgs_cons (sg_name sc_stepped.nd (by kernel_rfl) (Or.inl (by kernel_rfl))) sgs_nil))) (ss_one (ss_for PassesOwn.never rfl (si_seq (se_var 2 (by kernel_rfl) (Or.inl (by kernel_rfl)))) (sg_name sc_stepped.nd (by kernel_rfl) (Or.inl (by kernel_rfl))) (ss_cons (ss_set sc_stepped.nd (by kernel_rfl) (Or.inl (by kernel_rfl)) (se_op xo_add (se_var 4 (by kernel_rfl) (Or.inl (by kernel_rfl))) (se_op xo_mul (se_var 6 (by kernel_rfl) (Or.inl (by kernel_rfl))) (se_var 1 (by kernel_rfl) (Or.inl (by kernel_rfl)))))) (ss_one (ss_put (xs_putD hr) (se_op xo_add (se_get2 hr (se_var 3 (by kernel_rfl) (Or.inl (by kernel_rfl))) (se_var 7 (by kernel_rfl) (Or.inl (by kernel_rfl))) se_int (m2_mk (by kernel_rfl) (by kernel_rfl) (by kernel_rfl) (by kernel_rfl))) (se_var 5 (by kernel_rfl) (Or.inl (by kernel_rfl)))) (se_var 3 (by kernel_rfl) (Or.inl (by kernel_rfl))) (se_var 7 (by kernel_rfl) (Or.inl (by kernel_rfl))))))))) (ss_one (ss_ret (se_var 3 (by kernel_rfl) (Or.inl (by kernel_rfl)))))))
theorem sc_table_of:FnScope ["row","choices","table","step"] ["row","choices"] (defScope st_table_of):=⟨by kernel_rfl,by kernel_rfl,by kernel_rfl,by decide +kernel,rfl,by decide +kernel,by decide +kernel⟩
theorem ok_table_of {f:Addr} {fd:FuncData} (F:Fun K "table_of" "table_of" st_table_of f fd) (hm:mg "table_of" = some (.ref f)) (hb:Binds K fd ["row","choices"] []) (T:Txt K mg) (d_stepped:DefN P w K mg base "stepped" 1 3 F_stepped):DefN P w K mg base "table_of" 2 2 F_table_of:=
 def_ofN ["row","choices","table","step"] ["row","choices"] 1 2 2 4 rfl rfl rfl F hm hb sc_table_of (m:=m_table_of) fun cdv A outer s H E hr=>(ss_cons (ss_set sc_table_of.nd (by kernel_rfl) (Or.inl (by kernel_rfl)) (se_dicN (sps_cons se_int se_int sps_nil))) (ss_cons (ss_for PassesOwn.never rfl (si_seq (se_var 0 (by kernel_rfl) (Or.inl (by kernel_rfl)))) (sg_name sc_table_of.nd (by kernel_rfl) (Or.inl (by kernel_rfl))) (ss_one (ss_set sc_table_of.nd (by kernel_rfl) (Or.inl (by kernel_rfl)) (se_fnN d_stepped (hr.mono (by decide)) (by unfold Gl; kernel_rfl) (sa_cons (se_var 2 (by kernel_rfl) (Or.inl (by kernel_rfl))) (sa_cons (se_var 3 (by kernel_rfl) (Or.inl (by kernel_rfl))) (sa_cons (se_var 1 (by kernel_rfl) (Or.inl (by kernel_rfl))) sa_nil))) (alen_cons (alen_cons (alen_cons alen_nil))))))) (ss_one (ss_ret (se_var 2 (by kernel_rfl) (Or.inl (by kernel_rfl)))))))
theorem sc_half_worths_n:FnScope ["row"] ["row"] (defScope st_half_worths_n):=⟨by kernel_rfl,by kernel_rfl,by kernel_rfl,by decide +kernel,rfl,by decide +kernel,by decide +kernel⟩
theorem ok_half_worths_n {f:Addr} {fd:FuncData} (F:Fun K "half_worths" "half_worths" st_half_worths_n f fd) (hm:mg "half_worths" = some (.ref f)) (hb:Binds K fd ["row"] []) (T:Txt K mg) (d_halves_of:DefN P w K mg base "halves_of" 1 1 F_halves_of) (d_need_row_n:DefN P w K mg base "need_row" 3 1 F_need_row_n) (d_table_of:DefN P w K mg base "table_of" 2 2 F_table_of):DefN P w K mg base "half_worths" 4 1 F_half_worths_n:=
 def_ofN ["row"] ["row"] 3 4 1 1 rfl rfl rfl F hm hb sc_half_worths_n (m:=m_half_worths_n) fun cdv A outer s H E hr=>(ss_cons (ss_expr (se_fnN d_need_row_n (hr.mono (by decide)) (by unfold Gl; kernel_rfl) (sa_cons (se_var 0 (by kernel_rfl) (Or.inl (by kernel_rfl))) sa_nil) (alen_cons alen_nil))) (ss_one (ss_ret (se_callTy xc_tuple (by unfold Gl; kernel_rfl) T.b_tuple boo_tuple (sa_cons (se_comp (N:=["half"]) (k:=1) (caps:=[]) rfl (fun _ _ z=>z) (cs_mk (by kernel_rfl) (by kernel_rfl) (by kernel_rfl) (by kernel_rfl) rfl (by kernel_rfl)) (si_seq (se_fnN d_halves_of (hr.mono (by decide)) (by unfold Gl; kernel_rfl) (sa_cons (se_var 0 (by kernel_rfl) (Or.inl (by kernel_rfl))) sa_nil) (alen_cons alen_nil))) (fun _ _ _ _=>(sg_name (show (["half"]:List Str).Nodup by decide +kernel) (by kernel_rfl) (Or.inl (by kernel_rfl)))) (fun _ _ _ _=>sif_nil) (fun _ _ _ _=>(se_callTy xc_tuple (by unfold Gl; kernel_rfl) T.b_tuple boo_tuple (sa_cons (se_callB (xc_srt rfl) (by unfold Gl; kernel_rfl) T.b_sorted boo_sorted (sa_cons (se_fnN d_table_of (hr.mono (by decide)) (by unfold Gl; kernel_rfl) (sa_cons (se_var 0 (by kernel_rfl) (Or.inl (by kernel_rfl))) (sa_cons (se_gt T.m_SIGNS (by unfold Gl; kernel_rfl)) sa_nil)) (alen_cons (alen_cons alen_nil))) sa_nil)) sa_nil)))) sa_nil)))))
theorem sc_walk_n:FnScope ["row","number","worths","walked","i","j","both"] ["row","number"] (defScope st_walk_n):=⟨by kernel_rfl,by kernel_rfl,by kernel_rfl,by decide +kernel,rfl,by decide +kernel,by decide +kernel⟩
theorem ok_walk_n {f:Addr} {fd:FuncData} (F:Fun K "walk" "walk" st_walk_n f fd) (hm:mg "walk" = some (.ref f)) (hb:Binds K fd ["row","number"] []) (T:Txt K mg) (d_half_worths_n:DefN P w K mg base "half_worths" 4 1 F_half_worths_n):DefN P w K mg base "walk" 5 2 F_walk_n:=
 def_ofN ["row","number","worths","walked","i","j","both"] ["row","number"] 4 5 2 7 rfl rfl rfl F hm hb sc_walk_n (m:=m_walk_n) fun cdv A outer s H E hr=>(ss_cons (ss_set sc_walk_n.nd (by kernel_rfl) (Or.inl (by kernel_rfl)) (se_fnN d_half_worths_n (hr.mono (by decide)) (by unfold Gl; kernel_rfl) (sa_cons (se_var 0 (by kernel_rfl) (Or.inl (by kernel_rfl))) sa_nil) (alen_cons alen_nil))) (ss_cons (ss_set sc_walk_n.nd (by kernel_rfl) (Or.inl (by kernel_rfl)) (se_new sa_nil)) (ss_cons (ss_set sc_walk_n.nd (by kernel_rfl) (Or.inl (by kernel_rfl)) se_int) (ss_cons (ss_set sc_walk_n.nd (by kernel_rfl) (Or.inl (by kernel_rfl)) (se_op xo_sub (se_callB xc_len (by unfold Gl; kernel_rfl) T.b_len boo_len (sa_cons (se_ix xi_ix (se_var 2 (by kernel_rfl) (Or.inl (by kernel_rfl))) se_int) sa_nil)) se_int)) (ss_cons (ss_while PassesOwn.never (sw_st (sw_and (st_cmp xo_lt (se_var 4 (by kernel_rfl) (Or.inl (by kernel_rfl))) (se_callB xc_len (by unfold Gl; kernel_rfl) T.b_len boo_len (sa_cons (se_ix xi_ix (se_var 2 (by kernel_rfl) (Or.inl (by kernel_rfl))) se_int) sa_nil))) (sw_and1 (st_cmp xo_ge (se_var 5 (by kernel_rfl) (Or.inl (by kernel_rfl))) se_int)))) (ss_cons (ss_set sc_walk_n.nd (by kernel_rfl) (Or.inl (by kernel_rfl)) (se_op xo_add (se_ix xi_ix (se_ix xi_ix (se_var 2 (by kernel_rfl) (Or.inl (by kernel_rfl))) se_int) (se_var 4 (by kernel_rfl) (Or.inl (by kernel_rfl)))) (se_ix xi_ix (se_ix xi_ix (se_var 2 (by kernel_rfl) (Or.inl (by kernel_rfl))) se_int) (se_var 5 (by kernel_rfl) (Or.inl (by kernel_rfl)))))) (ss_cons (ss_expr (se_mtL PySem.F.plainAttrs_list PySem.F.slot_list_append PySem.F.type_list_append xm_append (se_var 3 (by kernel_rfl) (Or.inl (by kernel_rfl))) (sa_cons (se_tup (sa_cons (se_var 4 (by kernel_rfl) (Or.inl (by kernel_rfl))) (sa_cons (se_var 5 (by kernel_rfl) (Or.inl (by kernel_rfl))) (sa_cons (se_var 6 (by kernel_rfl) (Or.inl (by kernel_rfl))) sa_nil)))) sa_nil))) (ss_one (ss_if (st_cmp xo_lt (se_var 6 (by kernel_rfl) (Or.inl (by kernel_rfl))) (se_var 1 (by kernel_rfl) (Or.inl (by kernel_rfl)))) (ss_one (ss_set sc_walk_n.nd (by kernel_rfl) (Or.inl (by kernel_rfl)) (se_op xo_add (se_var 4 (by kernel_rfl) (Or.inl (by kernel_rfl))) se_int))) (ss_one (ss_set sc_walk_n.nd (by kernel_rfl) (Or.inl (by kernel_rfl)) (se_op xo_sub (se_var 5 (by kernel_rfl) (Or.inl (by kernel_rfl))) se_int)))))))) (ss_one (ss_ret (se_var 3 (by kernel_rfl) (Or.inl (by kernel_rfl))))))))))
theorem sc_above:FnScope ["row","number"] ["row","number"] (defScope st_above):=⟨by kernel_rfl,by kernel_rfl,by kernel_rfl,by decide +kernel,rfl,by decide +kernel,by decide +kernel⟩
theorem ok_above {f:Addr} {fd:FuncData} (F:Fun K "above" "above" st_above f fd) (hm:mg "above" = some (.ref f)) (hb:Binds K fd ["row","number"] []) (T:Txt K mg) (d_need_row_and_number:DefR P w K mg base "need_row_and_number" 4 2 F_need_row_and_number) (d_walk_n:DefN P w K mg base "walk" 5 2 F_walk_n):DefR P w K mg base "above" 6 2 F_above:=
 def_ofR ["row","number"] ["row","number"] 5 6 2 2 rfl rfl rfl F hm hb sc_above (m:=m_above) fun cdv A outer s H E hr=>(ss_cons (ss_expr (se_fnR d_need_row_and_number passes_cx (hr.mono (by decide)) (by unfold Gl; kernel_rfl) (sa_cons (se_var 0 (by kernel_rfl) (Or.inl (by kernel_rfl))) (sa_cons (se_var 1 (by kernel_rfl) (Or.inr (Or.inl (by kernel_rfl)))) sa_nil)) (alen_cons (alen_cons alen_nil)))) (ss_one (ss_nx (ss_ret (se_callBD (xk_minD rfl hr) (by unfold Gl; kernel_rfl) T.b_min boo_min (sa_cons (se_comp (N:=["i","j","both","number"]) (k:=3) (caps:=[1]) rfl (fun _ _ z=>z) (cs_mk (by kernel_rfl) (by kernel_rfl) (by kernel_rfl) (by kernel_rfl) rfl (by kernel_rfl)) (si_frz (se_fnN d_walk_n (hr.mono (by decide)) (by unfold Gl; kernel_rfl) (sa_cons (se_var 0 (by kernel_rfl) (Or.inl (by kernel_rfl))) (sa_cons (se_var 1 (by kernel_rfl) (Or.inr (Or.inl (by kernel_rfl)))) sa_nil)) (alen_cons (alen_cons alen_nil)))) (fun _ _ _ _=>(sg_tup rfl (sgs_cons (sg_name (show (["i","j","both","number"]:List Str).Nodup by decide +kernel) (by kernel_rfl) (Or.inl (by kernel_rfl))) (sgs_cons (sg_name (show (["i","j","both","number"]:List Str).Nodup by decide +kernel) (by kernel_rfl) (Or.inl (by kernel_rfl))) (sgs_cons (sg_name (show (["i","j","both","number"]:List Str).Nodup by decide +kernel) (by kernel_rfl) (Or.inl (by kernel_rfl))) sgs_nil))))) (fun _ _ _ _=>(sif_one (st_cmp xo_ge (se_var 2 (by kernel_rfl) (Or.inl (by kernel_rfl))) (se_var 3 (by kernel_rfl) (Or.inr (Or.inl (by kernel_rfl))))))) (fun _ _ _ _=>(se_var 2 (by kernel_rfl) (Or.inl (by kernel_rfl))))) sa_nil))))))
theorem sc_below:FnScope ["row","number"] ["row","number"] (defScope st_below):=⟨by kernel_rfl,by kernel_rfl,by kernel_rfl,by decide +kernel,rfl,by decide +kernel,by decide +kernel⟩
theorem ok_below {f:Addr} {fd:FuncData} (F:Fun K "below" "below" st_below f fd) (hm:mg "below" = some (.ref f)) (hb:Binds K fd ["row","number"] []) (T:Txt K mg) (d_need_row_and_number:DefR P w K mg base "need_row_and_number" 4 2 F_need_row_and_number) (d_walk_n:DefN P w K mg base "walk" 5 2 F_walk_n):DefR P w K mg base "below" 6 2 F_below:=
 def_ofR ["row","number"] ["row","number"] 5 6 2 2 rfl rfl rfl F hm hb sc_below (m:=m_below) fun cdv A outer s H E hr=>(ss_cons (ss_expr (se_fnR d_need_row_and_number passes_cx (hr.mono (by decide)) (by unfold Gl; kernel_rfl) (sa_cons (se_var 0 (by kernel_rfl) (Or.inl (by kernel_rfl))) (sa_cons (se_var 1 (by kernel_rfl) (Or.inr (Or.inl (by kernel_rfl)))) sa_nil)) (alen_cons (alen_cons alen_nil)))) (ss_one (ss_nx (ss_ret (se_callBD (xk_maxD rfl hr) (by unfold Gl; kernel_rfl) T.b_max boo_max (sa_cons (se_comp (N:=["i","j","both","number"]) (k:=3) (caps:=[1]) rfl (fun _ _ z=>z) (cs_mk (by kernel_rfl) (by kernel_rfl) (by kernel_rfl) (by kernel_rfl) rfl (by kernel_rfl)) (si_frz (se_fnN d_walk_n (hr.mono (by decide)) (by unfold Gl; kernel_rfl) (sa_cons (se_var 0 (by kernel_rfl) (Or.inl (by kernel_rfl))) (sa_cons (se_var 1 (by kernel_rfl) (Or.inr (Or.inl (by kernel_rfl)))) sa_nil)) (alen_cons (alen_cons alen_nil)))) (fun _ _ _ _=>(sg_tup rfl (sgs_cons (sg_name (show (["i","j","both","number"]:List Str).Nodup by decide +kernel) (by kernel_rfl) (Or.inl (by kernel_rfl))) (sgs_cons (sg_name (show (["i","j","both","number"]:List Str).Nodup by decide +kernel) (by kernel_rfl) (Or.inl (by kernel_rfl))) (sgs_cons (sg_name (show (["i","j","both","number"]:List Str).Nodup by decide +kernel) (by kernel_rfl) (Or.inl (by kernel_rfl))) sgs_nil))))) (fun _ _ _ _=>(sif_one (st_cmp xo_le (se_var 2 (by kernel_rfl) (Or.inl (by kernel_rfl))) (se_var 3 (by kernel_rfl) (Or.inr (Or.inl (by kernel_rfl))))))) (fun _ _ _ _=>(se_var 2 (by kernel_rfl) (Or.inl (by kernel_rfl))))) sa_nil))))))
theorem sc__law_said:FnScope ["kind","row","number","e"] ["kind","row","number"] (defScope st__law_said):=⟨by kernel_rfl,by kernel_rfl,by kernel_rfl,by decide +kernel,rfl,by decide +kernel,by decide +kernel⟩
theorem ok__law_said {f:Addr} {fd:FuncData} (F:Fun K "_law_said" "_law_said" st__law_said f fd) (hm:mg "_law_said" = some (.ref f)) (hb:Binds K fd ["kind","row","number"] []) (T:Txt K mg) (d__law_marks:DefM P w K mg base "_law_marks" 1 1 F__law_marks) (d_above:DefR P w K mg base "above" 6 2 F_above) (d_below:DefR P w K mg base "below" 6 2 F_below):DefN P w K mg base "_law_said" 7 3 F__law_said:=
 def_ofN ["kind","row","number","e"] ["kind","row","number"] 6 7 3 4 rfl rfl rfl F hm hb sc__law_said (m:=m__law_said) fun cdv A outer s H E hr=>(ss_one (ss_tryT T.tr rfl ⟨rfl,rfl⟩ (by unfold Gl; kernel_rfl) sc__law_said.nd (by kernel_rfl) rfl (by kernel_rfl) (fun p W E1 hP=>(ss_cons (ss_if (st_nx (st_cmp (xo_eqP hr) (se_var 0 (by kernel_rfl) (Or.inl (by kernel_rfl))) se_int)) (ss_one (ss_ret (se_fnR d_below hP (hr.mono (by decide)) (by unfold Gl; kernel_rfl) (sa_cons (se_var 1 (by kernel_rfl) (Or.inl (by kernel_rfl))) (sa_cons (se_var 2 (by kernel_rfl) (Or.inl (by kernel_rfl))) sa_nil)) (alen_cons (alen_cons alen_nil))))) ss_nil) (ss_one (ss_ret (se_fnR d_above hP (hr.mono (by decide)) (by unfold Gl; kernel_rfl) (sa_cons (se_var 1 (by kernel_rfl) (Or.inl (by kernel_rfl))) (sa_cons (se_var 2 (by kernel_rfl) (Or.inl (by kernel_rfl))) sa_nil)) (alen_cons (alen_cons alen_nil))))))) (fun _=>(ss_one (ss_ret (se_fnM d__law_marks ((hr.mono (by decide)).m.mark _) (by unfold Gl; kernel_rfl) (sa_cons (se_var 3 (by kernel_rfl) (Or.inl (by kernel_rfl))) sa_nil) (alen_cons alen_nil)))))))
theorem sc_law:FnScope ["script","k","box","row","worths","lap","thing","number","low","high"] ["script"] (defScope st_law):=⟨by kernel_rfl,by kernel_rfl,by kernel_rfl,by decide +kernel,rfl,by decide +kernel,by decide +kernel⟩
end
/-! what the top has written -/
theorem cls_mk {K:PySem.W.Frag} {C_Lacking:Addr} {C_NoNumber:Addr} {C_NoRow:Addr} {C_NoSigns:Addr} {C_NoText:Addr} {C_PlusError:Addr} {C_TooMany:Addr} {cd_NoNumber:ClassData} {cd_NoRow:ClassData}
  (gt:PySem.W.specialIn K (.builtin "object.__class__") "__get__" = some (some (.builtin "getset_descriptor.__get__")))
  (tk:PySem.W.takesIn K (.builtin "object.__class__")=some true)
  (n_Lacking:PySem.W.nsIn K mainGlobals "Lacking" = some (some (.ref C_Lacking)))
  (n_NoNumber:PySem.W.nsIn K mainGlobals "NoNumber" = some (some (.ref C_NoNumber)))
  (n_NoRow:PySem.W.nsIn K mainGlobals "NoRow" = some (some (.ref C_NoRow)))
  (n_NoSigns:PySem.W.nsIn K mainGlobals "NoSigns" = some (some (.ref C_NoSigns)))
  (n_NoText:PySem.W.nsIn K mainGlobals "NoText" = some (some (.ref C_NoText)))
  (n_PlusError:PySem.W.nsIn K mainGlobals "PlusError" = some (some (.ref C_PlusError)))
  (n_TooMany:PySem.W.nsIn K mainGlobals "TooMany" = some (some (.ref C_TooMany)))
  (q_NoNumber:PySem.W.excIn K C_NoNumber veMro "ValueError.__new__" = true)
  (g1_NoNumber:PySem.W.findIn K (.ref C_NoNumber) "__getattribute__" = some (some (.builtin "BaseException.__getattribute__")))
  (g2_NoNumber:PySem.W.findIn K (.ref C_NoNumber) "__getattr__" = some none)
  (g3_NoNumber:PySem.W.findIn K (.ref C_NoNumber) "__class__" = some (some (.builtin "object.__class__")))
  (m1_NoNumber:PySem.W.mroIn K C_NoNumber (.type "BaseException")=some true)
  (m2_NoNumber:PySem.W.mroIn K C_NoNumber (.type "object")=some true)
  (cc_NoNumber:PySem.W.clsIn K C_NoNumber=some cd_NoNumber)
  (kv_NoNumber:PySem.W.kitOne K (.ref C_NoNumber) (.type "ValueError")=some true)
  (ex_NoNumber:PySem.W.exmOne K (.ref C_NoNumber) (.ref C_PlusError)=some true)
  (is_NoNumber_Lacking:PySem.W.kitOne K (.ref C_NoNumber) (.ref C_Lacking)=some false)
  (is_NoNumber_NoNumber:PySem.W.kitOne K (.ref C_NoNumber) (.ref C_NoNumber)=some true)
  (is_NoNumber_NoRow:PySem.W.kitOne K (.ref C_NoNumber) (.ref C_NoRow)=some false)
  (is_NoNumber_NoSigns:PySem.W.kitOne K (.ref C_NoNumber) (.ref C_NoSigns)=some false)
  (is_NoNumber_NoText:PySem.W.kitOne K (.ref C_NoNumber) (.ref C_NoText)=some false)
  (is_NoNumber_PlusError:PySem.W.kitOne K (.ref C_NoNumber) (.ref C_PlusError)=some true)
  (is_NoNumber_TooMany:PySem.W.kitOne K (.ref C_NoNumber) (.ref C_TooMany)=some false)
  (q_NoRow:PySem.W.excIn K C_NoRow veMro "ValueError.__new__" = true)
  (g1_NoRow:PySem.W.findIn K (.ref C_NoRow) "__getattribute__" = some (some (.builtin "BaseException.__getattribute__")))
  (g2_NoRow:PySem.W.findIn K (.ref C_NoRow) "__getattr__" = some none)
  (g3_NoRow:PySem.W.findIn K (.ref C_NoRow) "__class__" = some (some (.builtin "object.__class__")))
  (m1_NoRow:PySem.W.mroIn K C_NoRow (.type "BaseException")=some true)
  (m2_NoRow:PySem.W.mroIn K C_NoRow (.type "object")=some true)
  (cc_NoRow:PySem.W.clsIn K C_NoRow=some cd_NoRow)
  (kv_NoRow:PySem.W.kitOne K (.ref C_NoRow) (.type "ValueError")=some true)
  (ex_NoRow:PySem.W.exmOne K (.ref C_NoRow) (.ref C_PlusError)=some true)
  (is_NoRow_Lacking:PySem.W.kitOne K (.ref C_NoRow) (.ref C_Lacking)=some false)
  (is_NoRow_NoNumber:PySem.W.kitOne K (.ref C_NoRow) (.ref C_NoNumber)=some false)
  (is_NoRow_NoRow:PySem.W.kitOne K (.ref C_NoRow) (.ref C_NoRow)=some true)
  (is_NoRow_NoSigns:PySem.W.kitOne K (.ref C_NoRow) (.ref C_NoSigns)=some false)
  (is_NoRow_NoText:PySem.W.kitOne K (.ref C_NoRow) (.ref C_NoText)=some false)
  (is_NoRow_PlusError:PySem.W.kitOne K (.ref C_NoRow) (.ref C_PlusError)=some true)
  (is_NoRow_TooMany:PySem.W.kitOne K (.ref C_NoRow) (.ref C_TooMany)=some false):Cls K raisedX askedX isaX:=
 ⟨gt,tk,fun c hc=>by
   simp only [raisedX,List.mem_cons,List.not_mem_nil,or_false] at hc
   rcases hc with rfl | rfl
   ·exact ⟨C_NoNumber,n_NoNumber,exk_mk g1_NoNumber g2_NoNumber g3_NoNumber m1_NoNumber m2_NoNumber cc_NoNumber,kv_NoNumber⟩
   ·exact ⟨C_NoRow,n_NoRow,exk_mk g1_NoRow g2_NoRow g3_NoRow m1_NoRow m2_NoRow cc_NoRow,kv_NoRow⟩,
  fun c hc k hk=>by
   simp only [raisedX,askedX,List.mem_cons,List.not_mem_nil,or_false] at hc hk
   rcases hc with rfl | rfl <;> rcases hk with rfl | rfl | rfl | rfl | rfl | rfl | rfl
   ·exact ⟨_,_,n_NoNumber,n_Lacking,is_NoNumber_Lacking.trans (by decide +kernel)⟩
   ·exact ⟨_,_,n_NoNumber,n_NoNumber,is_NoNumber_NoNumber.trans (by decide +kernel)⟩
   ·exact ⟨_,_,n_NoNumber,n_NoRow,is_NoNumber_NoRow.trans (by decide +kernel)⟩
   ·exact ⟨_,_,n_NoNumber,n_NoSigns,is_NoNumber_NoSigns.trans (by decide +kernel)⟩
   ·exact ⟨_,_,n_NoNumber,n_NoText,is_NoNumber_NoText.trans (by decide +kernel)⟩
   ·exact ⟨_,_,n_NoNumber,n_PlusError,is_NoNumber_PlusError.trans (by decide +kernel)⟩
   ·exact ⟨_,_,n_NoNumber,n_TooMany,is_NoNumber_TooMany.trans (by decide +kernel)⟩
   ·exact ⟨_,_,n_NoRow,n_Lacking,is_NoRow_Lacking.trans (by decide +kernel)⟩
   ·exact ⟨_,_,n_NoRow,n_NoNumber,is_NoRow_NoNumber.trans (by decide +kernel)⟩
   ·exact ⟨_,_,n_NoRow,n_NoRow,is_NoRow_NoRow.trans (by decide +kernel)⟩
   ·exact ⟨_,_,n_NoRow,n_NoSigns,is_NoRow_NoSigns.trans (by decide +kernel)⟩
   ·exact ⟨_,_,n_NoRow,n_NoText,is_NoRow_NoText.trans (by decide +kernel)⟩
   ·exact ⟨_,_,n_NoRow,n_PlusError,is_NoRow_PlusError.trans (by decide +kernel)⟩
   ·exact ⟨_,_,n_NoRow,n_TooMany,is_NoRow_TooMany.trans (by decide +kernel)⟩⟩
theorem try_mk {K:PySem.W.Frag} {h:Heap} {mg:Str→Option Value} (X:K.In h) (G:h.Ns mainGlobals mg) {C_Lacking:Addr} {C_NoNumber:Addr} {C_NoRow:Addr} {C_NoSigns:Addr} {C_NoText:Addr} {C_PlusError:Addr} {C_TooMany:Addr} {cd_NoNumber:ClassData} {cd_NoRow:ClassData}
  (gt:PySem.W.specialIn K (.builtin "object.__class__") "__get__" = some (some (.builtin "getset_descriptor.__get__")))
  (tk:PySem.W.takesIn K (.builtin "object.__class__")=some true)
  (n_Lacking:PySem.W.nsIn K mainGlobals "Lacking" = some (some (.ref C_Lacking)))
  (n_NoNumber:PySem.W.nsIn K mainGlobals "NoNumber" = some (some (.ref C_NoNumber)))
  (n_NoRow:PySem.W.nsIn K mainGlobals "NoRow" = some (some (.ref C_NoRow)))
  (n_NoSigns:PySem.W.nsIn K mainGlobals "NoSigns" = some (some (.ref C_NoSigns)))
  (n_NoText:PySem.W.nsIn K mainGlobals "NoText" = some (some (.ref C_NoText)))
  (n_PlusError:PySem.W.nsIn K mainGlobals "PlusError" = some (some (.ref C_PlusError)))
  (n_TooMany:PySem.W.nsIn K mainGlobals "TooMany" = some (some (.ref C_TooMany)))
  (q_NoNumber:PySem.W.excIn K C_NoNumber veMro "ValueError.__new__" = true)
  (g1_NoNumber:PySem.W.findIn K (.ref C_NoNumber) "__getattribute__" = some (some (.builtin "BaseException.__getattribute__")))
  (g2_NoNumber:PySem.W.findIn K (.ref C_NoNumber) "__getattr__" = some none)
  (g3_NoNumber:PySem.W.findIn K (.ref C_NoNumber) "__class__" = some (some (.builtin "object.__class__")))
  (m1_NoNumber:PySem.W.mroIn K C_NoNumber (.type "BaseException")=some true)
  (m2_NoNumber:PySem.W.mroIn K C_NoNumber (.type "object")=some true)
  (cc_NoNumber:PySem.W.clsIn K C_NoNumber=some cd_NoNumber)
  (kv_NoNumber:PySem.W.kitOne K (.ref C_NoNumber) (.type "ValueError")=some true)
  (ex_NoNumber:PySem.W.exmOne K (.ref C_NoNumber) (.ref C_PlusError)=some true)
  (is_NoNumber_Lacking:PySem.W.kitOne K (.ref C_NoNumber) (.ref C_Lacking)=some false)
  (is_NoNumber_NoNumber:PySem.W.kitOne K (.ref C_NoNumber) (.ref C_NoNumber)=some true)
  (is_NoNumber_NoRow:PySem.W.kitOne K (.ref C_NoNumber) (.ref C_NoRow)=some false)
  (is_NoNumber_NoSigns:PySem.W.kitOne K (.ref C_NoNumber) (.ref C_NoSigns)=some false)
  (is_NoNumber_NoText:PySem.W.kitOne K (.ref C_NoNumber) (.ref C_NoText)=some false)
  (is_NoNumber_PlusError:PySem.W.kitOne K (.ref C_NoNumber) (.ref C_PlusError)=some true)
  (is_NoNumber_TooMany:PySem.W.kitOne K (.ref C_NoNumber) (.ref C_TooMany)=some false)
  (q_NoRow:PySem.W.excIn K C_NoRow veMro "ValueError.__new__" = true)
  (g1_NoRow:PySem.W.findIn K (.ref C_NoRow) "__getattribute__" = some (some (.builtin "BaseException.__getattribute__")))
  (g2_NoRow:PySem.W.findIn K (.ref C_NoRow) "__getattr__" = some none)
  (g3_NoRow:PySem.W.findIn K (.ref C_NoRow) "__class__" = some (some (.builtin "object.__class__")))
  (m1_NoRow:PySem.W.mroIn K C_NoRow (.type "BaseException")=some true)
  (m2_NoRow:PySem.W.mroIn K C_NoRow (.type "object")=some true)
  (cc_NoRow:PySem.W.clsIn K C_NoRow=some cd_NoRow)
  (kv_NoRow:PySem.W.kitOne K (.ref C_NoRow) (.type "ValueError")=some true)
  (ex_NoRow:PySem.W.exmOne K (.ref C_NoRow) (.ref C_PlusError)=some true)
  (is_NoRow_Lacking:PySem.W.kitOne K (.ref C_NoRow) (.ref C_Lacking)=some false)
  (is_NoRow_NoNumber:PySem.W.kitOne K (.ref C_NoRow) (.ref C_NoNumber)=some false)
  (is_NoRow_NoRow:PySem.W.kitOne K (.ref C_NoRow) (.ref C_NoRow)=some true)
  (is_NoRow_NoSigns:PySem.W.kitOne K (.ref C_NoRow) (.ref C_NoSigns)=some false)
  (is_NoRow_NoText:PySem.W.kitOne K (.ref C_NoRow) (.ref C_NoText)=some false)
  (is_NoRow_PlusError:PySem.W.kitOne K (.ref C_NoRow) (.ref C_PlusError)=some true)
  (is_NoRow_TooMany:PySem.W.kitOne K (.ref C_NoRow) (.ref C_TooMany)=some false):TryAt K mg "PlusError" raisedX:=
 ⟨_,PySem.W.mg_of X G n_PlusError,fun c hc=>by
   simp only [raisedX,List.mem_cons,List.not_mem_nil,or_false] at hc
   rcases hc with rfl | rfl
   ·exact ⟨_,n_NoNumber,ex_NoNumber⟩
   ·exact ⟨_,n_NoRow,ex_NoRow⟩⟩
theorem us1 {p:List Value → Prop} (h:∀ a,p [a]) (us:List Value) (e:us.length=1):p us:=by
 rcases us with _ | ⟨a,_ | ⟨b,r⟩⟩
 · simp at e
 · exact h a
 · simp at e
theorem us2 {p:List Value → Prop} (h:∀ a b,p [a,b]) (us:List Value) (e:us.length=2):p us:=by
 rcases us with _ | ⟨a,_ | ⟨b,_ | ⟨c,r⟩⟩⟩
 · simp at e
 · simp at e
 · exact h a b
 · simp at e
theorem us3 {p:List Value → Prop} (h:∀ a b c,p [a,b,c]) (us:List Value) (e:us.length=3):p us:=by
 rcases us with _ | ⟨a,_ | ⟨b,_ | ⟨c,_ | ⟨d,r⟩⟩⟩⟩
 · simp at e
 · simp at e
 · simp at e
 · exact h a b c
 · simp at e
theorem all_mk {P:Program} {w:World} {K:PySem.W.Frag} {h:Heap} {mg:Str→Option Value} {fa:Addr} (X:K.In h) (G:h.Ns mainGlobals mg) (hfa:mg "law" = some (.ref fa)) {f0:Addr} {od0 an0:Option Addr} {sl0:Array (Option Value)} {oc0 kV0 dc0 pm0 cd0 ct0:Value} {f1:Addr} {od1 an1:Option Addr} {sl1:Array (Option Value)} {oc1 kV1 dc1 pm1 cd1 ct1:Value} {f2:Addr} {od2 an2:Option Addr} {sl2:Array (Option Value)} {oc2 kV2 dc2 pm2 cd2 ct2:Value} {f3:Addr} {od3 an3:Option Addr} {sl3:Array (Option Value)} {oc3 kV3 dc3 pm3 cd3 ct3:Value} {f4:Addr} {od4 an4:Option Addr} {sl4:Array (Option Value)} {oc4 kV4 dc4 pm4 cd4 ct4:Value} {f5:Addr} {od5 an5:Option Addr} {sl5:Array (Option Value)} {oc5 kV5 dc5 pm5 cd5 ct5:Value} {f6:Addr} {od6 an6:Option Addr} {sl6:Array (Option Value)} {oc6 kV6 dc6 pm6 cd6 ct6:Value} {f7:Addr} {od7 an7:Option Addr} {sl7:Array (Option Value)} {oc7 kV7 dc7 pm7 cd7 ct7:Value} {f8:Addr} {od8 an8:Option Addr} {sl8:Array (Option Value)} {oc8 kV8 dc8 pm8 cd8 ct8:Value} {f9:Addr} {od9 an9:Option Addr} {sl9:Array (Option Value)} {oc9 kV9 dc9 pm9 cd9 ct9:Value} {f10:Addr} {od10 an10:Option Addr} {sl10:Array (Option Value)} {oc10 kV10 dc10 pm10 cd10 ct10:Value} {f11:Addr} {od11 an11:Option Addr} {sl11:Array (Option Value)} {oc11 kV11 dc11 pm11 cd11 ct11:Value} {f12:Addr} {od12 an12:Option Addr} {sl12:Array (Option Value)} {oc12 kV12 dc12 pm12 cd12 ct12:Value} {f13:Addr} {od13 an13:Option Addr} {sl13:Array (Option Value)} {oc13 kV13 dc13 pm13 cd13 ct13:Value} {f14:Addr} {od14 an14:Option Addr} {sl14:Array (Option Value)} {oc14 kV14 dc14 pm14 cd14 ct14:Value} {f15:Addr} {od15 an15:Option Addr} {sl15:Array (Option Value)} {oc15 kV15 dc15 pm15 cd15 ct15:Value} {f16:Addr} {od16 an16:Option Addr} {sl16:Array (Option Value)} {oc16 kV16 dc16 pm16 cd16 ct16:Value} {f17:Addr} {od17 an17:Option Addr} {sl17:Array (Option Value)} {oc17 kV17 dc17 pm17 cd17 ct17:Value} {f18:Addr} {od18 an18:Option Addr} {sl18:Array (Option Value)} {oc18 kV18 dc18 pm18 cd18 ct18:Value} {f19:Addr} {od19 an19:Option Addr} {sl19:Array (Option Value)} {oc19 kV19 dc19 pm19 cd19 ct19:Value} {f20:Addr} {od20 an20:Option Addr} {sl20:Array (Option Value)} {oc20 kV20 dc20 pm20 cd20 ct20:Value} {f21:Addr} {od21 an21:Option Addr} {sl21:Array (Option Value)} {oc21 kV21 dc21 pm21 cd21 ct21:Value} {f22:Addr} {od22 an22:Option Addr} {sl22:Array (Option Value)} {oc22 kV22 dc22 pm22 cd22 ct22:Value} {f23:Addr} {od23 an23:Option Addr} {sl23:Array (Option Value)} {oc23 kV23 dc23 pm23 cd23 ct23:Value} {f24:Addr} {od24 an24:Option Addr} {sl24:Array (Option Value)} {oc24 kV24 dc24 pm24 cd24 ct24:Value} {f25:Addr} {od25 an25:Option Addr} {sl25:Array (Option Value)} {oc25 kV25 dc25 pm25 cd25 ct25:Value} {t_LONGEST_ROW:Tok} {A_SIGNS:Addr} {od_SIGNS:Option Addr} {n_SIGNS:Nat} {sl_SIGNS:Array (Option Value)} {u0_SIGNS:Tok} {u1_SIGNS:Tok} {C_Lacking:Addr} {C_NoNumber:Addr} {C_NoRow:Addr} {C_NoSigns:Addr} {C_NoText:Addr} {C_PlusError:Addr} {C_TooMany:Addr} {cd_NoNumber:ClassData} {cd_NoRow:ClassData}
  (a0:PySem.W.nsIn K mainGlobals "_law_cell" = some (some (.ref f0))) (l0:K.lookup f0=some ⟨oc0,od0,.func (PySem.W.fnOf "_law_cell" "_law_cell" (defArgs st__law_cell) (defBody st__law_cell) (defScope st__law_cell) .none kV0 dc0 pm0 an0 cd0 ct0),sl0⟩) (c0:PySem.W.codeIn K cd0 "_law_cell" = true) (k0:PySem.W.keepIn K (.ref f0)=true)
  (a1:PySem.W.nsIn K mainGlobals "_law_mix" = some (some (.ref f1))) (l1:K.lookup f1=some ⟨oc1,od1,.func (PySem.W.fnOf "_law_mix" "_law_mix" (defArgs st__law_mix) (defBody st__law_mix) (defScope st__law_mix) .none kV1 dc1 pm1 an1 cd1 ct1),sl1⟩) (c1:PySem.W.codeIn K cd1 "_law_mix" = true) (k1:PySem.W.keepIn K (.ref f1)=true)
  (a2:PySem.W.nsIn K mainGlobals "_law_box" = some (some (.ref f2))) (l2:K.lookup f2=some ⟨oc2,od2,.func (PySem.W.fnOf "_law_box" "_law_box" (defArgs st__law_box) (defBody st__law_box) (defScope st__law_box) .none kV2 dc2 pm2 an2 cd2 ct2),sl2⟩) (c2:PySem.W.codeIn K cd2 "_law_box" = true) (k2:PySem.W.keepIn K (.ref f2)=true)
  (a3:PySem.W.nsIn K mainGlobals "_law_halves" = some (some (.ref f3))) (l3:K.lookup f3=some ⟨oc3,od3,.func (PySem.W.fnOf "_law_halves" "_law_halves" (defArgs st__law_halves) (defBody st__law_halves) (defScope st__law_halves) .none kV3 dc3 pm3 an3 cd3 ct3),sl3⟩) (c3:PySem.W.codeIn K cd3 "_law_halves" = true) (k3:PySem.W.keepIn K (.ref f3)=true)
  (a4:PySem.W.nsIn K mainGlobals "_law_all" = some (some (.ref f4))) (l4:K.lookup f4=some ⟨oc4,od4,.func (PySem.W.fnOf "_law_all" "_law_all" (defArgs st__law_all) (defBody st__law_all) (defScope st__law_all) .none kV4 dc4 pm4 an4 cd4 ct4),sl4⟩) (c4:PySem.W.codeIn K cd4 "_law_all" = true) (k4:PySem.W.keepIn K (.ref f4)=true)
  (a5:PySem.W.nsIn K mainGlobals "_law_worth" = some (some (.ref f5))) (l5:K.lookup f5=some ⟨oc5,od5,.func (PySem.W.fnOf "_law_worth" "_law_worth" (defArgs st__law_worth) (defBody st__law_worth) (defScope st__law_worth) .none kV5 dc5 pm5 an5 cd5 ct5),sl5⟩) (c5:PySem.W.codeIn K cd5 "_law_worth" = true) (k5:PySem.W.keepIn K (.ref f5)=true)
  (a6:PySem.W.nsIn K mainGlobals "_law_table" = some (some (.ref f6))) (l6:K.lookup f6=some ⟨oc6,od6,.func (PySem.W.fnOf "_law_table" "_law_table" (defArgs st__law_table) (defBody st__law_table) (defScope st__law_table) .none kV6 dc6 pm6 an6 cd6 ct6),sl6⟩) (c6:PySem.W.codeIn K cd6 "_law_table" = true) (k6:PySem.W.keepIn K (.ref f6)=true)
  (a7:PySem.W.nsIn K mainGlobals "_law_counts" = some (some (.ref f7))) (l7:K.lookup f7=some ⟨oc7,od7,.func (PySem.W.fnOf "_law_counts" "_law_counts" (defArgs st__law_counts) (defBody st__law_counts) (defScope st__law_counts) .none kV7 dc7 pm7 an7 cd7 ct7),sl7⟩) (c7:PySem.W.codeIn K cd7 "_law_counts" = true) (k7:PySem.W.keepIn K (.ref f7)=true)
  (a8:PySem.W.nsIn K mainGlobals "_law_take" = some (some (.ref f8))) (l8:K.lookup f8=some ⟨oc8,od8,.func (PySem.W.fnOf "_law_take" "_law_take" (defArgs st__law_take) (defBody st__law_take) (defScope st__law_take) .none kV8 dc8 pm8 an8 cd8 ct8),sl8⟩) (c8:PySem.W.codeIn K cd8 "_law_take" = true) (k8:PySem.W.keepIn K (.ref f8)=true)
  (a9:PySem.W.nsIn K mainGlobals "_law_number" = some (some (.ref f9))) (l9:K.lookup f9=some ⟨oc9,od9,.func (PySem.W.fnOf "_law_number" "_law_number" (defArgs st__law_number) (defBody st__law_number) (defScope st__law_number) .none kV9 dc9 pm9 an9 cd9 ct9),sl9⟩) (c9:PySem.W.codeIn K cd9 "_law_number" = true) (k9:PySem.W.keepIn K (.ref f9)=true)
  (a10:PySem.W.nsIn K mainGlobals "_law_row" = some (some (.ref f10))) (l10:K.lookup f10=some ⟨oc10,od10,.func (PySem.W.fnOf "_law_row" "_law_row" (defArgs st__law_row) (defBody st__law_row) (defScope st__law_row) .none kV10 dc10 pm10 an10 cd10 ct10),sl10⟩) (c10:PySem.W.codeIn K cd10 "_law_row" = true) (k10:PySem.W.keepIn K (.ref f10)=true)
  (a11:PySem.W.nsIn K mainGlobals "_law_marks" = some (some (.ref f11))) (l11:K.lookup f11=some ⟨oc11,od11,.func (PySem.W.fnOf "_law_marks" "_law_marks" (defArgs st__law_marks) (defBody st__law_marks) (defScope st__law_marks) .none kV11 dc11 pm11 an11 cd11 ct11),sl11⟩) (c11:PySem.W.codeIn K cd11 "_law_marks" = true) (k11:PySem.W.keepIn K (.ref f11)=true)
  (a12:PySem.W.nsIn K mainGlobals "is_whole" = some (some (.ref f12))) (l12:K.lookup f12=some ⟨oc12,od12,.func (PySem.W.fnOf "is_whole" "is_whole" (defArgs st_is_whole) (defBody st_is_whole) (defScope st_is_whole) .none kV12 dc12 pm12 an12 cd12 ct12),sl12⟩) (c12:PySem.W.codeIn K cd12 "is_whole" = true) (k12:PySem.W.keepIn K (.ref f12)=true)
  (a13:PySem.W.nsIn K mainGlobals "need_number" = some (some (.ref f13))) (l13:K.lookup f13=some ⟨oc13,od13,.func (PySem.W.fnOf "need_number" "need_number" (defArgs st_need_number) (defBody st_need_number) (defScope st_need_number) .none kV13 dc13 pm13 an13 cd13 ct13),sl13⟩) (c13:PySem.W.codeIn K cd13 "need_number" = true) (k13:PySem.W.keepIn K (.ref f13)=true)
  (a14:PySem.W.nsIn K mainGlobals "is_row" = some (some (.ref f14))) (l14:K.lookup f14=some ⟨oc14,od14,.func (PySem.W.fnOf "is_row" "is_row" (defArgs st_is_row) (defBody st_is_row) (defScope st_is_row) .none kV14 dc14 pm14 an14 cd14 ct14),sl14⟩) (c14:PySem.W.codeIn K cd14 "is_row" = true) (k14:PySem.W.keepIn K (.ref f14)=true)
  (a15:PySem.W.nsIn K mainGlobals "need_row" = some (some (.ref f15))) (l15:K.lookup f15=some ⟨oc15,od15,.func (PySem.W.fnOf "need_row" "need_row" (defArgs st_need_row) (defBody st_need_row) (defScope st_need_row) .none kV15 dc15 pm15 an15 cd15 ct15),sl15⟩) (c15:PySem.W.codeIn K cd15 "need_row" = true) (k15:PySem.W.keepIn K (.ref f15)=true)
  (a16:PySem.W.nsIn K mainGlobals "need_row_and_number" = some (some (.ref f16))) (l16:K.lookup f16=some ⟨oc16,od16,.func (PySem.W.fnOf "need_row_and_number" "need_row_and_number" (defArgs st_need_row_and_number) (defBody st_need_row_and_number) (defScope st_need_row_and_number) .none kV16 dc16 pm16 an16 cd16 ct16),sl16⟩) (c16:PySem.W.codeIn K cd16 "need_row_and_number" = true) (k16:PySem.W.keepIn K (.ref f16)=true)
  (a17:PySem.W.nsIn K mainGlobals "halves_of" = some (some (.ref f17))) (l17:K.lookup f17=some ⟨oc17,od17,.func (PySem.W.fnOf "halves_of" "halves_of" (defArgs st_halves_of) (defBody st_halves_of) (defScope st_halves_of) .none kV17 dc17 pm17 an17 cd17 ct17),sl17⟩) (c17:PySem.W.codeIn K cd17 "halves_of" = true) (k17:PySem.W.keepIn K (.ref f17)=true)
  (a18:PySem.W.nsIn K mainGlobals "stepped" = some (some (.ref f18))) (l18:K.lookup f18=some ⟨oc18,od18,.func (PySem.W.fnOf "stepped" "stepped" (defArgs st_stepped) (defBody st_stepped) (defScope st_stepped) .none kV18 dc18 pm18 an18 cd18 ct18),sl18⟩) (c18:PySem.W.codeIn K cd18 "stepped" = true) (k18:PySem.W.keepIn K (.ref f18)=true)
  (a19:PySem.W.nsIn K mainGlobals "table_of" = some (some (.ref f19))) (l19:K.lookup f19=some ⟨oc19,od19,.func (PySem.W.fnOf "table_of" "table_of" (defArgs st_table_of) (defBody st_table_of) (defScope st_table_of) .none kV19 dc19 pm19 an19 cd19 ct19),sl19⟩) (c19:PySem.W.codeIn K cd19 "table_of" = true) (k19:PySem.W.keepIn K (.ref f19)=true)
  (a20:PySem.W.nsIn K mainGlobals "half_worths" = some (some (.ref f20))) (l20:K.lookup f20=some ⟨oc20,od20,.func (PySem.W.fnOf "half_worths" "half_worths" (defArgs st_half_worths_n) (defBody st_half_worths_n) (defScope st_half_worths_n) .none kV20 dc20 pm20 an20 cd20 ct20),sl20⟩) (c20:PySem.W.codeIn K cd20 "half_worths" = true) (k20:PySem.W.keepIn K (.ref f20)=true)
  (a21:PySem.W.nsIn K mainGlobals "walk" = some (some (.ref f21))) (l21:K.lookup f21=some ⟨oc21,od21,.func (PySem.W.fnOf "walk" "walk" (defArgs st_walk_n) (defBody st_walk_n) (defScope st_walk_n) .none kV21 dc21 pm21 an21 cd21 ct21),sl21⟩) (c21:PySem.W.codeIn K cd21 "walk" = true) (k21:PySem.W.keepIn K (.ref f21)=true)
  (a22:PySem.W.nsIn K mainGlobals "above" = some (some (.ref f22))) (l22:K.lookup f22=some ⟨oc22,od22,.func (PySem.W.fnOf "above" "above" (defArgs st_above) (defBody st_above) (defScope st_above) .none kV22 dc22 pm22 an22 cd22 ct22),sl22⟩) (c22:PySem.W.codeIn K cd22 "above" = true) (k22:PySem.W.keepIn K (.ref f22)=true)
  (a23:PySem.W.nsIn K mainGlobals "below" = some (some (.ref f23))) (l23:K.lookup f23=some ⟨oc23,od23,.func (PySem.W.fnOf "below" "below" (defArgs st_below) (defBody st_below) (defScope st_below) .none kV23 dc23 pm23 an23 cd23 ct23),sl23⟩) (c23:PySem.W.codeIn K cd23 "below" = true) (k23:PySem.W.keepIn K (.ref f23)=true)
  (a24:PySem.W.nsIn K mainGlobals "_law_said" = some (some (.ref f24))) (l24:K.lookup f24=some ⟨oc24,od24,.func (PySem.W.fnOf "_law_said" "_law_said" (defArgs st__law_said) (defBody st__law_said) (defScope st__law_said) .none kV24 dc24 pm24 an24 cd24 ct24),sl24⟩) (c24:PySem.W.codeIn K cd24 "_law_said" = true) (k24:PySem.W.keepIn K (.ref f24)=true)
  (a25:PySem.W.nsIn K mainGlobals "law" = some (some (.ref f25))) (l25:K.lookup f25=some ⟨oc25,od25,.func (PySem.W.fnOf "law" "law" (defArgs st_law) (defBody st_law) (defScope st_law) .none kV25 dc25 pm25 an25 cd25 ct25),sl25⟩) (c25:PySem.W.codeIn K cd25 "law" = true) (k25:PySem.W.keepIn K (.ref f25)=true)
  (z_ValueError:PySem.W.nsIn K mainGlobals "ValueError" = some none)
  (z_abs:PySem.W.nsIn K mainGlobals "abs" = some none)
  (z_all:PySem.W.nsIn K mainGlobals "all" = some none)
  (z_bool:PySem.W.nsIn K mainGlobals "bool" = some none)
  (z_divmod:PySem.W.nsIn K mainGlobals "divmod" = some none)
  (z_int:PySem.W.nsIn K mainGlobals "int" = some none)
  (z_isinstance:PySem.W.nsIn K mainGlobals "isinstance" = some none)
  (z_len:PySem.W.nsIn K mainGlobals "len" = some none)
  (z_max:PySem.W.nsIn K mainGlobals "max" = some none)
  (z_min:PySem.W.nsIn K mainGlobals "min" = some none)
  (z_range:PySem.W.nsIn K mainGlobals "range" = some none)
  (z_repr:PySem.W.nsIn K mainGlobals "repr" = some none)
  (z_sorted:PySem.W.nsIn K mainGlobals "sorted" = some none)
  (z_sum:PySem.W.nsIn K mainGlobals "sum" = some none)
  (z_tuple:PySem.W.nsIn K mainGlobals "tuple" = some none)
  (z_LONGEST_ROW:PySem.W.nsIn K mainGlobals "LONGEST_ROW" = some (some (.int 16 t_LONGEST_ROW)))
  (zt_SIGNS:PySem.W.nsIn K mainGlobals "SIGNS" = some (some (.ref A_SIGNS))) (yt_SIGNS:K.lookup A_SIGNS=some ⟨.type "tuple",od_SIGNS,.seq #[.int (-1) u0_SIGNS,.int (1) u1_SIGNS] n_SIGNS,sl_SIGNS⟩)
  (gt:PySem.W.specialIn K (.builtin "object.__class__") "__get__" = some (some (.builtin "getset_descriptor.__get__")))
  (tk:PySem.W.takesIn K (.builtin "object.__class__")=some true)
  (n_Lacking:PySem.W.nsIn K mainGlobals "Lacking" = some (some (.ref C_Lacking)))
  (n_NoNumber:PySem.W.nsIn K mainGlobals "NoNumber" = some (some (.ref C_NoNumber)))
  (n_NoRow:PySem.W.nsIn K mainGlobals "NoRow" = some (some (.ref C_NoRow)))
  (n_NoSigns:PySem.W.nsIn K mainGlobals "NoSigns" = some (some (.ref C_NoSigns)))
  (n_NoText:PySem.W.nsIn K mainGlobals "NoText" = some (some (.ref C_NoText)))
  (n_PlusError:PySem.W.nsIn K mainGlobals "PlusError" = some (some (.ref C_PlusError)))
  (n_TooMany:PySem.W.nsIn K mainGlobals "TooMany" = some (some (.ref C_TooMany)))
  (q_NoNumber:PySem.W.excIn K C_NoNumber veMro "ValueError.__new__" = true)
  (g1_NoNumber:PySem.W.findIn K (.ref C_NoNumber) "__getattribute__" = some (some (.builtin "BaseException.__getattribute__")))
  (g2_NoNumber:PySem.W.findIn K (.ref C_NoNumber) "__getattr__" = some none)
  (g3_NoNumber:PySem.W.findIn K (.ref C_NoNumber) "__class__" = some (some (.builtin "object.__class__")))
  (m1_NoNumber:PySem.W.mroIn K C_NoNumber (.type "BaseException")=some true)
  (m2_NoNumber:PySem.W.mroIn K C_NoNumber (.type "object")=some true)
  (cc_NoNumber:PySem.W.clsIn K C_NoNumber=some cd_NoNumber)
  (kv_NoNumber:PySem.W.kitOne K (.ref C_NoNumber) (.type "ValueError")=some true)
  (ex_NoNumber:PySem.W.exmOne K (.ref C_NoNumber) (.ref C_PlusError)=some true)
  (is_NoNumber_Lacking:PySem.W.kitOne K (.ref C_NoNumber) (.ref C_Lacking)=some false)
  (is_NoNumber_NoNumber:PySem.W.kitOne K (.ref C_NoNumber) (.ref C_NoNumber)=some true)
  (is_NoNumber_NoRow:PySem.W.kitOne K (.ref C_NoNumber) (.ref C_NoRow)=some false)
  (is_NoNumber_NoSigns:PySem.W.kitOne K (.ref C_NoNumber) (.ref C_NoSigns)=some false)
  (is_NoNumber_NoText:PySem.W.kitOne K (.ref C_NoNumber) (.ref C_NoText)=some false)
  (is_NoNumber_PlusError:PySem.W.kitOne K (.ref C_NoNumber) (.ref C_PlusError)=some true)
  (is_NoNumber_TooMany:PySem.W.kitOne K (.ref C_NoNumber) (.ref C_TooMany)=some false)
  (q_NoRow:PySem.W.excIn K C_NoRow veMro "ValueError.__new__" = true)
  (g1_NoRow:PySem.W.findIn K (.ref C_NoRow) "__getattribute__" = some (some (.builtin "BaseException.__getattribute__")))
  (g2_NoRow:PySem.W.findIn K (.ref C_NoRow) "__getattr__" = some none)
  (g3_NoRow:PySem.W.findIn K (.ref C_NoRow) "__class__" = some (some (.builtin "object.__class__")))
  (m1_NoRow:PySem.W.mroIn K C_NoRow (.type "BaseException")=some true)
  (m2_NoRow:PySem.W.mroIn K C_NoRow (.type "object")=some true)
  (cc_NoRow:PySem.W.clsIn K C_NoRow=some cd_NoRow)
  (kv_NoRow:PySem.W.kitOne K (.ref C_NoRow) (.type "ValueError")=some true)
  (ex_NoRow:PySem.W.exmOne K (.ref C_NoRow) (.ref C_PlusError)=some true)
  (is_NoRow_Lacking:PySem.W.kitOne K (.ref C_NoRow) (.ref C_Lacking)=some false)
  (is_NoRow_NoNumber:PySem.W.kitOne K (.ref C_NoRow) (.ref C_NoNumber)=some false)
  (is_NoRow_NoRow:PySem.W.kitOne K (.ref C_NoRow) (.ref C_NoRow)=some true)
  (is_NoRow_NoSigns:PySem.W.kitOne K (.ref C_NoRow) (.ref C_NoSigns)=some false)
  (is_NoRow_NoText:PySem.W.kitOne K (.ref C_NoRow) (.ref C_NoText)=some false)
  (is_NoRow_PlusError:PySem.W.kitOne K (.ref C_NoRow) (.ref C_PlusError)=some true)
  (is_NoRow_TooMany:PySem.W.kitOne K (.ref C_NoRow) (.ref C_TooMany)=some false):
  ∃ fd:FuncData,(∀ (s:Shared) (v:Value),BindsTo s fd ⟨[v],[]⟩ [("script",v)])∧∀ base:Heap,K.In base→base.Ns mainGlobals mg→FnOk P w K mg base (CX1 P w) 8 fa fd ["script"] (spN K 1 F_law):=by
 have e:=hfa.symm.trans (PySem.W.mg_of X G a25)
 cases e
 have T:Txt K mg:=⟨cls_mk gt tk n_Lacking n_NoNumber n_NoRow n_NoSigns n_NoText n_PlusError n_TooMany q_NoNumber g1_NoNumber g2_NoNumber g3_NoNumber m1_NoNumber m2_NoNumber cc_NoNumber kv_NoNumber ex_NoNumber is_NoNumber_Lacking is_NoNumber_NoNumber is_NoNumber_NoRow is_NoNumber_NoSigns is_NoNumber_NoText is_NoNumber_PlusError is_NoNumber_TooMany q_NoRow g1_NoRow g2_NoRow g3_NoRow m1_NoRow m2_NoRow cc_NoRow kv_NoRow ex_NoRow is_NoRow_Lacking is_NoRow_NoNumber is_NoRow_NoRow is_NoRow_NoSigns is_NoRow_NoText is_NoRow_PlusError is_NoRow_TooMany,⟨_,PySem.W.mg_of X G n_NoNumber,n_NoNumber,q_NoNumber⟩,⟨_,PySem.W.mg_of X G n_NoRow,n_NoRow,q_NoRow⟩,⟨_,PySem.W.mg_of X G n_Lacking,n_Lacking⟩,⟨_,PySem.W.mg_of X G n_NoNumber,n_NoNumber⟩,⟨_,PySem.W.mg_of X G n_NoRow,n_NoRow⟩,⟨_,PySem.W.mg_of X G n_NoSigns,n_NoSigns⟩,⟨_,PySem.W.mg_of X G n_NoText,n_NoText⟩,⟨_,PySem.W.mg_of X G n_PlusError,n_PlusError⟩,⟨_,PySem.W.mg_of X G n_TooMany,n_TooMany⟩,try_mk X G gt tk n_Lacking n_NoNumber n_NoRow n_NoSigns n_NoText n_PlusError n_TooMany q_NoNumber g1_NoNumber g2_NoNumber g3_NoNumber m1_NoNumber m2_NoNumber cc_NoNumber kv_NoNumber ex_NoNumber is_NoNumber_Lacking is_NoNumber_NoNumber is_NoNumber_NoRow is_NoNumber_NoSigns is_NoNumber_NoText is_NoNumber_PlusError is_NoNumber_TooMany q_NoRow g1_NoRow g2_NoRow g3_NoRow m1_NoRow m2_NoRow cc_NoRow kv_NoRow ex_NoRow is_NoRow_Lacking is_NoRow_NoNumber is_NoRow_NoRow is_NoRow_NoSigns is_NoRow_NoText is_NoRow_PlusError is_NoRow_TooMany,PySem.W.mg_none_of X G z_ValueError,PySem.W.mg_none_of X G z_abs,PySem.W.mg_none_of X G z_all,PySem.W.mg_none_of X G z_bool,PySem.W.mg_none_of X G z_divmod,PySem.W.mg_none_of X G z_int,PySem.W.mg_none_of X G z_isinstance,PySem.W.mg_none_of X G z_len,PySem.W.mg_none_of X G z_max,PySem.W.mg_none_of X G z_min,PySem.W.mg_none_of X G z_range,PySem.W.mg_none_of X G z_repr,PySem.W.mg_none_of X G z_sorted,PySem.W.mg_none_of X G z_sum,PySem.W.mg_none_of X G z_tuple,⟨_,PySem.W.mg_of X G z_LONGEST_ROW⟩,tup2_mk X G zt_SIGNS yt_SIGNS⟩
 have F0:=fun_mk (st:=st__law_cell) l0 c0 k0
 have b0:=F0.binds (ps:=["script","k"]) fun _ _ _ _ _ _=>us2 fun _ _=>rfl
 have F1:=fun_mk (st:=st__law_mix) l1 c1 k1
 have b1:=F1.binds (ps:=["cell","k"]) fun _ _ _ _ _ _=>us2 fun _ _=>rfl
 have F2:=fun_mk (st:=st__law_box) l2 c2 k2
 have b2:=F2.binds (ps:=["script","k"]) fun _ _ _ _ _ _=>us2 fun _ _=>rfl
 have F3:=fun_mk (st:=st__law_halves) l3 c3 k3
 have b3:=F3.binds (ps:=["row"]) fun _ _ _ _ _ _=>us1 fun _=>rfl
 have F4:=fun_mk (st:=st__law_all) l4 c4 k4
 have b4:=F4.binds (ps:=["many","kinds"]) fun _ _ _ _ _ _=>us2 fun _ _=>rfl
 have F5:=fun_mk (st:=st__law_worth) l5 c5 k5
 have b5:=F5.binds (ps:=["row","parts"]) fun _ _ _ _ _ _=>us2 fun _ _=>rfl
 have F6:=fun_mk (st:=st__law_table) l6 c6 k6
 have b6:=F6.binds (ps:=["row","kinds"]) fun _ _ _ _ _ _=>us2 fun _ _=>rfl
 have F7:=fun_mk (st:=st__law_counts) l7 c7 k7
 have b7:=F7.binds (ps:=["row"]) fun _ _ _ _ _ _=>us1 fun _=>rfl
 have F8:=fun_mk (st:=st__law_take) l8 c8 k8
 have b8:=F8.binds (ps:=["box","many"]) fun _ _ _ _ _ _=>us2 fun _ _=>rfl
 have F9:=fun_mk (st:=st__law_number) l9 c9 k9
 have b9:=F9.binds (ps:=["box","row"]) fun _ _ _ _ _ _=>us2 fun _ _=>rfl
 have F10:=fun_mk (st:=st__law_row) l10 c10 k10
 have b10:=F10.binds (ps:=["box","most"]) fun _ _ _ _ _ _=>us2 fun _ _=>rfl
 have F11:=fun_mk (st:=st__law_marks) l11 c11 k11
 have b11:=F11.binds (ps:=["e"]) fun _ _ _ _ _ _=>us1 fun _=>rfl
 have F12:=fun_mk (st:=st_is_whole) l12 c12 k12
 have b12:=F12.binds (ps:=["thing"]) fun _ _ _ _ _ _=>us1 fun _=>rfl
 have F13:=fun_mk (st:=st_need_number) l13 c13 k13
 have b13:=F13.binds (ps:=["thing"]) fun _ _ _ _ _ _=>us1 fun _=>rfl
 have F14:=fun_mk (st:=st_is_row) l14 c14 k14
 have b14:=F14.binds (ps:=["thing"]) fun _ _ _ _ _ _=>us1 fun _=>rfl
 have F15:=fun_mk (st:=st_need_row) l15 c15 k15
 have b15:=F15.binds (ps:=["thing"]) fun _ _ _ _ _ _=>us1 fun _=>rfl
 have F16:=fun_mk (st:=st_need_row_and_number) l16 c16 k16
 have b16:=F16.binds (ps:=["row","number"]) fun _ _ _ _ _ _=>us2 fun _ _=>rfl
 have F17:=fun_mk (st:=st_halves_of) l17 c17 k17
 have b17:=F17.binds (ps:=["row"]) fun _ _ _ _ _ _=>us1 fun _=>rfl
 have F18:=fun_mk (st:=st_stepped) l18 c18 k18
 have b18:=F18.binds (ps:=["table","step","choices"]) fun _ _ _ _ _ _=>us3 fun _ _ _=>rfl
 have F19:=fun_mk (st:=st_table_of) l19 c19 k19
 have b19:=F19.binds (ps:=["row","choices"]) fun _ _ _ _ _ _=>us2 fun _ _=>rfl
 have F20:=fun_mk (st:=st_half_worths_n) l20 c20 k20
 have b20:=F20.binds (ps:=["row"]) fun _ _ _ _ _ _=>us1 fun _=>rfl
 have F21:=fun_mk (st:=st_walk_n) l21 c21 k21
 have b21:=F21.binds (ps:=["row","number"]) fun _ _ _ _ _ _=>us2 fun _ _=>rfl
 have F22:=fun_mk (st:=st_above) l22 c22 k22
 have b22:=F22.binds (ps:=["row","number"]) fun _ _ _ _ _ _=>us2 fun _ _=>rfl
 have F23:=fun_mk (st:=st_below) l23 c23 k23
 have b23:=F23.binds (ps:=["row","number"]) fun _ _ _ _ _ _=>us2 fun _ _=>rfl
 have F24:=fun_mk (st:=st__law_said) l24 c24 k24
 have b24:=F24.binds (ps:=["kind","row","number"]) fun _ _ _ _ _ _=>us3 fun _ _ _=>rfl
 have F25:=fun_mk (st:=st_law) l25 c25 k25
 have b25:=F25.binds (ps:=["script"]) fun _ _ _ _ _ _=>us1 fun _=>rfl
 refine ⟨PySem.W.fnOf "law" "law" (defArgs st_law) (defBody st_law) (defScope st_law) .none kV25 dc25 pm25 an25 cd25 ct25,fun s v=>.of_eq rfl,fun base _ _=>?_⟩
 have d__law_cell:DefN P w K mg base "_law_cell" 1 2 F__law_cell:=ok__law_cell F0 (PySem.W.mg_of X G a0) b0 T
 have d__law_mix:DefN P w K mg base "_law_mix" 1 2 F__law_mix:=ok__law_mix F1 (PySem.W.mg_of X G a1) b1 T
 have d__law_box:DefN P w K mg base "_law_box" 2 2 F__law_box:=ok__law_box F2 (PySem.W.mg_of X G a2) b2 T d__law_cell d__law_mix
 have d__law_halves:DefN P w K mg base "_law_halves" 1 1 F__law_halves:=ok__law_halves F3 (PySem.W.mg_of X G a3) b3 T
 have d__law_all:DefN P w K mg base "_law_all" 1 2 F__law_all:=ok__law_all F4 (PySem.W.mg_of X G a4) b4 T
 have d__law_worth:DefN P w K mg base "_law_worth" 1 2 F__law_worth:=ok__law_worth F5 (PySem.W.mg_of X G a5) b5 T
 have d__law_table:DefN P w K mg base "_law_table" 2 2 F__law_table:=ok__law_table F6 (PySem.W.mg_of X G a6) b6 T d__law_all d__law_worth
 have d__law_counts:DefN P w K mg base "_law_counts" 3 1 F__law_counts:=ok__law_counts F7 (PySem.W.mg_of X G a7) b7 T d__law_halves d__law_table
 have d__law_take:DefN P w K mg base "_law_take" 1 2 F__law_take:=ok__law_take F8 (PySem.W.mg_of X G a8) b8 T
 have d__law_number:DefN P w K mg base "_law_number" 2 2 F__law_number:=ok__law_number F9 (PySem.W.mg_of X G a9) b9 T d__law_take
 have d__law_row:DefN P w K mg base "_law_row" 2 2 F__law_row:=ok__law_row F10 (PySem.W.mg_of X G a10) b10 T d__law_take
 have d__law_marks:DefM P w K mg base "_law_marks" 1 1 F__law_marks:=ok__law_marks F11 (PySem.W.mg_of X G a11) b11 T
 have d_is_whole:DefN P w K mg base "is_whole" 1 1 F_is_whole:=ok_is_whole F12 (PySem.W.mg_of X G a12) b12 T
 have d_need_number:DefR P w K mg base "need_number" 2 1 F_need_number:=ok_need_number F13 (PySem.W.mg_of X G a13) b13 T d_is_whole
 have d_is_row:DefN P w K mg base "is_row" 2 1 F_is_row:=ok_is_row F14 (PySem.W.mg_of X G a14) b14 T d_is_whole
 have d_need_row:DefR P w K mg base "need_row" 3 1 F_need_row:=ok_need_row F15 (PySem.W.mg_of X G a15) b15 T d_is_row
 have d_need_row_and_number:DefR P w K mg base "need_row_and_number" 4 2 F_need_row_and_number:=ok_need_row_and_number F16 (PySem.W.mg_of X G a16) b16 T d_need_number d_need_row
 have d_halves_of:DefN P w K mg base "halves_of" 1 1 F_halves_of:=ok_halves_of F17 (PySem.W.mg_of X G a17) b17 T
 have d_need_row_n:DefN P w K mg base "need_row" 3 1 F_need_row_n:=ok_need_row_n F15 (PySem.W.mg_of X G a15) b15 T d_is_row
 have d_stepped:DefN P w K mg base "stepped" 1 3 F_stepped:=ok_stepped F18 (PySem.W.mg_of X G a18) b18 T
 have d_table_of:DefN P w K mg base "table_of" 2 2 F_table_of:=ok_table_of F19 (PySem.W.mg_of X G a19) b19 T d_stepped
 have d_half_worths_n:DefN P w K mg base "half_worths" 4 1 F_half_worths_n:=ok_half_worths_n F20 (PySem.W.mg_of X G a20) b20 T d_halves_of d_need_row_n d_table_of
 have d_walk_n:DefN P w K mg base "walk" 5 2 F_walk_n:=ok_walk_n F21 (PySem.W.mg_of X G a21) b21 T d_half_worths_n
 have d_above:DefR P w K mg base "above" 6 2 F_above:=ok_above F22 (PySem.W.mg_of X G a22) b22 T d_need_row_and_number d_walk_n
 have d_below:DefR P w K mg base "below" 6 2 F_below:=ok_below F23 (PySem.W.mg_of X G a23) b23 T d_need_row_and_number d_walk_n
 have d__law_said:DefN P w K mg base "_law_said" 7 3 F__law_said:=ok__law_said F24 (PySem.W.mg_of X G a24) b24 T d__law_marks d_above d_below
 exact law_ofN ["script","k","box","row","worths","lap","thing","number","low","high"] ["script"] 7 8 1 10 rfl rfl rfl (m:=m_law) F25 sc_law fun cdv A outer s H E hr=>(ss_cons (ss_for PassesOwn.never rfl (si_range1 (by unfold Gl; kernel_rfl) T.b_range (sa_cons (se_callB (xc_max rfl) (by unfold Gl; kernel_rfl) T.b_max boo_max (sa_cons se_int (sa_cons (se_callB (xc_min rfl) (by unfold Gl; kernel_rfl) T.b_min boo_min (sa_cons (se_callB xc_len (by unfold Gl; kernel_rfl) T.b_len boo_len (sa_cons (se_var 0 (by kernel_rfl) (Or.inl (by kernel_rfl))) sa_nil)) (sa_cons se_int sa_nil))) sa_nil))) sa_nil)) (sg_name sc_law.nd (by kernel_rfl) (Or.inl (by kernel_rfl))) (ss_cons (ss_set sc_law.nd (by kernel_rfl) (Or.inl (by kernel_rfl)) (se_fnN d__law_box (hr.mono (by decide)) (by unfold Gl; kernel_rfl) (sa_cons (se_var 0 (by kernel_rfl) (Or.inl (by kernel_rfl))) (sa_cons (se_var 1 (by kernel_rfl) (Or.inl (by kernel_rfl))) sa_nil)) (alen_cons (alen_cons alen_nil)))) (ss_cons (ss_set sc_law.nd (by kernel_rfl) (Or.inl (by kernel_rfl)) (se_fnN d__law_row (hr.mono (by decide)) (by unfold Gl; kernel_rfl) (sa_cons (se_var 2 (by kernel_rfl) (Or.inl (by kernel_rfl))) (sa_cons (se_ix xi_ix (se_lst (sa_cons se_int (sa_cons se_int (sa_cons se_int sa_nil)))) (se_var 1 (by kernel_rfl) (Or.inl (by kernel_rfl)))) sa_nil)) (alen_cons (alen_cons alen_nil)))) (ss_cons (ss_set sc_law.nd (by kernel_rfl) (Or.inl (by kernel_rfl)) (se_callB (xc_srt rfl) (by unfold Gl; kernel_rfl) T.b_sorted boo_sorted (sa_cons (se_fnN d__law_counts (hr.mono (by decide)) (by unfold Gl; kernel_rfl) (sa_cons (se_var 3 (by kernel_rfl) (Or.inl (by kernel_rfl))) sa_nil) (alen_cons alen_nil)) sa_nil))) (ss_cons (ss_for PassesOwn.never rfl (si_range1 (by unfold Gl; kernel_rfl) T.b_range (sa_cons se_int sa_nil)) (sg_name sc_law.nd (by kernel_rfl) (Or.inl (by kernel_rfl))) (ss_cons (ss_set sc_law.nd (by kernel_rfl) (Or.inr (by kernel_rfl)) (se_fnN d__law_number (hr.mono (by decide)) (by unfold Gl; kernel_rfl) (sa_cons (se_var 2 (by kernel_rfl) (Or.inl (by kernel_rfl))) (sa_cons (se_var 3 (by kernel_rfl) (Or.inl (by kernel_rfl))) sa_nil)) (alen_cons (alen_cons alen_nil)))) (ss_cons (ss_setC (i0:=8) (N:=["one","number"]) (k:=1) (caps:=[7]) sc_law.nd (by kernel_rfl) (Or.inl (by kernel_rfl)) rfl (fun _ _ z=>z) (cs_mk (by kernel_rfl) (by kernel_rfl) (by kernel_rfl) (by kernel_rfl) rfl (by kernel_rfl)) (si_seq (se_var 4 (by kernel_rfl) (Or.inl (by kernel_rfl)))) (fun _ _ _ _=>(sg_name (show (["one","number"]:List Str).Nodup by decide +kernel) (by kernel_rfl) (Or.inl (by kernel_rfl)))) (fun _ _ _ _=>(sif_one (st_cmp xo_le (se_var 0 (by kernel_rfl) (Or.inl (by kernel_rfl))) (se_var 1 (by kernel_rfl) (Or.inr (Or.inl (by kernel_rfl))))))) (fun _ _ _ _=>(se_var 0 (by kernel_rfl) (Or.inl (by kernel_rfl))))) (ss_cons (ss_setC (i0:=9) (N:=["one","number"]) (k:=1) (caps:=[7]) sc_law.nd (by kernel_rfl) (Or.inl (by kernel_rfl)) rfl (fun _ _ z=>z) (cs_mk (by kernel_rfl) (by kernel_rfl) (by kernel_rfl) (by kernel_rfl) rfl (by kernel_rfl)) (si_seq (se_var 4 (by kernel_rfl) (Or.inl (by kernel_rfl)))) (fun _ _ _ _=>(sg_name (show (["one","number"]:List Str).Nodup by decide +kernel) (by kernel_rfl) (Or.inl (by kernel_rfl)))) (fun _ _ _ _=>(sif_one (st_cmp xo_ge (se_var 0 (by kernel_rfl) (Or.inl (by kernel_rfl))) (se_var 1 (by kernel_rfl) (Or.inr (Or.inl (by kernel_rfl))))))) (fun _ _ _ _=>(se_var 0 (by kernel_rfl) (Or.inl (by kernel_rfl))))) (ss_cons (ss_if (st_cmp (xo_neP hr) (se_callB (xc_repr hr) (by unfold Gl; kernel_rfl) T.b_repr boo_repr (sa_cons (se_fnN d__law_said (hr.mono (by decide)) (by unfold Gl; kernel_rfl) (sa_cons se_int (sa_cons (se_var 3 (by kernel_rfl) (Or.inl (by kernel_rfl))) (sa_cons (se_var 7 (by kernel_rfl) (Or.inr (Or.inl (by kernel_rfl)))) sa_nil))) (alen_cons (alen_cons (alen_cons alen_nil)))) sa_nil)) (se_callB (xc_repr hr) (by unfold Gl; kernel_rfl) T.b_repr boo_repr (sa_cons (se_ix xi_ix (se_op xo_add (se_lst (sa_cons se_non sa_nil)) (se_var 8 (by kernel_rfl) (Or.inl (by kernel_rfl)))) (se_un xu_neg se_int)) sa_nil))) (ss_one (ss_ret se_bl)) ss_nil) (ss_one (ss_if (st_cmp (xo_neP hr) (se_callB (xc_repr hr) (by unfold Gl; kernel_rfl) T.b_repr boo_repr (sa_cons (se_fnN d__law_said (hr.mono (by decide)) (by unfold Gl; kernel_rfl) (sa_cons se_int (sa_cons (se_var 3 (by kernel_rfl) (Or.inl (by kernel_rfl))) (sa_cons (se_var 7 (by kernel_rfl) (Or.inr (Or.inl (by kernel_rfl)))) sa_nil))) (alen_cons (alen_cons (alen_cons alen_nil)))) sa_nil)) (se_callB (xc_repr hr) (by unfold Gl; kernel_rfl) T.b_repr boo_repr (sa_cons (se_ix xi_ix (se_op xo_add (se_var 9 (by kernel_rfl) (Or.inl (by kernel_rfl))) (se_lst (sa_cons se_non sa_nil))) se_int) sa_nil))) (ss_one (ss_ret se_bl)) ss_nil))))))) (ss_one (ss_for PassesOwn.never rfl (si_seq (se_lst (sa_cons se_non (sa_cons se_bl (sa_cons se_str (sa_cons (se_tup (sa_cons se_int sa_nil)) (sa_cons (se_lst (sa_cons se_int sa_nil)) (sa_cons se_dic0 sa_nil)))))))) (sg_name sc_law.nd (by kernel_rfl) (Or.inl (by kernel_rfl))) (ss_one (ss_if (sw_st (sw_or (st_cmp (xo_neP hr) (se_fnN d__law_said (hr.mono (by decide)) (by unfold Gl; kernel_rfl) (sa_cons se_int (sa_cons (se_var 3 (by kernel_rfl) (Or.inl (by kernel_rfl))) (sa_cons (se_var 6 (by kernel_rfl) (Or.inl (by kernel_rfl))) sa_nil))) (alen_cons (alen_cons (alen_cons alen_nil)))) se_str) (sw_or1 (st_cmp (xo_neP hr) (se_fnN d__law_said (hr.mono (by decide)) (by unfold Gl; kernel_rfl) (sa_cons se_int (sa_cons (se_var 3 (by kernel_rfl) (Or.inl (by kernel_rfl))) (sa_cons (se_var 6 (by kernel_rfl) (Or.inl (by kernel_rfl))) sa_nil))) (alen_cons (alen_cons (alen_cons alen_nil)))) se_str)))) (ss_one (ss_ret se_bl)) ss_nil))))))))) (ss_one (ss_ret se_bl)))
theorem walk {l:PySem.W.OpenLaw} {q:Program} {loose:List Str} {XP:(Str→Option Value)→Heap→Prop} {YP:World→Heap→Prop} {d:DefRec} {K:Params→PySem.W.Frag} (hn:l.most=some 63) (hdf:d.params.defaults=[])
  (hY:∀ (w:World) (h:Heap),YP w h→(K w.params).In h)
  (F:∀ (w:World) (mg:Str→Option Value) (fa:Addr) (h:Heap),(K w.params).In h→h.Ns mainGlobals mg→mg d.name=some (.ref fa)→
   ∃ fd:FuncData,(∀ (s:Shared) (u:Value),BindsTo s fd ⟨[u],[]⟩ [("script",u)])∧∀ base:Heap,(K w.params).In base→base.Ns mainGlobals mg→FnOk l.prog w (K w.params) mg base (CX1 l.prog w) 8 fa fd ["script"] (spN (K w.params) 1 F_law)):
  PySem.W.WalkO q loose XP YP l.row.toRowW d [] (fun f vs=>PySem.call f vs):=
 L2.walk_of (n:=63) (k:=8) (x:="script") (CX:=fun w=>CX1 l.prog w) (sp:=fun w=>spN (K w.params) 1 F_law) hn (by decide) hdf ⟨rfl,by decide,by decide,rfl⟩ hY F (fun w H a ns hl ho hS=>law_spN law_true (K w.params) H a ns hl ho hS) fun _ _ _ _ _ z=>cx1_no z
end Lw
open PySem PySem.W PyProof.Rows
set_option maxRecDepth 100000 in
set_option maxHeartbeats 0 in
theorem PySem.Challenge.cw_plusless_k19_the_nearest_worths_holds : PySem.Challenge.rw_plusless_k19_the_nearest_worths.Holds := by
  w_on; o_law
  refine holds_open (q := Lw.hV) (loose := []) (Xt := Lw.hX) (XP := XL Lw.hV []) (Yf := Hook.obs (kHook Lw.hK Lw.hA Lw.hKA)) (Ya := Hook.val (kHook Lw.hK Lw.hA Lw.hKA)) (YP := Hook.says (kHook Lw.hK Lw.hA Lw.hKA)) (N := 7600) Lw.left (Hook.of (kHook Lw.hK Lw.hA Lw.hKA)) (Hook.keeps (kHook Lw.hK Lw.hA Lw.hKA)) (fun s e => xl_of s (Bool.and_eq_true_iff.mp e).1) XL.keeps (by rfl) (by rfl) (by rfl) (fun s e => recFacts_of (Bool.and_eq_true_iff.mp e).2) (by rfl) (by first | assumption | decide +kernel) (by decide +kernel) ⟨rfl, rfl, rfl, rfl, rfl, by decide +kernel⟩ ?hw ?hc
  case hw => w_witness2
  k_fill
  refine Lw.walk (l := PySem.Challenge.rw_plusless_k19_the_nearest_worths) rfl rfl (fun w h Y => PySem.W.kIn_of Y) ?F
  case F =>
    intro w mg fa h KX G hmg
    refine' Lw.all_mk KX G hmg ?a0 ?l0 ?c0 ?k0 ?a1 ?l1 ?c1 ?k1 ?a2 ?l2 ?c2 ?k2 ?a3 ?l3 ?c3 ?k3 ?a4 ?l4 ?c4 ?k4 ?a5 ?l5 ?c5 ?k5 ?a6 ?l6 ?c6 ?k6 ?a7 ?l7 ?c7 ?k7 ?a8 ?l8 ?c8 ?k8 ?a9 ?l9 ?c9 ?k9 ?a10 ?l10 ?c10 ?k10 ?a11 ?l11 ?c11 ?k11 ?a12 ?l12 ?c12 ?k12 ?a13 ?l13 ?c13 ?k13 ?a14 ?l14 ?c14 ?k14 ?a15 ?l15 ?c15 ?k15 ?a16 ?l16 ?c16 ?k16 ?a17 ?l17 ?c17 ?k17 ?a18 ?l18 ?c18 ?k18 ?a19 ?l19 ?c19 ?k19 ?a20 ?l20 ?c20 ?k20 ?a21 ?l21 ?c21 ?k21 ?a22 ?l22 ?c22 ?k22 ?a23 ?l23 ?c23 ?k23 ?a24 ?l24 ?c24 ?k24 ?a25 ?l25 ?c25 ?k25 ?z_ValueError ?z_abs ?z_all ?z_bool ?z_divmod ?z_int ?z_isinstance ?z_len ?z_max ?z_min ?z_range ?z_repr ?z_sorted ?z_sum ?z_tuple ?z_LONGEST_ROW ?zt_SIGNS ?yt_SIGNS ?gt ?tk ?n_Lacking ?n_NoNumber ?n_NoRow ?n_NoSigns ?n_NoText ?n_PlusError ?n_TooMany ?q_NoNumber ?g1_NoNumber ?g2_NoNumber ?g3_NoNumber ?m1_NoNumber ?m2_NoNumber ?cc_NoNumber ?kv_NoNumber ?ex_NoNumber ?is_NoNumber_Lacking ?is_NoNumber_NoNumber ?is_NoNumber_NoRow ?is_NoNumber_NoSigns ?is_NoNumber_NoText ?is_NoNumber_PlusError ?is_NoNumber_TooMany ?q_NoRow ?g1_NoRow ?g2_NoRow ?g3_NoRow ?m1_NoRow ?m2_NoRow ?cc_NoRow ?kv_NoRow ?ex_NoRow ?is_NoRow_Lacking ?is_NoRow_NoNumber ?is_NoRow_NoRow ?is_NoRow_NoSigns ?is_NoRow_NoText ?is_NoRow_PlusError ?is_NoRow_TooMany
    (case a0 => k_is)
    (case l0 => k_is)
    (case c0 => k_is)
    (case k0 => k_is)
    (case a1 => k_is)
    (case l1 => k_is)
    (case c1 => k_is)
    (case k1 => k_is)
    (case a2 => k_is)
    (case l2 => k_is)
    (case c2 => k_is)
    (case k2 => k_is)
    (case a3 => k_is)
    (case l3 => k_is)
    (case c3 => k_is)
    (case k3 => k_is)
    (case a4 => k_is)
    (case l4 => k_is)
    (case c4 => k_is)
    (case k4 => k_is)
    (case a5 => k_is)
    (case l5 => k_is)
    (case c5 => k_is)
    (case k5 => k_is)
    (case a6 => k_is)
    (case l6 => k_is)
    (case c6 => k_is)
    (case k6 => k_is)
    (case a7 => k_is)
    (case l7 => k_is)
    (case c7 => k_is)
    (case k7 => k_is)
    (case a8 => k_is)
    (case l8 => k_is)
    (case c8 => k_is)
    (case k8 => k_is)
    (case a9 => k_is)
    (case l9 => k_is)
    (case c9 => k_is)
    (case k9 => k_is)
    (case a10 => k_is)
    (case l10 => k_is)
    (case c10 => k_is)
    (case k10 => k_is)
    (case a11 => k_is)
    (case l11 => k_is)
    (case c11 => k_is)
    (case k11 => k_is)
    (case a12 => k_is)
    (case l12 => k_is)
    (case c12 => k_is)
    (case k12 => k_is)
    (case a13 => k_is)
    (case l13 => k_is)
    (case c13 => k_is)
    (case k13 => k_is)
    (case a14 => k_is)
    (case l14 => k_is)
    (case c14 => k_is)
    (case k14 => k_is)
    (case a15 => k_is)
    (case l15 => k_is)
    (case c15 => k_is)
    (case k15 => k_is)
    (case a16 => k_is)
    (case l16 => k_is)
    (case c16 => k_is)
    (case k16 => k_is)
    (case a17 => k_is)
    (case l17 => k_is)
    (case c17 => k_is)
    (case k17 => k_is)
    (case a18 => k_is)
    (case l18 => k_is)
    (case c18 => k_is)
    (case k18 => k_is)
    (case a19 => k_is)
    (case l19 => k_is)
    (case c19 => k_is)
    (case k19 => k_is)
    (case a20 => k_is)
    (case l20 => k_is)
    (case c20 => k_is)
    (case k20 => k_is)
    (case a21 => k_is)
    (case l21 => k_is)
    (case c21 => k_is)
    (case k21 => k_is)
    (case a22 => k_is)
    (case l22 => k_is)
    (case c22 => k_is)
    (case k22 => k_is)
    (case a23 => k_is)
    (case l23 => k_is)
    (case c23 => k_is)
    (case k23 => k_is)
    (case a24 => k_is)
    (case l24 => k_is)
    (case c24 => k_is)
    (case k24 => k_is)
    (case a25 => k_is)
    (case l25 => k_is)
    (case c25 => k_is)
    (case k25 => k_is)
    (case z_ValueError => k_is)
    (case z_abs => k_is)
    (case z_all => k_is)
    (case z_bool => k_is)
    (case z_divmod => k_is)
    (case z_int => k_is)
    (case z_isinstance => k_is)
    (case z_len => k_is)
    (case z_max => k_is)
    (case z_min => k_is)
    (case z_range => k_is)
    (case z_repr => k_is)
    (case z_sorted => k_is)
    (case z_sum => k_is)
    (case z_tuple => k_is)
    (case z_LONGEST_ROW => k_is)
    (case zt_SIGNS => k_is)
    (case yt_SIGNS => k_is)
    (case gt => k_is)
    (case tk => k_is)
    (case n_Lacking => k_is)
    (case n_NoNumber => k_is)
    (case n_NoRow => k_is)
    (case n_NoSigns => k_is)
    (case n_NoText => k_is)
    (case n_PlusError => k_is)
    (case n_TooMany => k_is)
    (case q_NoNumber => k_exc)
    (case g1_NoNumber => k_is)
    (case g2_NoNumber => k_is)
    (case g3_NoNumber => k_is)
    (case m1_NoNumber => k_is)
    (case m2_NoNumber => k_is)
    (case cc_NoNumber => k_is)
    (case kv_NoNumber => kit_is)
    (case ex_NoNumber => kts_exm)
    (case is_NoNumber_Lacking => kit_is)
    (case is_NoNumber_NoNumber => kit_is)
    (case is_NoNumber_NoRow => kit_is)
    (case is_NoNumber_NoSigns => kit_is)
    (case is_NoNumber_NoText => kit_is)
    (case is_NoNumber_PlusError => kit_is)
    (case is_NoNumber_TooMany => kit_is)
    (case q_NoRow => k_exc)
    (case g1_NoRow => k_is)
    (case g2_NoRow => k_is)
    (case g3_NoRow => k_is)
    (case m1_NoRow => k_is)
    (case m2_NoRow => k_is)
    (case cc_NoRow => k_is)
    (case kv_NoRow => kit_is)
    (case ex_NoRow => kts_exm)
    (case is_NoRow_Lacking => kit_is)
    (case is_NoRow_NoNumber => kit_is)
    (case is_NoRow_NoRow => kit_is)
    (case is_NoRow_NoSigns => kit_is)
    (case is_NoRow_NoText => kit_is)
    (case is_NoRow_PlusError => kit_is)
    (case is_NoRow_TooMany => kit_is)
