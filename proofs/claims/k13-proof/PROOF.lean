import PyProof.Rows.All
import Wide.All
import OpenK.AllK
import Wide.FinOn
import PyProof.EqAt
import PyProof.EqKinds
import PyProof.TupleCall
import PyProof.ZipIter
import PyProof.EnumMake
import PyProof.Draws
import PyProof.LayNew
import PyProof.Rows.SortShell
import PyProof.IsRules
import PyProof.ListIndex
import PyProof.Cells
import PyProof.CompUse
import PyProof.DictItems
import PyProof.DictItemsLoops
import PyProof.Rows.MinMaxN
import PyProof.Rows.Range3
import KE.KRevIter
import PyProof.DictWalks
import PyProof.NeKinds
import PyProof.DictList
import PyProof.DictUpdate
import PyProof.Rows.Tup
import PyProof.FactsAll.tuple_2
import PyProof.Rows.CallKwBuiltin
import KE.KDictSum
import Lean
import PySem.Challenge.RW_plusless_k13_whole_tables_and_papers
set_option Elab.async false
set_option linter.all false
set_option maxRecDepth 100000
set_option genSizeOf false
noncomputable section
theorem Au.h2 (h:True:=by decide):True:=h
theorem Au.h5 (h:True:=by intro _; rfl):True:=h
theorem Au.h1 (h:True:=by rfl):True:=h
theorem Au.h8 (h:True:=by intro _ _ z; cases z):True:=h
theorem Au.h0 (h:True:=by kernel_rfl):True:=h
theorem Au.h3 (h:True:=by decide +kernel):True:=h
theorem Au.h9 (h:True:=by first | exact L2.Ar _ | kernel_rfl):True:=h
theorem Au.h4 (h:True:=by intro _; kernel_rfl):True:=h
theorem Au.h7 (h:True:=by first | left; rfl | right; kernel_rfl):True:=h
theorem ex5 {α β:Type} {a b c:α→β→Prop} {P:Prop} (z:∃ x y,a x y∧b x y∧c x y) (f:∀ x y,a x y→b x y→c x y→P):P:=by
 obtain ⟨x,y,u,v,w⟩:=z
 exact f x y u v w
namespace Lw
open PySem
def top (i:Nat):Stmt:=PySem.Challenge.pw_plusless_k13_whole_tables_and_papers.main.body.getD i (.Pass ⟨0,0,0,0⟩)
def hdI (s:Stmt) (j:Nat):Stmt:=match s with
  | .ClassDef _ _ _ body _ _ _ _ _ _ _ => body.getD j (.Pass ⟨0, 0, 0, 0⟩)
  | _ => .Pass ⟨0, 0, 0, 0⟩
def hdA (s:Stmt):Arguments:=match s with
  | .FunctionDef _ a _ _ _ _ _ _ _ _ => a
  | _ => {posonlyargs:=[],args:=[],vararg:=none,kwonlyargs:=[],kw_defaults:=[],kwarg:=none,defaults:=[]}
def hdB (s:Stmt):List Stmt:=match s with
  | .FunctionDef _ _ b _ _ _ _ _ _ _ => b
  | _ => []
def hdS (s:Stmt):Scope:=match s with
  | .FunctionDef _ _ _ _ _ _ sc _ _ _ => sc
  | _ => {kind:=.function,names:=[],isGenerator:=false,isCoroutine:=false}
def hEQ (P:Params) (n:Str) (t:Tok) (v:Value):DictEntry:={hash:=PyData.keyHash P n,key:=.str n t,val:=v}
def hFQ (n:Str) (i:Nat) (m:Str) (t:Tok) (c:Addr):Obj:={cls:=.type "function",data:=.func {name:=n,qualname:=n,params:=hdA (top i),body:=.stmts (hdB (top i)),scope:=hdS (top i),globals:=3,closure:=[],defaults:=.none,kwdefaults:=.none,pyModule:=.str m t,code:=.ref c}}
def hCQ (n:Str) (t0 t1 t2:Tok) (a b c d e:Int) (r0:Value) (f:Int) (r1 r2 r3 r4 r5:Value) (g h:Int) (t3:Tok):Obj:={cls:=.type "code",data:=.fields #[.str n t0,.str n t1,.str "/claim/cut.py" t2,.int a 0,.int b 0,.int c 0,.int d 0,.int e 0,r0,.bool true,.int f 0,r1,r2,r3,r4,r5,.int g 0,.int h 0,.str "/claim/cut.py" t3]}
def hMQ (n q:Str) (i j:Nat) (m:Str) (t:Tok) (c:Addr):Obj:={cls:=.type "function",data:=.func {name:=n,qualname:=q,params:=hdA (hdI (top i) j),body:=.stmts (hdB (hdI (top i) j)),scope:=hdS (hdI (top i) j),globals:=3,closure:=[],defaults:=.none,kwdefaults:=.none,pyModule:=.str m t,code:=.ref c}}
def hC2 (q n:Str) (t0 t1 t2:Tok) (a b c d e:Int) (r0:Value) (f:Int) (r1 r2 r3 r4 r5:Value) (g h:Int) (t3:Tok):Obj:={cls:=.type "code",data:=.fields #[.str n t0,.str q t1,.str "/claim/cut.py" t2,.int a 0,.int b 0,.int c 0,.int d 0,.int e 0,r0,.bool true,.int f 0,r1,r2,r3,r4,r5,.int g 0,.int h 0,.str "/claim/cut.py" t3]}
def hGQ (n:Str) (i:Nat):Obj:={cls:=.none,data:=.func {name:=n,qualname:=n,params:=hdA (top i),body:=.stmts (hdB (top i)),scope:=hdS (top i),globals:=0,closure:=[],defaults:=.none,kwdefaults:=.none}}
def hG2 (n q:Str) (i j:Nat):Obj:={cls:=.none,data:=.func {name:=n,qualname:=q,params:=hdA (hdI (top i) j),body:=.stmts (hdB (hdI (top i) j)),scope:=hdS (hdI (top i) j),globals:=0,closure:=[],defaults:=.none,kwdefaults:=.none}}
def hq0Q:Obj:={cls:=.type "tuple",data:=.seq #[]}
def hq1:Obj:={cls:=.none,data:=.fields #[]}
def hq2 (x1 x2 x3:Nat) (y0:Str):Obj:={cls:=.type "code",data:=.fields #[.str y0 x1,.str y0 (x1+1),.str "/claim/cut.py" (x1+2),.int (.ofNat x2) 0,.int 0 0,.int 0 0,.int 0 0,.int 0 0,.ref x3,.bool false,.int 181 0,.ref (x3+1),.none,.none,.none,.none,.int (.ofNat (x1+3)) 0,.int (.ofNat x2) 0,.str "/claim/cut.py" (x1+4)]}
def hq3Q (x0 x1 x3:Nat) (y2:Str):Obj:={cls:=.type "frame",slots:=#[some (.ref x0),some (.ref 3),some (.ref x1),none,some (.str y2 x3),none,some (.ref 0)]}
def hq4:Obj:={cls:=.type "builtin_function_or_method",data:=.fields #[.builtin "type.__prepare__",.type "type"]}
def hq5 (P:Params) (x0 x2 x3:Nat) (y1:Str):Obj:={cls:=.type "dict",data:=.dict #[hEQ P "__module__" x0 (.str "plusless.errors" 187),hEQ P "__qualname__" (x0+2) (.str y1 (x0+1)),hEQ P "__firstlineno__" (x0+4) (.int (.ofNat x2) (x0+3)),hEQ P "__static_attributes__" (x0+5) (.ref x3)] 4}
def hq6Q (x0:Nat):Obj:={cls:=.type "super",data:=.fields #[.ref x0,.ref x0,.ref x0]}
def hq7 (x0:Nat):Obj:={cls:=.type "builtin_function_or_method",data:=.fields #[.builtin "object.__init_subclass__",.ref x0]}
def hq8:Obj:={cls:=.type "tuple",data:=.seq #[.ref 24]}
def hq9 (P:Params) (x0 x1 x2:Nat):Obj:={cls:=.type "dict",data:=.dict #[hEQ P "__module__" x0 (.str "plusless.errors" 187),hEQ P "__firstlineno__" (x0+4) (.int (.ofNat x1) (x0+3)),hEQ P "__static_attributes__" (x0+5) (.ref x2),hEQ P "__doc__" (x0+6) .none] 2}
def hq10 (x1 x2:Nat) (y0:Str):Obj:={cls:=.type "type",data:=.cls {name:=y0,bases:=[.ref 24],mro:=[.ref (x1+9),.ref 24,.type "ValueError",.type "Exception",.type "BaseException",.type "object"],ns:=(x1+8),qualname:=y0},slots:=#[some (.ref x1),none,some (.str y0 x2),some (.str y0 (x2+8)),some (.builtin "ValueError.__new__"),some (.bool true)]}
def hq11 (x1 x2 x3 x4 x5:Nat) (y0:Str):Obj:=hCQ y0 x1 (x1+1) (x1+2) (.ofNat x2) (.ofNat x3) 0 0 3 (.ref x4) 181 (.ref (x4+1)) .none (.ref (x4+2)) (.ref (x4+3)) (.ref (x4+4)) (.ofNat x5) (.ofNat x2) (x5+1)
def hq12 (x1 x2 x3 x4:Nat) (y0:Str):Obj:=hCQ y0 x1 (x1+1) (x1+2) (.ofNat x2) (.ofNat x3) 0 0 3 (.ref x4) 181 (.ref (x4+1)) .none .none .none (.ref (x4+2)) (.ofNat (x1+3)) (.ofNat x2) (x1+4)
def hK:Params→PySem.W.Frag:=fun P=>(nat_lit 2,{cls:=.none,data:=.dict #[]})::
 (nat_lit 3,{cls:=.type "dict",data:=.dict #[hEQ P "__name__" 165 (.str "law_plusless_k13_whole_tables_and_papers" 563),hEQ P "__doc__" 166 .none,hEQ P "__package__" 167 .none,hEQ P "__loader__" 168 (.builtin "__main__.__loader__#opaque"),hEQ P "__spec__" 169 .none,hEQ P "__annotations__" 170 (.ref 6),hEQ P "__builtins__" 171 (.ref 4),hEQ P "__file__" 173 (.str "/claim/cut.py" 172),hEQ P "__cached__" 174 .none,hEQ P "PlusError" 206 (.ref 24),hEQ P "NoRow" 222 (.ref 37),hEQ P "NoNumber" 238 (.ref 49),hEQ P "NoSigns" 254 (.ref 61),hEQ P "TooMany" 270 (.ref 73),hEQ P "LONGEST_ROW" 274 (.int 16 273),hEQ P "is_whole" 281 (.ref 82),hEQ P "are_whole" 287 (.ref 87),hEQ P "is_row" 293 (.ref 92),hEQ P "need_row" 300 (.ref 99),hEQ P "need_number" 307 (.ref 106),hEQ P "need_row_and_number" 315 (.ref 113),hEQ P "are_parts" 321 (.ref 118),hEQ P "are_so_many_signs" 327 (.ref 123),hEQ P "are_signs" 335 (.ref 130),hEQ P "need_parts" 343 (.ref 137),hEQ P "worth" 349 (.ref 142),hEQ P "LONGEST_TABLED" 353 (.int 10 352),hEQ P "SIGNS" 357 (.ref 143),hEQ P "PARTS" 362 (.ref 144),hEQ P "need_few" 369 (.ref 151),hEQ P "need_few_and_number" 377 (.ref 158),hEQ P "stepped" 391 (.ref 165),hEQ P "table_of" 401 (.ref 172),hEQ P "sign_table" 408 (.ref 179),hEQ P "part_table" 415 (.ref 186),hEQ P "tables_from_behind" 425 (.ref 193),hEQ P "first_to" 431 (.ref 198),hEQ P "signs_to" 439 (.ref 205),hEQ P "parts_to" 447 (.ref 212),hEQ P "sign_ways" 455 (.ref 219),hEQ P "part_ways" 463 (.ref 226),hEQ P "is_rising" 469 (.ref 231),hEQ P "leads_on" 475 (.ref 236),hEQ P "are_layers" 481 (.ref 241),hEQ P "is_barred" 490 (.ref 248),hEQ P "is_wide_barred" 499 (.ref 255),hEQ P "least_layers" 510 (.ref 262),hEQ P "least_without" 520 (.ref 269),hEQ P "layers_for" 528 (.ref 276),hEQ P "wide_layers_for" 536 (.ref 283),hEQ P "is_rest" 542 (.ref 288),hEQ P "common_divisor" 553 (.ref 295),hEQ P "rest_for" 562 (.ref 302),hEQ P "_law_cell" 572 (.ref 309),hEQ P "_law_mix" 582 (.ref 316),hEQ P "_law_box" 593 (.ref 323),hEQ P "_law_take" 603 (.ref 330),hEQ P "_law_row" 618 (.ref 337),hEQ P "_law_all" 624 (.ref 342),hEQ P "_law_number" 635 (.ref 349),hEQ P "_law_sums_right" 641 (.ref 354),hEQ P "_law_one_right" 654 (.ref 361),hEQ P "law" 665 (.ref 368)] 63})::
 (nat_lit 81,hq11 275 14 1 76 279 "is_whole")::
 (nat_lit 82,hFQ "is_whole" 8 "plusless.rows" 271 81)::
 (nat_lit 86,hq12 282 16 2 83 "are_whole")::
 (nat_lit 87,hFQ "are_whole" 9 "plusless.rows" 271 86)::
 (nat_lit 91,hq12 288 18 1 88 "is_row")::
 (nat_lit 92,hFQ "is_row" 10 "plusless.rows" 271 91)::
 (nat_lit 98,hq11 294 22 1 93 298 "need_row")::
 (nat_lit 99,hFQ "need_row" 11 "plusless.rows" 271 98)::
 (nat_lit 105,hq11 301 25 1 100 305 "need_number")::
 (nat_lit 106,hFQ "need_number" 12 "plusless.rows" 271 105)::
 (nat_lit 112,hq11 308 28 2 107 313 "need_row_and_number")::
 (nat_lit 113,hFQ "need_row_and_number" 13 "plusless.rows" 271 112)::
 (nat_lit 117,hq12 316 31 2 114 "are_parts")::
 (nat_lit 118,hFQ "are_parts" 14 "plusless.rows" 271 117)::
 (nat_lit 122,hq12 322 34 2 119 "are_so_many_signs")::
 (nat_lit 123,hFQ "are_so_many_signs" 15 "plusless.rows" 271 122)::
 (nat_lit 129,hq11 328 36 2 124 333 "are_signs")::
 (nat_lit 130,hFQ "are_signs" 16 "plusless.rows" 271 129)::
 (nat_lit 136,hq11 336 39 2 131 341 "need_parts")::
 (nat_lit 137,hFQ "need_parts" 17 "plusless.rows" 271 136)::
 (nat_lit 141,hq12 344 42 2 138 "worth")::
 (nat_lit 142,hFQ "worth" 18 "plusless.rows" 271 141)::
 (nat_lit 143,{cls:=.type "tuple",data:=.seq #[.int (-1) 355,.int 1 356]})::
 (nat_lit 144,{cls:=.type "tuple",data:=.seq #[.int (-1) 359,.int 0 360,.int 1 361]})::
 (nat_lit 150,hq11 363 49 1 145 367 "need_few")::
 (nat_lit 151,hFQ "need_few" 23 "plusless.tables" 350 150)::
 (nat_lit 157,hq11 370 53 2 152 375 "need_few_and_number")::
 (nat_lit 158,hFQ "need_few_and_number" 24 "plusless.tables" 350 157)::
 (nat_lit 164,hq11 378 56 3 159 389 "stepped")::
 (nat_lit 165,hFQ "stepped" 25 "plusless.tables" 350 164)::
 (nat_lit 171,hq11 392 63 2 166 399 "table_of")::
 (nat_lit 172,hFQ "table_of" 26 "plusless.tables" 350 171)::
 (nat_lit 178,hq11 402 68 1 173 406 "sign_table")::
 (nat_lit 179,hFQ "sign_table" 27 "plusless.tables" 350 178)::
 (nat_lit 185,hq11 409 71 1 180 413 "part_table")::
 (nat_lit 186,hFQ "part_table" 28 "plusless.tables" 350 185)::
 (nat_lit 192,hq11 416 74 2 187 423 "tables_from_behind")::
 (nat_lit 193,hFQ "tables_from_behind" 29 "plusless.tables" 350 192)::
 (nat_lit 197,hq12 426 79 3 194 "first_to")::
 (nat_lit 198,hFQ "first_to" 30 "plusless.tables" 350 197)::
 (nat_lit 204,hq11 432 91 2 199 437 "signs_to")::
 (nat_lit 205,hFQ "signs_to" 31 "plusless.tables" 350 204)::
 (nat_lit 211,hq11 440 94 2 206 445 "parts_to")::
 (nat_lit 212,hFQ "parts_to" 32 "plusless.tables" 350 211)::
 (nat_lit 218,hq11 448 97 2 213 453 "sign_ways")::
 (nat_lit 219,hFQ "sign_ways" 33 "plusless.tables" 350 218)::
 (nat_lit 225,hq11 456 100 2 220 461 "part_ways")::
 (nat_lit 226,hFQ "part_ways" 34 "plusless.tables" 350 225)::
 (nat_lit 230,hq12 464 103 1 227 "is_rising")::
 (nat_lit 231,hFQ "is_rising" 35 "plusless.tables" 350 230)::
 (nat_lit 235,hq12 470 107 4 232 "leads_on")::
 (nat_lit 236,hFQ "leads_on" 36 "plusless.tables" 350 235)::
 (nat_lit 240,hq12 476 114 3 237 "are_layers")::
 (nat_lit 241,hFQ "are_layers" 37 "plusless.tables" 350 240)::
 (nat_lit 247,hq11 482 120 3 242 488 "is_barred")::
 (nat_lit 248,hFQ "is_barred" 38 "plusless.tables" 350 247)::
 (nat_lit 254,hq11 491 123 3 249 497 "is_wide_barred")::
 (nat_lit 255,hFQ "is_wide_barred" 39 "plusless.tables" 350 254)::
 (nat_lit 261,hq11 500 126 2 256 508 "least_layers")::
 (nat_lit 262,hFQ "least_layers" 40 "plusless.tables" 350 261)::
 (nat_lit 268,hq11 511 133 3 263 518 "least_without")::
 (nat_lit 269,hFQ "least_without" 41 "plusless.tables" 350 268)::
 (nat_lit 275,hq11 521 136 2 270 526 "layers_for")::
 (nat_lit 276,hFQ "layers_for" 42 "plusless.tables" 350 275)::
 (nat_lit 282,hq11 529 139 2 277 534 "wide_layers_for")::
 (nat_lit 283,hFQ "wide_layers_for" 43 "plusless.tables" 350 282)::
 (nat_lit 287,hq12 537 142 3 284 "is_rest")::
 (nat_lit 288,hFQ "is_rest" 44 "plusless.tables" 350 287)::
 (nat_lit 294,hq11 543 148 1 289 551 "common_divisor")::
 (nat_lit 295,hFQ "common_divisor" 45 "plusless.tables" 350 294)::
 (nat_lit 301,hq11 554 157 2 296 560 "rest_for")::
 (nat_lit 302,hFQ "rest_for" 46 "plusless.tables" 350 301)::
 (nat_lit 308,hq11 565 164 2 303 570 "_law_cell")::
 (nat_lit 309,hFQ "_law_cell" 48 "law_plusless_k13_whole_tables_and_papers" 563 308)::
 (nat_lit 315,hq11 573 168 2 310 580 "_law_mix")::
 (nat_lit 316,hFQ "_law_mix" 49 "law_plusless_k13_whole_tables_and_papers" 563 315)::
 (nat_lit 322,hq11 583 173 2 317 591 "_law_box")::
 (nat_lit 323,hFQ "_law_box" 50 "law_plusless_k13_whole_tables_and_papers" 563 322)::
 (nat_lit 329,hq11 594 181 2 324 601 "_law_take")::
 (nat_lit 330,hFQ "_law_take" 51 "law_plusless_k13_whole_tables_and_papers" 563 329)::
 (nat_lit 336,hq11 604 185 2 331 616 "_law_row")::
 (nat_lit 337,hFQ "_law_row" 52 "law_plusless_k13_whole_tables_and_papers" 563 336)::
 (nat_lit 341,hq12 619 195 2 338 "_law_all")::
 (nat_lit 342,hFQ "_law_all" 53 "law_plusless_k13_whole_tables_and_papers" 563 341)::
 (nat_lit 348,hq11 625 203 2 343 633 "_law_number")::
 (nat_lit 349,hFQ "_law_number" 54 "law_plusless_k13_whole_tables_and_papers" 563 348)::
 (nat_lit 353,hq12 636 208 1 350 "_law_sums_right")::
 (nat_lit 354,hFQ "_law_sums_right" 55 "law_plusless_k13_whole_tables_and_papers" 563 353)::
 (nat_lit 360,hq11 642 217 2 355 652 "_law_one_right")::
 (nat_lit 361,hFQ "_law_one_right" 56 "law_plusless_k13_whole_tables_and_papers" 563 360)::
 (nat_lit 367,hq11 655 239 1 362 663 "law")::
 (nat_lit 368,hFQ "law" 57 "law_plusless_k13_whole_tables_and_papers" 563 367)::[]
def hA:List Addr:=[2,3,81,82,86,87,91,92,98,99,105,106,112,113,117,118,122,123,129,130,136,137,141,142,143,144,150,151,157,158,164,165,171,172,178,179,185,186,192,193,197,198,204,205,211,212,218,219,225,226,230,231,235,236,240,241,247,248,254,255,261,262,268,269,275,276,282,283,287,288,294,295,301,302,308,309,315,316,322,323,329,330,336,337,341,342,348,349,353,354,360,361,367,368]
def hV:Program:={PySem.Challenge.pw_plusless_k13_whole_tables_and_papers with main:={PySem.Challenge.pw_plusless_k13_whole_tables_and_papers.main with body:=[top 1,top 2,top 3,top 4,top 5,top 7,top 8,top 9,top 10,top 11,top 12,top 13,top 14,top 15,top 16,top 17,top 18,top 20,top 21,top 22,top 23,top 24,top 25,top 26,top 27,top 28,top 29,top 30,top 31,top 32,top 33,top 34,top 35,top 36,top 37,top 38,top 39,top 40,top 41,top 42,top 43,top 44,top 45,top 46,top 48,top 49,top 50,top 51,top 52,top 53,top 54,top 55,top 56,top 57]}}
theorem hKA (P:Params):hA=(hK P).map (·.1):=by kernel_rfl
abbrev hX (s:Shared):Bool:=PySem.W.xlAt hV [] s && PySem.W.recOk (PySem.W.RowW.records PySem.Challenge.rw_plusless_k13_whole_tables_and_papers.row.toRowW) s
def hNQ:=@PySem.W.BT.node
def hzQ:=PySem.W.BT.nil
def hLQ (o:Obj):=PySem.W.BT.node o .nil .nil
def q2Q (P:Params):Obj:=hq2 182 1 11 "<module>"
def q3Q (P:Params):Obj:=hq3Q 13 3 164 "__main__"
def t0T (P:Params):PySem.W.BT:=(hNQ (PySem.W.boot_o_0 P) (hNQ (PySem.W.boot_o_1 P) (hNQ (PySem.W.boot_o_3 P) (hLQ (PySem.W.boot_o_7 P)) (hLQ hq0Q)) (hNQ (PySem.W.boot_o_5 P) (hLQ (PySem.W.boot_o_9 P)) (hLQ (q2Q P)))) (hNQ (PySem.W.boot_o_2 P) (hNQ (PySem.W.boot_o_4 P) (hLQ (PySem.W.boot_o_8 P)) (hLQ hq1)) (hNQ (PySem.W.boot_o_6 P) (hLQ (PySem.W.boot_o_10 P)) (hLQ (q3Q P)))))
def t1T (P:Params):PySem.W.BT:=(hNQ (PySem.W.boot_o_0 P) (hNQ (PySem.W.boot_o_1 P) (hNQ {cls:=.type "dict",data:=.dict #[hEQ P "__name__" 165 (.str "plusless.errors" 187),hEQ P "__doc__" 166 .none,hEQ P "__package__" 167 .none,hEQ P "__loader__" 168 (.builtin "__main__.__loader__#opaque"),hEQ P "__spec__" 169 .none,hEQ P "__annotations__" 170 (.ref 6),hEQ P "__builtins__" 171 (.ref 4),hEQ P "__file__" 173 (.str "/claim/cut.py" 172),hEQ P "__cached__" 174 .none,hEQ P "PlusError" 206 (.ref 24),hEQ P "NoRow" 222 (.ref 37),hEQ P "NoNumber" 238 (.ref 49),hEQ P "NoSigns" 254 (.ref 61)] 13} (hNQ (PySem.W.boot_o_7 P) (hNQ {cls:=.type "tuple",data:=.seq #[.type "ValueError"]} (hNQ hq0Q (hLQ (hq7 61)) hzQ) (hLQ hq0Q)) (hNQ {cls:=.type "dict",data:=.dict #[hEQ P "__module__" 196 (.str "plusless.errors" 187),hEQ P "__firstlineno__" 200 (.int 2 199),hEQ P "__static_attributes__" 201 (.ref 22),hEQ P "__weakref__" 203 (.ref 25),hEQ P "__doc__" 204 .none] 3} (hLQ (hq7 37)) (hLQ hq0Q))) (hNQ hq0Q (hNQ hq1 (hLQ hq0Q) (hLQ (hq7 49))) (hNQ (hq7 24) (hLQ hq0Q) (hLQ hq0Q)))) (hNQ (PySem.W.boot_o_5 P) (hNQ (PySem.W.boot_o_9 P) (hNQ (hq5 P 196 2 22 "PlusError") (hLQ (hq2 209 4 31 "NoRow")) (hLQ (hq10 40 223 "NoNumber"))) (hNQ {cls:=.type "getset_descriptor",data:=.fields #[.str "__weakref__" 202,.ref 24,.builtin "ExceptionGroup.__weakref__",.none]} (hLQ hq4) (hLQ (hq2 241 8 55 "NoSigns")))) (hNQ (q2Q P) (hNQ (hq3Q 20 17 187 "plusless.errors") (hLQ (hq10 28 207 "NoRow")) (hLQ hq4)) (hNQ hq4 (hLQ (hq2 225 6 43 "NoNumber")) (hLQ (hq10 52 239 "NoSigns")))))) (hNQ (PySem.W.boot_o_2 P) (hNQ (PySem.W.boot_o_4 P) (hNQ (PySem.W.boot_o_8 P) (hNQ hq4 (hLQ hq1) (hLQ (hq9 P 230 6 47))) (hNQ {cls:=.type "type",data:=.cls {name:="PlusError",bases:=[.type "ValueError"],mro:=[.ref 24,.type "ValueError",.type "Exception",.type "BaseException",.type "object"],ns:=23,qualname:="PlusError",subclasses:=[.ref 37,.ref 49,.ref 61]},slots:=#[some (.ref 15),none,some (.str "PlusError" 189),some (.str "PlusError" 197),some (.builtin "ValueError.__new__"),some (.bool true)]} (hLQ hq8) (hLQ hq1))) (hNQ {cls:=.none,data:=.fields #[.int 2 0,.int 0 0,.ref 20,.int 4 0,.int 0 0,.ref 33,.int 6 0,.int 0 0,.ref 45,.int 8 0,.int 0 0,.ref 57]} (hNQ (hq2 191 2 18 "PlusError") (hLQ (hq9 P 214 4 35)) (hLQ hq8)) (hNQ hq8 (hLQ hq1) (hLQ (hq9 P 246 8 59))))) (hNQ (PySem.W.boot_o_6 P) (hNQ (PySem.W.boot_o_10 P) (hNQ hq0Q (hLQ (hq3Q 33 30 187 "plusless.errors")) (hLQ (hq6Q 49))) (hNQ (hq6Q 24) (hLQ (hq5 P 230 6 47 "NoNumber")) (hLQ (hq3Q 57 54 187 "plusless.errors")))) (hNQ (q3Q P) (hNQ hq0Q (hLQ (hq6Q 37)) (hLQ (hq5 P 246 8 59 "NoSigns"))) (hNQ (hq5 P 214 4 35 "NoRow") (hLQ (hq3Q 45 42 187 "plusless.errors")) (hLQ (hq6Q 61)))))))
abbrev hpQ:Program:=PySem.Challenge.rw_plusless_k13_whole_tables_and_papers.row.prog
def hEnv:Env:={scope:=hpQ.main.scope,locals:=mainNs,globals:=mainNs,cells:=[],code:=.ref 13,frame:=some 14}
def hBQ:List Stmt:=PySem.W.behindTheImports hpQ
def hCd:Code:=Code.body hBQ hEnv
def hp0Q:Pos:=⟨0,0,0,0⟩
def hsT (t:PySem.W.BT) (n k:Nat) (os:OsState):PySem.W.SharedT:={tree:=t,n:=n,life:={},gens:=#[],drawn:={},toks:=k,os:=os}
set_option maxHeartbeats 0 in
theorem htg (w:World) (os:OsState):PySem.W.topGo treeTable hpQ w 11 (some (.ref 6)) 12 {heap:=PySem.W.boot_heap w.params,gens:=#[],drawn:=PySem.W.boot_drawn,toks:=PySem.W.boot_toks,os:=os} (PySem.W.topStub hpQ)=some ((hsT (t0T w.params) 15 187 os).abs,{cur:=denote treeTable (Code.body hBQ hEnv),code:=hCd,pos:=hp0Q,stack:=[PySem.W.topFrame hp0Q]}):=by kernel_rfl
set_option maxHeartbeats 0 in
theorem htb (w:World) (os:OsState):PySem.W.segRun treeTable hpQ w 11 (some (.ref 6)) 1 1 (hsT (t0T w.params) 15 187 os).abs (PySem.W.blockOf hBQ hEnv hCd hp0Q [PySem.W.topFrame hp0Q])=some (Flow.next,(hsT (t0T w.params) 15 187 os).abs,hCd,hp0Q):=by kernel_rfl
abbrev hsQ (s:Shared):=PySem.W.openSeen hV [] (importedModules hpQ.main.body) hX true s
abbrev hgQ:=PySem.W.openGood hV []
def hlaQ (w:World) (s:Shared):=(PySem.W.staticsOk (importedModules hpQ.main.body) (PySem.W.boot_heap w.params) s.heap && PySem.W.namesBound hpQ s.heap && PySem.W.gensDone s && PySem.W.laidKept (PySem.W.boot_heap w.params) s.heap,PySem.W.Hook.obs (PySem.W.kHook hK hA hKA) s,(hsQ s).1)
def hlb (w:World) (s:Shared):=((hsQ s).2.1,(hsQ s).2.2.1)
def hlcQ (w:World) (s:Shared):=(hsQ s).2.2.2
set_option maxHeartbeats 0 in
theorem pc0 (w:World) (os:OsState):PySem.W.segRunT treeTable hpQ w 11 (some (.ref 6)) 1 2500 (hsT (t0T w.params) 15 187 os) (PySem.W.piecesOf ((hBQ.drop 0).take 5) hEnv hCd hp0Q [PySem.W.topFrame hp0Q])=some (Flow.next,hsT (t1T w.params) 64 255 os,hCd,⟨8,0,9,8⟩):=by kernel_rfl
def hrQ (w:World) (os:OsState):=PySem.W.segRunT treeTable hpQ w 11 (some (.ref 6)) 1 3100 (hsT (t1T w.params) 64 255 os) (PySem.W.piecesOf ((hBQ.drop 5).take 53) hEnv hCd ⟨8,0,9,8⟩ [PySem.W.topFrame hp0Q])
def hSa (w:World):Prop:=∀ os,Option.map (fun x=>(x.1,x.2.2.1,x.2.2.2,hlaQ w x.2.1.abs)) (hrQ w os)=some (Flow.next,hCd,⟨239,0,248,15⟩,(true,PySem.W.Hook.val (PySem.W.kHook hK hA hKA) w,hgQ.1))
set_option maxHeartbeats 0 in
theorem pc1a (w:World):hSa w:=fun os=>by kernel_rfl
def hSb (w:World):Prop:=∀ os,Option.map (fun x=>(x.1,x.2.2.1,x.2.2.2,hlb w x.2.1.abs)) (hrQ w os)=some (Flow.next,hCd,⟨239,0,248,15⟩,(hgQ.2.1,hgQ.2.2.1))
set_option maxHeartbeats 0 in
theorem pc1b (w:World):hSb w:=fun os=>by kernel_rfl
def hSc (w:World):Prop:=∀ os,Option.map (fun x=>(x.1,x.2.2.1,x.2.2.2,hlcQ w x.2.1.abs)) (hrQ w os)=some (Flow.next,hCd,⟨239,0,248,15⟩,hgQ.2.2.2)
set_option maxHeartbeats 0 in
theorem pc1c (w:World):hSc w:=fun os=>by kernel_rfl
theorem htz (w:World) (s:Shared):PySem.W.topRun treeTable hpQ w 11 (some (.ref 6)) 2 s (PySem.W.restOf [] hEnv hCd ⟨239,0,248,15⟩ [PySem.W.topFrame hp0Q])=some s:=by kernel_rfl
set_option maxHeartbeats 0 in
theorem hspQ:hBQ=((hBQ.drop 0).take 5++((hBQ.drop 5).take 53++[])):=by kernel_rfl
theorem left:PySem.W.LeftO hpQ hV [] hX (PySem.W.Hook.obs (PySem.W.kHook hK hA hKA)) (PySem.W.Hook.val (PySem.W.kHook hK hA hKA)) 7600:=fun w=>by
  have o:=PySem.W.boot_open (p:=hpQ) (N:=7600) (by kernel_rfl) (by decide) (fun s=>by kernel_rfl) w
  rcases fo:PySem.W.fencedOpening treeTable hpQ w 7600 with _|⟨b0,b1,b2,b3,os⟩ <;> rw [fo] at o
  · cases o
  obtain ⟨o1,o⟩:=Prod.mk.inj (Option.some.inj o)
  obtain ⟨o2,o⟩:=Prod.mk.inj o
  obtain ⟨o3,o4⟩:=Prod.mk.inj o
  subst o1 o2 o3 o4
  rcases ru:hrQ w os with _|⟨fl,s,cd,po⟩
  · have u:=pc1a w os
    rw [ru] at u
    cases u
  have u:=pc1a w os
  rw [ru] at u
  obtain ⟨g1,u⟩:=Prod.mk.inj (Option.some.inj u)
  obtain ⟨g2,u⟩:=Prod.mk.inj u
  obtain ⟨g3,u⟩:=Prod.mk.inj u
  obtain ⟨l1,u⟩:=Prod.mk.inj u
  obtain ⟨l3,j1⟩:=Prod.mk.inj u
  have u:=pc1b w os
  rw [ru] at u
  obtain ⟨g1,u⟩:=Prod.mk.inj (Option.some.inj u)
  obtain ⟨g2,u⟩:=Prod.mk.inj u
  obtain ⟨g3,u⟩:=Prod.mk.inj u
  obtain ⟨j2,j3⟩:=Prod.mk.inj u
  have j4:=pc1c w os
  rw [ru] at j4
  obtain ⟨g1,j4⟩:=Prod.mk.inj (Option.some.inj j4)
  obtain ⟨g2,j4⟩:=Prod.mk.inj j4
  obtain ⟨g3,j4⟩:=Prod.mk.inj j4
  have l2:hsQ s.abs=hgQ:=Prod.ext j1 (Prod.ext j2 (Prod.ext j3 j4))
  subst g1 g2 g3
  have go:∀ b,b=((hBQ.drop 0).take 5++((hBQ.drop 5).take 53++[])) → PySem.W.topRun treeTable hpQ w 11 (some (.ref 6)) (2500+(3100+2)) (hsT (t0T w.params) 15 187 os).abs (PySem.W.restOf b hEnv hCd hp0Q [PySem.W.topFrame hp0Q])=some s.abs:=fun b z=>by
    subst z
    exact (PySem.W.piece_app (PySem.W.segRun_of (pc0 w os)) (PySem.W.piece_app (PySem.W.segRun_of ru) (htz w s.abs)))
  have r:PySem.W.topRun treeTable hpQ w 11 (some (.ref 6)) 7600 {heap:=PySem.W.boot_heap w.params,gens:=#[],drawn:=PySem.W.boot_drawn,toks:=PySem.W.boot_toks,os:=os} (PySem.W.topStub hpQ)=some s.abs:=PySem.W.topRun_mono 1985 _ _ _ _ (PySem.W.go_top (n:=12) (N:=1+(2500+(3100+2))) (htg w os) (PySem.W.piece_block (n:=1) (N:=(2500+(3100+2))) (htb w os) (go hBQ hspQ)))
  have z1:((PySem.W.boot_heap w.params).isNs mainGlobals && (#[]:Array GenState).size==0)=true:=by kernel_rfl
  have z2:(PySem.W.boot_heap w.params).objs.size=11:=by kernel_rfl
  have z3:(PySem.W.boot_heap w.params).nsMap mainGlobals "__annotations__"=some (.ref 6):=by kernel_rfl
  have tf:PySem.W.topFrom treeTable hpQ w 7600 {heap:=PySem.W.boot_heap w.params,gens:=#[],drawn:=PySem.W.boot_drawn,toks:=PySem.W.boot_toks,os:=os}=some s.abs:=by simp only [PySem.W.topFrom,z1,z2,z3,r,Option.bind_some,l1]
  unfold PySem.W.openEnds
  rw [fo,Option.bind_some,tf]
  have l4:PySem.W.openSeen hV [] (importedModules hpQ.main.body) hX true s.abs=PySem.W.openGood hV []:=l2
  show some (_,_)=some _
  rw [l4,show PySem.W.Hook.obs (PySem.W.kHook hK hA hKA) s.abs=_ from l3]
end Lw
section
set_option Elab.async false
set_option linter.all false
set_option maxRecDepth 100000
namespace PySem
def ZO (o:Obj):Prop:=∃ fs:Array Value,o.data=.fields fs∧fs[2]?=some .none
def Heap.Zat (h:Heap) (e:Addr):Prop:=∃ o,h.get? e=some o∧ZO o
section
variable {M:Model} {A:Around} {E:Value→Shared→Prop} {s:Shared} {bs:Heap} {en:Env} {out:List Env} {L e:Addr} {cl a0:Value}
end
end PySem
namespace PySem
open PyProof.Rows
theorem mO:entryFor table "proto.unchain" = some Builtin.«proto.unchain»:=entryFor_of_tree (by kernel_rfl)
theorem mP:plainId "proto.unchain" = true:=by decide +kernel
section
variable {prog:Program} {w:World} {A:Around} {E:Value→Shared→Prop} {s:Shared}
theorem vt {ea ha:Addr} {Q:Value→Shared→Prop} (z:s.heap.Zat ha) (h:Q .none s):wpAny (model prog w) A (runValue (.builtin "proto.unchain" ⟨[.ref ea,.ref ha,.ref ha,.bool false],[]⟩)) Q E s:=by
 obtain ⟨o,ho,fs,hd,h2⟩:=z
 refine wpAny_runValue (codeAny_builtin mO ?_)
 rw [Around.under_plainId mP _]
 unfold Builtin.«proto.unchain»
 refine wpAny_bind (wpAny_field ho hd h2 ?_)
 rw [if_pos (by rfl)]
 refine wpAny_bind (wpAny_pure ?_)
 exact wpAny_pure h
theorem ue {α:Type} {ea ha:Addr} {o:Obj} {fs:Array Value} {Q:α→Shared→Prop} (hh:A.handled=some (.ref ha)) (z:s.heap.Zat ha) (ne:ha ≠ ea) (he:s.heap.get? ea=some o) (hd:o.data=.fields fs) (hs:2 < fs.size)
  (h:E (.ref ea) { s with heap:=s.heap.update ea (Obj.mapFields (fun y=>y.setIfInBounds 2 (.ref ha))) }):wpAny (model prog w) A (raiseNew (.ref ea):Sem α) Q E s:=by
 unfold raiseNew
 refine wpAny_bind (wpAny_handled ?_)
 rw [hh]
 dsimp only
 rw [if_pos (by simpa using ne)]
 refine wpAny_bind (wpAny_holding (vt z ?_))
 refine wpAny_bind ?_
 show wpAny _ _ (setField (.ref ea) 2 (.ref ha)) _ _ s
 exact wpAny_setField he hd hs (wpAny_throw h)
theorem uf {it ha:Addr} {x left step:Int} {Q:Option Value→Shared→Prop} (hh:A.handled=some (.ref ha)) (z:s.heap.Zat ha) (hit:IsRangeIter s.heap it x left step) (hl:left≤0)
  (k:∀ h',Heap.ExtBut it s.heap h'→Q none { s with heap:=h' }):wpAny (model prog w) A (pyNext (.ref it)) Q E s:=by
 have ty:s.TypeIs (.ref it) "range_iterator":=⟨_,hit,rfl⟩
 have lta:ha < s.heap.objs.size:=let ⟨o,q,_⟩:=z; Heap.lt_size q
 unfold pyNext
 refine wpAny_bind (wpAny_attempt (wpAny_callSpecial?_slot (name:=Str.ofString "__next__") ty F.slot_range_iterator_next (wpAny_call_entry F.slot_range_iterator_next ty F.entry_range_iterator_next ?_ (F.args_range_iterator_next_1 _))))
 show wpAny _ _ (field (.ref it) 0 >>= _) _ _ s
 refine wpAny_bind (wpAny_field hit rfl (x:=rawInt x) rfl ?_)
 show wpAny _ _ (field (.ref it) 1 >>= _) _ _ s
 refine wpAny_bind (wpAny_field hit rfl (x:=rawInt left) rfl ?_)
 show wpAny _ _ (field (.ref it) 2 >>= _) _ _ s
 refine wpAny_bind (wpAny_field hit rfl (x:=rawInt step) rfl ?_)
 show wpAny _ _ (if left≤0 then _ else _) _ _ s
 rw [if_pos hl]
 refine wpAny_bind (wpAny_rule ?_)
 refine wpAny_bind ?_
 show wpAny _ _ (newExc (.type "StopIteration") [] >>= _) _ _ _
 refine wpAny_bind ?_
 simp only [newExc,newTuple]
 refine wpAny_bind (wpAny_newObj_type ?_ (by size_fits))
 refine wpAny_bind (m:=firstArgMember _ _) (wpAny_of_eq (a:=Value.none) (by first | rfl | (simp only [firstArgMember]; rfl)) ?_)
 refine wpAny_newObj_type ?_ (by size_fits)
 refine ue (ha:=ha) (by first | exact hh | (show A.in1.handled=_; exact hh)) ?_ ?_ (Heap.get?_push_size _ rfl) rfl ?_ ?_
 ·obtain ⟨o,q,r⟩:=z
  exact ⟨o,Heap.get?_push_of_some _ (Heap.get?_push_of_some _ q),r⟩
 ·exact Nat.ne_of_lt (Nat.lt_of_lt_of_le lta (by rw [Heap.size_push]; exact Nat.le_succ _))
 ·rw [Array.size_append]; exact Nat.lt_of_lt_of_le (show 2 < 6 by decide) (Nat.le_add_right _ _)
 ·dsimp only
  generalize hfn:Obj.mapFields (fun y=>y.setIfInBounds 2 (Value.ref ha))=fn
  generalize hg:s.heap.push { cls:=Value.type "tuple",data:=Data.seq #[] }=g
  generalize hex:({ cls:=Value.type "StopIteration",data:=Data.fields (#[Value.ref s.heap.objs.size,Value.none,Value.none,Value.none,Value.bool false,Value.none] ++ ownMembersOf (Value.type "StopIteration") []) }:Obj)=ex
  have c0:ex.cls=.type "StopIteration":=by rw [← hex]
  have d0:∃ fs,ex.data=.fields fs:=⟨_,by rw [← hex]⟩
  obtain ⟨fs,d0⟩:=d0
  have p0:(g.push ex).get? g.objs.size=some ex:=Heap.get?_push_size g (Obj.isFreed_of_fields d0)
  have d1:(fn ex).data=.fields (fs.setIfInBounds 2 (.ref ha)):=by rw [← hfn]; exact Obj.data_mapFields d0 _
  have c1:(fn ex).cls=.type "StopIteration":=by rw [← hfn]; exact (Obj.cls_mapFields _ _).trans c0
  have e1:((g.push ex).update g.objs.size fn).get? g.objs.size=some (fn ex):=Heap.get?_update_self fn p0 (Obj.isFreed_of_fields d1)
  refine wpAny_bind (wpAny_isInstance (T:="StopIteration") (b:=true) ⟨fn ex,e1,c1⟩ isSubtype_stop ?_)
  refine wpAny_pure (k _ fun b o _ q=>?_)
  have q1:g.get? b=some o:=by rw [← hg]; exact Heap.get?_push_of_some _ q
  rw [Heap.get?_update_other (g.push ex) fn (Nat.ne_of_gt (Heap.lt_size q1))]
  exact Heap.get?_push_of_some ex q1
end
end PySem
namespace L2
open PySem PySem.Spec PyProof.Rows
abbrev Key:=Sum Int Str
def lC:Key→Value→Bool
 | .inl k,v=>Value.isInt k v
 | .inr x,v=>Value.isStrOf x v
def C0 (w:World):Key→Int
 | .inl k=>hashInt k
 | .inr x=>hashStr w x
theorem bU:∀ {k:Key} {v:Value},lC k v=true→(∃ i t,k=Sum.inl i∧v=Value.int i t) ∨ (∃ x t,k=Sum.inr x∧v=Value.str x t)
 | .inl i,v,h=>by
  obtain ⟨t,e⟩:=Value.isInt_shape (k:=i) (v:=v) h
  exact .inl ⟨i,t,rfl,e⟩
 | .inr x,v,h=>by
  obtain ⟨t,e⟩:=Value.isStrOf_shape (x:=x) (v:=v) h
  exact .inr ⟨x,t,rfl,e⟩
theorem ug (i:Int) (t:Tok):lC (.inl i) (.int i t)=true:=by simp [lC,Value.isInt]
theorem uh (x:Str) (t:Tok):lC (.inr x) (.str x t)=true:=by simp [lC,Value.isStrOf]
theorem zK (a b:Int):decide ((Sum.inl a:Key)=Sum.inl b)=(a == b):=by
 by_cases e:a=b
 ·subst e; simp
 ·have h:¬ (Sum.inl a:Key)=Sum.inl b:=fun q=>e (Sum.inl.inj q)
  rw [decide_eq_false h]
  exact (beq_eq_false_iff_ne.mpr e).symm
theorem zL (a b:Str):decide ((Sum.inr a:Key)=Sum.inr b)=decide (a=b):=by
 by_cases e:a=b
 ·subst e; simp
 ·have h:¬ (Sum.inr a:Key)=Sum.inr b:=fun q=>e (Sum.inr.inj q)
  rw [decide_eq_false h,decide_eq_false e]
theorem zM (a:Int) (b:Str):decide ((Sum.inl a:Key)=Sum.inr b)=false:=decide_eq_false (fun q=>nomatch q)
theorem zN (a:Str) (b:Int):decide ((Sum.inr a:Key)=Sum.inl b)=false:=decide_eq_false (fun q=>nomatch q)
def aP (prog:Program) (w:World):PySem.KeyKind prog w Key where
 is:=lC
 hash:=C0 w
 inj:=fun v a b ha hb=>by
  rcases bU ha with ⟨i,t,rfl,rfl⟩ | ⟨x,t,rfl,rfl⟩
  ·rcases bU hb with ⟨j,u,rfl,e⟩ | ⟨y,u,rfl,e⟩
   ·injection e with e1 _; rw [e1]
   ·exact nomatch e
  ·rcases bU hb with ⟨j,u,rfl,e⟩ | ⟨y,u,rfl,e⟩
   ·exact nomatch e
   ·injection e with e1 _; rw [e1]
 byValue:=fun k v h=>by
  rcases bU h with ⟨i,t,rfl,rfl⟩ | ⟨x,t,rfl,rfl⟩ <;> rfl
 pyHash:=fun hv h=>by
  rcases bU hv with ⟨i,t,rfl,rfl⟩ | ⟨x,t,rfl,rfl⟩
  ·exact wpAny_pyHash_int h
  ·exact wpAny_pyHash_str h
 eqBool:=fun hu hv h=>by
  rcases bU hu with ⟨i,t,rfl,rfl⟩ | ⟨x,t,rfl,rfl⟩
  ·rcases bU hv with ⟨j,u,rfl,rfl⟩ | ⟨y,u,rfl,rfl⟩
   ·rw [zK] at h; exact wpAny_eqBool_int h
   ·rw [zM] at h; exact SeqAt.EqAt.int_str i t y u _ _ _ _ h
  ·rcases bU hv with ⟨j,u,rfl,rfl⟩ | ⟨y,u,rfl,rfl⟩
   ·rw [zN] at h; exact SeqAt.EqAt.str_int x t j u _ _ _ _ h
   ·rw [zL] at h; exact wpAny_eqBool_str h
 «strs»:=fun k x t v h=>by
  rcases bU h with ⟨i,u,rfl,e⟩ | ⟨y,u,rfl,e⟩
  ·exact nomatch e
  ·injection e with e1 _
   subst e1
   cases v <;> rfl
theorem rG (prog:Program) (w:World) (k:Key) (v:Value):(aP prog w).is k v=lC k v:=rfl
theorem pL (prog:Program) (w:World) (i:Int) (t:Tok):(aP prog w).is (.inl i) (.int i t)=true:=ug i t
theorem pN (prog:Program) (w:World) (x:Str) (t:Tok):(aP prog w).is (.inr x) (.str x t)=true:=uh x t
end L2
namespace L2
open PySem PySem.Spec PyProof.Rows
inductive V where
 | non | bl (b:Bool) | int (i:Int) | str (x:Str) | byt (b:Array UInt8) | flt (b:UInt64) | ref (a:Addr) | ty (n:String)
 deriving DecidableEq
def RelV:V→Value→Prop
 | .non,u=>u=Value.none
 | .bl b,u=>u=Value.bool b
 | .int i,u=>∃ t,u=Value.int i t
 | .str x,u=>∃ t,u=Value.str x t
 | .byt b,u=>∃ t,u=Value.bytes b t
 | .flt b,u=>∃ t,u=Value.float b t
 | .ref a,u=>u=Value.ref a
 | .ty n,u=>u=Value.type n
abbrev Vals:List V→List Value→Prop:=Paired RelV
theorem Vals.length {xs:List V} {us:List Value} (r:Vals xs us):xs.length=us.length:=Paired.length r
theorem Vals.get:∀ {xs:List V} {us:List Value} {i:Nat} {x:V},Vals xs us→xs[i]?=some x→∃ u,us[i]?=some u∧RelV x u
 | _,_,_,_,.nil,e=>by simp at e
 | _,_,0,_,.cons r _,e=>by simp at e; subst e; exact ⟨_,rfl,r⟩
 | _,_,i + 1,x,.cons _ t,e=>by
  obtain ⟨u,h1,h2⟩:=Vals.get (i:=i) (x:=x) t (by simpa using e)
  exact ⟨u,by simpa using h1,h2⟩
theorem Vals.set {x:V} {u:Value} (r:RelV x u):∀ {xs:List V} {us:List Value} (i:Nat),Vals xs us→Vals (xs.set i x) (us.set i u)
 | _,_,_,.nil=>.nil
 | _,_,0,.cons _ t=>.cons r t
 | _,_,i + 1,.cons q t=>.cons q (Vals.set r i t)
theorem Vals.append:∀ {xs ys:List V} {us ws:List Value},Vals xs us→Vals ys ws→Vals (xs ++ ys) (us ++ ws)
 | _,_,_,_,.nil,s=>s
 | _,_,_,_,.cons r t,s=>.cons r (Vals.append t s)
def kf:Option V→Option Value→Prop
 | some v,some u=>RelV v u
 | none,none=>True
 | _,_=>False
def KV {κ:Type}:List (κ × V)→List (κ × Value)→Prop:=Paired fun (p:κ × V) (q:κ × Value)=>p.1=q.1∧RelV p.2 q.2
def kV:Key→V
 | .inl i=>.int i
 | .inr x=>.str x
set_option genInjectivity false in
inductive HO where
 /-- a list -/
 | lst (xs:List V)
 /-- a tuple (never changes) -/
 | tup (xs:List V)
 /-- a dict whose keys are ints and texts; one whose keys are tuples of ints and texts (the empty one is both) -/
 | dK (kvs:List (Key × V)) | dT (kvs:List (List Key × V))
 /-- a set of ints: its members,its size -/
 | set (S:Int→Bool) (n:Nat)
 /-- an instance of the class at C,its dict at dx,its attributes -/
 | ins (C dx:Addr) (fs:List (Str × V))
 /-- the dict of the instance at x -/
 | own (x:Addr)
 /-- the dict of an exception -/
 | xd (fs:List (Str × V))
 /-- a bound method,f of x -/
 | met (f x:Addr)
 /-- a range object lo,lo + 1,.. below hi -/
 | rng (lo hi:Int)
 /-- a thing that is known to the object (the script; a dict while a loop walks it): read,never written while it is so -/
 | frz (o:Obj) (u:HO)
 /-- a code object's table -/
 | tbl (ps:Array Value)
 /-- any other thing,by what is true of its one object (a def of one's own: SetO a S n:=HO.ext fun h=>..) -/
 | ext (φ:Heap→Prop)
abbrev Hp:=Addr→Option HO
def upd (H:Hp) (a:Addr) (o:HO):Hp:=fun b=>if b=a then some o else H b
theorem aH {H:Hp} {a:Addr} {o:HO}:upd H a o a=some o:=by unfold upd; rw [if_pos rfl]
theorem aB {H:Hp} {a b:Addr} {o:HO} (h:b ≠ a):upd H a o b=H b:=by unfold upd; rw [if_neg h]
theorem BR {H:Hp} {a b:Addr} {o u:HO} (h:H a=some o) (h':H b=some u) (d:o ≠ u):a ≠ b:=by
 intro e; subst e; rw [h] at h'; exact d (Option.some.inj h')
theorem aL {H:Hp} {a b:Addr} {o:HO} (h:H a=some o) (h':H b=none):a ≠ b:=by
 intro e; subst e; rw [h] at h'; cases h'
section
variable (P:Program) (w:World)
def bG (H:Hp) (h:Heap) (a:Addr):HO→Prop
 | .lst xs=>xs.length≤sizeLine∧∃ (its:List Value) (n:Nat),Vals xs its∧h.get? a=some { cls:=.type "list",data:=.seq its.toArray n }
 | .tup xs=>xs.length≤sizeLine∧∃ its:List Value,Vals xs its∧IsTup h a its.toArray
 | .dK kvs=>kvs.length≤sizeLine∧(a == sysModules)=false∧∃ vs,KV kvs vs∧h.DictOf (aP P w) a vs
 | .dT kvs=>kvs.length≤sizeLine∧(a == sysModules)=false∧∃ xs:List (List Key × Addr × Value),
   Paired (fun (p:List Key × V) (q:List Key × Addr × Value)=>p.1=q.1∧H q.2.1=some (.tup (p.1.map kV))∧RelV p.2 q.2.2) kvs xs∧
   ∃ o es ep,h.get? a=some o∧o.ExactDict∧o.data=.dict es ep∧es.toList=xs.map (entryOfKey (tupleKind (aP P w)))∧(xs.map (·.1)).Nodup
 | .set S n=>h.SetOf (intKind P w) a S n
 | .ins C dx fs=>H dx=some (.own a)∧fs.length≤1000∧dx ≠ a∧h.get? a=some (PySem.W.instObj C dx)∧
   ∃ mA,h.Ns1 dx mA∧(∀ f,kf (fs.lookup f) (mA f))∧PySem.Within mA (fs.map (·.1))
 | .own _=>∃ o,h.get? a=some o
 | .xd fs=>∃ mA,h.Ns1 a mA∧∀ f,kf (fs.lookup f) (mA f)
 | .rng lo hi=>∃ t u v,h.get? a=some { cls:=.type "range",data:=.fields #[.int lo t,.int hi u,.int 1 v] }
 | .frz o u=>h.get? a=some o∧bG H h a u
 | .tbl ps=>h.get? a=some { cls:=.none,data:=.fields ps }
 | .met f x=>h.get? a=some (PySem.W.methodObj (.ref f) (.ref x))
 | .ext φ=>φ h∧(∃ o,h.get? a=some o)∧∀ h1 h2:Heap,φ h1→(∀ o,h1.get? a=some o→h2.get? a=some o)→φ h2
def HOk (H:Hp) (h:Heap):Prop:=∀ a o,H a=some o→bG P w H h a o
end
section
variable {P:Program} {w:World} {H H':Hp} {h h':Heap} {a:Addr} {o:HO}
theorem bG.lt (x:bG P w H h a o):a < h.objs.size:=by
 cases o with
 | lst xs=>obtain ⟨_,_,_,_,e⟩:=x; exact Heap.lt_size e
 | tup xs=>obtain ⟨_,_,_,p⟩:=x; exact p.lt
 | dK kvs=>obtain ⟨_,_,_,_,o,_,_,e,_⟩:=x; exact Heap.lt_size e
 | dT kvs=>obtain ⟨_,_,_,_,o,_,_,e,_⟩:=x; exact Heap.lt_size e
 | set S n=>obtain ⟨o,_,_,_,e,_⟩:=x; exact Heap.lt_size e
 | ins C dx fs=>obtain ⟨_,_,_,e,_⟩:=x; exact Heap.lt_size e
 | own y=>obtain ⟨_,e⟩:=x; exact Heap.lt_size e
 | xd fs=>obtain ⟨_,⟨_,_,_,e,_⟩,_⟩:=x; exact Heap.lt_size e
 | rng lo hi=>obtain ⟨_,_,_,e⟩:=x; exact Heap.lt_size e
 | frz ob u=>obtain ⟨e,_⟩:=x; exact Heap.lt_size e
 | tbl ps=>exact Heap.lt_size (show h.get? a=some _ from x)
 | met f y=>exact Heap.lt_size (show h.get? a=some _ from x)
 | ext φ=>obtain ⟨_,⟨_,e⟩,_⟩:=x; exact Heap.lt_size e
theorem Paired.mapP {α β:Type} {F G:α→β→Prop}:∀ {l₁:List α} {l₂:List β},Paired F l₁ l₂→(∀ a b,F a b→G a b)→Paired G l₁ l₂
 | _,_,.nil,_=>.nil
 | _,_,.cons r t,f=>.cons (f _ _ r) (Paired.mapP t f)
theorem bG.stay (x:bG P w H h a o) (k:∀ b u,(b=a ∨ H b=some (.own a))→h.get? b=some u→h'.get? b=some u)
  (ho:∀ b,H b=some (.own a)→H' b=some (.own a)) (ht:∀ b xs,H b=some (.tup xs)→H' b=some (.tup xs)):bG P w H' h' a o:=by
 induction o with
 | lst xs=>obtain ⟨z,its,n,r,e⟩:=x; exact ⟨z,its,n,r,k _ _ (.inl rfl) e⟩
 | tup xs=>obtain ⟨z,its,r,ob,e,c⟩:=x; exact ⟨z,its,r,ob,k _ _ (.inl rfl) e,c⟩
 | dK kvs=>obtain ⟨z,y,vs,r,ob,es,ep,e,c⟩:=x; exact ⟨z,y,vs,r,ob,es,ep,k _ _ (.inl rfl) e,c⟩
 | dT kvs=>
  obtain ⟨z,y,xs,r,ob,es,ep,e,c⟩:=x
  exact ⟨z,y,xs,Paired.mapP r fun p q z=>⟨z.1,ht _ _ z.2.1,z.2.2⟩,ob,es,ep,k _ _ (.inl rfl) e,c⟩
 | set S n=>obtain ⟨ob,es,ep,t,e,c⟩:=x; exact ⟨ob,es,ep,t,k _ _ (.inl rfl) e,c⟩
 | ins C dx fs=>
  obtain ⟨d,z,ne,e,mA,⟨od,es,ep,e2,c⟩,r⟩:=x
  exact ⟨ho _ d,z,ne,k _ _ (.inl rfl) e,mA,⟨od,es,ep,k _ _ (.inr d) e2,c⟩,r⟩
 | own y=>obtain ⟨ob,e⟩:=x; exact ⟨ob,k _ _ (.inl rfl) e⟩
 | xd fs=>obtain ⟨mA,⟨od,es,ep,e,c⟩,r⟩:=x; exact ⟨mA,⟨od,es,ep,k _ _ (.inl rfl) e,c⟩,r⟩
 | rng lo hi=>obtain ⟨t,u,v,e⟩:=x; exact ⟨t,u,v,k _ _ (.inl rfl) e⟩
 | frz ob u ih=>obtain ⟨e,q⟩:=x; exact ⟨k _ _ (.inl rfl) e,ih q⟩
 | tbl ps=>
  have e:h.get? a=some { cls:=.none,data:=.fields ps }:=x
  show h'.get? a=some { cls:=.none,data:=.fields ps }
  exact k a _ (.inl rfl) e
 | met f y=>
  have e:h.get? a=some (PySem.W.methodObj (.ref f) (.ref y)):=x
  show h'.get? a=some (PySem.W.methodObj (.ref f) (.ref y))
  exact k a _ (.inl rfl) e
 | ext φ=>obtain ⟨p,⟨o,e⟩,st⟩:=x; exact ⟨st _ _ p fun o q=>k _ _ (.inl rfl) q,⟨o,k _ _ (.inl rfl) e⟩,st⟩
theorem HOk.lt (x:HOk P w H h) (e:H a=some o):a < h.objs.size:=(x a o e).lt
theorem HOk.fresh (x:HOk P w H h) (e:h.objs.size≤a):H a=none:=by
 cases q:H a with
 | none=>rfl
 | some u=>exact absurd (Nat.lt_of_lt_of_le (x.lt q) e) (Nat.lt_irrefl _)
theorem HOk.kept (x:HOk P w H h) (k:∀ b u,h.get? b=some u→h'.get? b=some u):HOk P w H h':=fun a o e=>
 (x a o e).stay (fun b u _ q=>k b u q) (fun _ q=>q) fun _ _ q=>q
theorem HOk.laid (x:HOk P w H h) (k:∀ b u,h.get? b=some u→h'.get? b=some u) (hp:h.objs.size≤a) (new:bG P w (upd H a o) h' a o):HOk P w (upd H a o) h':=fun b u e=>by
 have hn:=x.fresh hp
 by_cases hb:b=a
 ·subst hb; rw [aH] at e; cases e; exact new
 ·rw [aB hb] at e
  exact (x b u e).stay (fun c v _ q=>k c v q) (fun c q=>by rw [aB (aL q hn)]; exact q) fun c xs q=>by rw [aB (aL q hn)]; exact q
end
def Rd (H:Hp) (a:Addr) (u:HO):Prop:=H a=some u ∨ ∃ o,H a=some (.frz o u)
theorem Rd.ok {P:Program} {w:World} {H:Hp} {h:Heap} {a:Addr} {u:HO} (r:Rd H a u) (x:HOk P w H h):bG P w H h a u:=by
 rcases r with r | ⟨o,r⟩
 ·exact x a u r
 ·obtain ⟨_,q⟩:=x a _ r
  exact q
def Mut:Option HO→Prop
 | some (.lst _)=>True
 | some (.dK _)=>True
 | some (.dT _)=>True
 | some (.set _ _)=>True
 | some (.ins _ _ _)=>True
 | some (.ext _)=>True
 | _=>False
section
variable {P:Program} {w:World} {H:Hp} {h h':Heap} {x e:Addr} {o':HO}
theorem HOk.write (ok:HOk P w H h) (mu:Mut (H x)) (he:e=x ∨ H e=some (.own x)) (k:∀ b u,b ≠ e→h.get? b=some u→h'.get? b=some u) (heo:∃ u,h'.get? e=some u)
  (new:bG P w (upd H x o') h' x o'):HOk P w (upd H x o') h':=fun b u q=>by
 have nown:∀ c y,H c=some (.own y)→c ≠ x:=fun c y r z=>by subst z; rw [r] at mu; exact mu
 have ntup:∀ c xs,H c=some (.tup xs)→c ≠ x:=fun c xs r z=>by subst z; rw [r] at mu; exact mu
 by_cases hb:b=x
 ·subst hb; rw [aH] at q; cases q; exact new
 ·rw [aB hb] at q
  by_cases hbe:b=e
  ·have q':H b=some (.own x):=by
    rcases he with z | z
    ·exact absurd (hbe.trans z) hb
    ·rw [hbe]; exact z
   rw [q] at q'; cases q'
   obtain ⟨v,hv⟩:=heo
   exact ⟨v,by rw [hbe]; exact hv⟩
  ·refine (ok b u q).stay (fun c v hc r=>k c v ?_ r) (fun c r=>by rw [aB (nown c b r)]; exact r) fun c xs r=>by rw [aB (ntup c xs r)]; exact r
   rcases hc with rfl | hc
   ·exact hbe
   ·rintro rfl
    rcases he with z | z
    ·exact nown c b hc z
    ·rw [hc] at z; cases z; exact hb rfl
end
structure Un (fs ex:List Addr) (H H':Hp) (h h':Heap):Prop where
 keep:∀ b o,h.get? b=some o→H b=none→b ∉ fs→b ∉ ex→h'.get? b=some o
 slot:∀ b o,h.get? b=some o→H b=none→b ∈ fs→b ∉ ex→∃ sl,h'.get? b=some { o with slots:=sl }
 free:∀ b o,h.get? b=some o→H b=none→b ∉ ex→H' b=none
 there:∀ b o,h.get? b=some o→b ∉ ex→∃ o',h'.get? b=some o'
 tups:∀ b xs,H b=some (.tup xs)→H' b=some (.tup xs)
 frzs:∀ b o u,H b=some (.frz o u)→H' b=some (.frz o u)
 tbls:∀ b ps,H b=some (.tbl ps)→∃ more,H' b=some (.tbl (ps ++ more))
section
variable {fs fs' ex ex':List Addr} {H H1 H2:Hp} {h h1 h2 h':Heap} {a x e:Addr} {o:HO}
theorem Un.any (u:Un fs ex H H1 h h1) {b:Addr} {ob:Obj} (q:h.get? b=some ob) (n:H b=none) (hx:b ∉ ex):∃ sl,h1.get? b=some { ob with slots:=sl }:=by
 by_cases hb:b ∈ fs
 ·exact u.slot b ob q n hb hx
 ·exact ⟨ob.slots,u.keep b ob q n hb hx⟩
theorem Un.trans (a:Un fs ex H H1 h h1) (b:Un fs ex H1 H2 h1 h2):Un fs ex H H2 h h2 where
 keep:=fun c ob q n hc hx=>b.keep c ob (a.keep c ob q n hc hx) (a.free c ob q n hx) hc hx
 slot:=fun c ob q n hc hx=>by
  obtain ⟨sl,e1⟩:=a.slot c ob q n hc hx
  obtain ⟨sl',e2⟩:=b.slot c _ e1 (a.free c ob q n hx) hc hx
  exact ⟨sl',e2⟩
 free:=fun c ob q n hx=>by
  obtain ⟨o',e1⟩:=a.there c ob q hx
  exact b.free c o' e1 (a.free c ob q n hx) hx
 there:=fun c ob q hx=>by
  obtain ⟨o',e1⟩:=a.there c ob q hx
  exact b.there c o' e1 hx
 tups:=fun c xs q=>b.tups c xs (a.tups c xs q)
 frzs:=fun c ob xs q=>b.frzs c ob xs (a.frzs c ob xs q)
 tbls:=fun c ps q=>by
  obtain ⟨m1,e1⟩:=a.tbls c ps q
  obtain ⟨m2,e2⟩:=b.tbls c _ e1
  exact ⟨m1 ++ m2,by rw [e2,Array.append_assoc]⟩
theorem Un.kept (k:∀ b u,h.get? b=some u→h'.get? b=some u):Un fs ex H H h h':=
 ⟨fun b ob q _ _ _=>k b ob q,fun b ob q _ _ _=>⟨ob.slots,k b ob q⟩,fun _ _ _ n _=>n,fun b ob q _=>⟨ob,k b ob q⟩,fun _ _ q=>q,fun _ _ _ q=>q,fun _ ps q=>⟨#[],by rw [q]; simp⟩⟩
theorem Un.refl:Un fs ex H H h h:=Un.kept fun _ _ q=>q
theorem Un.laid (k:∀ b u,h.get? b=some u→h'.get? b=some u) (hp:h.objs.size≤a) (hn:H a=none):Un fs ex H (upd H a o) h h' where
 keep:=fun b u q _ _ _=>k b u q
 slot:=fun b u q _ _ _=>⟨u.slots,k b u q⟩
 free:=fun b u q n _=>by rw [aB (Nat.ne_of_lt (Nat.lt_of_lt_of_le (Heap.lt_size q) hp))]; exact n
 there:=fun b u q _=>⟨u,k b u q⟩
 tups:=fun b xs q=>by rw [aB (aL q hn)]; exact q
 frzs:=fun b u xs q=>by rw [aB (aL q hn)]; exact q
 tbls:=fun b ps q=>⟨#[],by rw [aB (aL q hn),q]; simp⟩
theorem Un.write (mu:Mut (H x)) (he:e=x ∨ H e=some (.own x)) (k:∀ b u,b ≠ e→h.get? b=some u→h'.get? b=some u) (heo:∃ u,h'.get? e=some u):Un fs ex H (upd H x o) h h':=by
 have hx:∀ b,H b=none→b ≠ x:=fun b n z=>by subst z; rw [n] at mu; exact mu
 have hb:∀ b,H b=none→b ≠ e:=fun b n z=>by
  subst z
  rcases he with r | r
  ·exact hx b n r
  ·rw [n] at r; cases r
 have hm:∀ b u,H b=some u→¬ Mut (some u)→b ≠ x:=fun b u q nm z=>by subst z; rw [q] at mu; exact nm mu
 refine ⟨fun b u q n _ _=>k b u (hb b n) q,fun b u q n _ _=>⟨u.slots,k b u (hb b n) q⟩,fun b u q n _=>by rw [aB (hx b n)]; exact n,fun b u q _=>?_,
  fun b xs q=>by rw [aB (hm b _ q fun z=>z)]; exact q,fun b u xs q=>by rw [aB (hm b _ q fun z=>z)]; exact q,fun b ps q=>⟨#[],by rw [aB (hm b _ q fun z=>z),q]; simp⟩⟩
 by_cases hbe:b=e
 ·subst hbe; exact heo
 ·exact ⟨u,k b u hbe q⟩
end
def trk (h:Heap) (H:Hp):List Addr:=(List.range h.objs.size).filter fun a=>(H a).isSome
def oh (h:Heap) (H:Hp):Heap:=PySem.W.hideAll h (trk h H)
theorem ui (h:Heap) (H:Hp):(oh h H).objs.size=h.objs.size:=PySem.W.hideAll_size _ _
theorem vu {h:Heap} {H:Hp} {b:Addr} {o:Obj} (e:h.get? b=some o) (n:H b=none):(oh h H).get? b=some o:=
 PySem.W.hideAll_get _ e fun hm=>by
  have q:(H b).isSome=true:=(List.mem_filter.mp hm).2
  rw [n] at q; simp at q
theorem xD {h:Heap} {H:Hp} {b:Addr} {o:Obj} (e:(oh h H).get? b=some o):h.get? b=some o∧H b=none:=by
 have e':h.get? b=some o:=PySem.W.of_hideAll (trk h H) e
 refine ⟨e',?_⟩
 cases q:H b with
 | none=>rfl
 | some x=>
  have hm:b ∈ trk h H:=List.mem_filter.mpr ⟨List.mem_range.mpr (Heap.lt_size e'),by simp [q]⟩
  have z:(oh h H).get? b=none:=PySem.W.hideAll_none (trk h H) hm
  rw [z] at e; cases e
end L2
namespace L2
open PySem PySem.Spec PyProof.Rows
structure Mod (K:PySem.W.Frag) (mg:Str→Option Value) (base:Heap):Prop where
 kin:K.In base
 glob:base.Ns mainGlobals mg
 blt:∃ mb,base.Ns builtinsNs mb∧∀ x:Str,x ≠ "__name__"→mb x=bootBuiltins x
 nolimit:base.NoLimit
structure Cx where
 prog:Program
 w:World
 K:PySem.W.Frag
 mg:Str→Option Value
 base:Heap
 A:Around
 N:List Str
 s₀:Shared
 H₀:Hp
 env:Env
 outer:List Env
 stack:List Env
 ex:List Addr
 fn:Str→Bool
 calm:Bool
 pn:List (Addr × Obj)
 xe:Value→Shared→Prop
def frs (l:List Env):List Addr:=l.filterMap (·.frame)
abbrev Cx.fs (X:Cx):List Addr:=frs X.outer
def Vis (sc:Scope) (x:Str):Prop:=sc.names.lookup x=some .local ∨ sc.names.lookup x=some .cell ∨ sc.names.lookup x=some .free
def Loc (sc:Scope) (x:Str):Prop:=sc.names.lookup x=some .local ∨ sc.names.lookup x=some .cell
def Look (env:Env) (h:Heap) (m:Str→Option Value) (x:Str) (u:Value):Prop:=
 (env.kindOf x=some .local∧m x=some u) ∨ ((env.kindOf x=some .cell ∨ env.kindOf x=some .free)∧∃ c,env.cells.lookup x=some c∧h.IsCell c (some u))
structure Cx.Ok (X:Cx):Prop where
 mod:Mod X.K X.mg X.base
 kind:X.env.scope.kind=.function
 glob:X.env.globals=mainGlobals
 blt:X.env.builtins=builtinsNs
 above:X.s₀.heap.objs.size≤X.env.locals
 inj:∀ x y c,X.env.cells.lookup x=some c→X.env.cells.lookup y=some c→x=y
 has:∀ x,(X.env.kindOf x=some .cell ∨ X.env.kindOf x=some .free)→∃ c,X.env.cells.lookup x=some c
 cab:∀ x c,X.fn x=true→X.env.cells.lookup x=some c→X.s₀.heap.objs.size≤c
 hd:X.calm=true→X.A.handled=none
 frames:X.A.frames=some X.stack
 stk:X.stack=X.outer ∨ (X.stack=X.env :: X.outer∧X.env.frame=some X.env.locals)
 exf:∀ b ∈ X.ex,b ≠ X.env.locals∧∀ x c,X.env.cells.lookup x=some c→c ≠ b
 bs:∀ b o,X.base.get? b=some o→X.s₀.heap.get? b=some o∧X.H₀ b=none
 bsz:X.base.objs.size≤X.s₀.heap.objs.size
 noex:∀ b o,X.base.get? b=some o→b ∉ X.ex
 exfs:∀ b ∈ X.ex,b ∉ X.fs
 funs:X.s₀.heap.FunFrames X.base X.outer
 frf:∀ b ∈ X.fs,X.H₀ b=none
structure Inv (X:Cx) (pins:List (Addr × Obj)) (σ:List (Option V)) (H:Hp) (s:Shared):Prop where
 ok:X.Ok
 os:s.os=X.s₀.os
 bare:AllBare s.gens
 base:Un X.fs X.ex X.H₀ H X.s₀.heap s.heap
 loc:∃ m,s.heap.Ns X.env.locals m∧∀ (i:Nat) (x:Str) (v:V),X.N[i]?=some x→σ[i]?=some (some v)→Vis X.env.scope x→∃ u,RelV v u∧Look X.env s.heap m x u
 cell:∀ x c,X.env.cells.lookup x=some c→∃ v,s.heap.IsCell c v
 free:H X.env.locals=none
 freeC:∀ x c,X.env.cells.lookup x=some c→H c=none
 pin:∀ p ∈ X.pn ++ pins,s.heap.get? p.1=some p.2∧H p.1=none∧p.1 ≠ X.env.locals∧p.1 ∉ X.fs∧∀ v,p.2.data ≠ .cell v
 hok:HOk X.prog X.w H s.heap
 len:σ.length=X.N.length
section
variable {X:Cx} {pins:List (Addr × Obj)} {σ:List (Option V)} {H H':Hp} {s:Shared} {h':Heap}
theorem Cx.Ok.nofr (ok:X.Ok) {b:Addr} {o:Obj} (e:X.base.get? b=some o):b ∉ X.fs:=fun hb=>by
 have:=(ok.funs.mem hb).1
 rw [e] at this; cases this
theorem Inv.bs (I:Inv X pins σ H s):∀ b o,X.base.get? b=some o→s.heap.get? b=some o∧H b=none:=fun b o e=>
 ⟨I.base.keep b o (I.ok.bs b o e).1 (I.ok.bs b o e).2 (I.ok.nofr e) (I.ok.noex b o e),I.base.free b o (I.ok.bs b o e).1 (I.ok.bs b o e).2 (I.ok.noex b o e)⟩
theorem Inv.bk (I:Inv X pins σ H s):∀ b o,X.base.get? b=some o→s.heap.get? b=some o:=fun b o e=>(I.bs b o e).1
theorem Inv.mod (I:Inv X pins σ H s):Mod X.K X.mg X.base:=I.ok.mod
theorem Inv.kIn (I:Inv X pins σ H s):X.K.In s.heap:=I.ok.mod.kin.keeps I.bk
theorem Inv.lt (I:Inv X pins σ H s):X.env.locals < s.heap.objs.size:=let ⟨_,hn,_⟩:=I.loc; hn.lt
theorem Inv.sz (I:Inv X pins σ H s):X.s₀.heap.objs.size≤s.heap.objs.size:=Nat.le_trans I.ok.above (Nat.le_of_lt I.lt)
theorem Inv.nofs (I:Inv X pins σ H s) {a:Addr} (h:s.heap.objs.size≤a):a ∉ X.fs:=fun hb=>by
 obtain ⟨_,o,ho,_⟩:=I.ok.funs.mem hb
 exact absurd (Nat.lt_of_lt_of_le (Heap.lt_size ho) (Nat.le_trans I.sz h)) (Nat.lt_irrefl _)
theorem Inv.cne (I:Inv X pins σ H s):∀ x c,X.env.cells.lookup x=some c→c ≠ X.env.locals:=fun x c e z=>by
 obtain ⟨v,o,ho,hd⟩:=I.cell x c e
 obtain ⟨m,⟨o',es,ep,ho',hd',_⟩,_⟩:=I.loc
 rw [z,ho'] at ho; cases ho; rw [hd'] at hd; cases hd
theorem Inv.funs (I:Inv X pins σ H s):s.heap.FunFrames X.base X.outer:=by
 have all:∀ (l:List Env),(∀ b ∈ frs l,b ∈ X.fs)→X.s₀.heap.FunFrames X.base l→s.heap.FunFrames X.base l:=by
  intro l
  induction l with
  | nil=>intro _ _; trivial
  | cons env r ih=>
   intro hs hl
   obtain ⟨hk,⟨L,o,hf,hn,ho,hd⟩,hr⟩:=hl
   have hL:L ∈ X.fs:=hs L (by unfold frs; rw [List.filterMap_cons,hf]; exact List.mem_cons_self)
   obtain ⟨sl,e⟩:=I.base.slot L o ho (I.ok.frf L hL) hL fun z=>I.ok.exfs L z hL
   exact ⟨hk,⟨L,_,hf,hn,e,hd⟩,ih (fun b hb=>hs b (by unfold frs; rw [List.filterMap_cons,hf]; exact List.mem_cons_of_mem _ hb)) hr⟩
 exact all X.outer (fun _ hb=>hb) I.ok.funs
theorem Inv.stack (I:Inv X pins σ H s):s.heap.FunFrames X.base X.stack:=by
 rcases I.ok.stk with e | ⟨e,hf⟩
 ·rw [e]; exact I.funs
 ·rw [e]
  obtain ⟨m,hn,_⟩:=I.loc
  refine .cons (by rw [I.ok.kind]; decide) hf hn ?_ I.funs
  exact Heap.get?_none_of_le (Nat.le_trans I.ok.bsz I.ok.above)
theorem Inv.stkSub (I:Inv X pins σ H s):∀ b ∈ frs X.stack,b ∈ X.env.locals :: X.fs:=fun b hb=>by
 rcases I.ok.stk with e | ⟨e,hf⟩
 ·rw [e] at hb; exact List.mem_cons_of_mem _ hb
 ·rw [e] at hb
  unfold frs at hb
  rw [List.filterMap_cons,hf] at hb
  exact hb
theorem Inv.stkFree (I:Inv X pins σ H s):∀ b ∈ frs X.stack,H b=none:=fun b hb=>by
 rcases List.mem_cons.mp (I.stkSub b hb) with e | hb
 ·rw [e]; exact I.free
 ·obtain ⟨_,o,ho,_⟩:=I.ok.funs.mem hb
  exact I.base.free b o ho (I.ok.frf b hb) fun z=>I.ok.exfs b z hb
theorem Inv.step {g':Array GenState} {t':Nat} {d':Drawn} {ch:List Addr} (I:Inv X pins σ H s)
  (hch:∀ b ∈ ch,(b ∈ X.ex ∨ X.s₀.heap.objs.size≤b)∧b ≠ X.env.locals∧(∀ x c,X.env.cells.lookup x=some c→c ≠ b)∧∀ p ∈ X.pn ++ pins,p.1 ≠ b)
  (keep:∀ b o,b ≠ X.env.locals→b ∉ X.fs→b ∉ ch→s.heap.get? b=some o→H b=none→h'.get? b=some o)
  (slot:∀ b o,b ≠ X.env.locals→b ∈ X.fs→b ∉ ch→s.heap.get? b=some o→H b=none→∃ sl,h'.get? b=some { o with slots:=sl }) (free:∀ b o,b ∉ ch→s.heap.get? b=some o→H b=none→H' b=none)
  (there:∀ b o,b ∉ ch→s.heap.get? b=some o→∃ o',h'.get? b=some o')
  (tups:∀ b xs,H b=some (.tup xs)→H' b=some (.tup xs)) (frzs:∀ b o u,H b=some (.frz o u)→H' b=some (.frz o u)) (tbls:∀ b ps,H b=some (.tbl ps)→∃ more,H' b=some (.tbl (ps ++ more)))
  (ns:∀ m,s.heap.Ns X.env.locals m→h'.Ns X.env.locals m) (hok:HOk X.prog X.w H' h') (hg:AllBare g'):
  Inv X pins σ H' { s with heap:=h',gens:=g',drawn:=d',toks:=t' }:=by
 have neL:∀ b o,X.s₀.heap.get? b=some o→b ≠ X.env.locals:=fun b o e=>Nat.ne_of_lt (Nat.lt_of_lt_of_le (Heap.lt_size e) I.ok.above)
 have neC:∀ b o,X.s₀.heap.get? b=some o→b ∉ X.ex→b ∉ ch:=fun b o e hx hb=>by
  rcases (hch b hb).1 with z | z
  ·exact hx z
  ·exact absurd (Nat.lt_of_lt_of_le (Heap.lt_size e) z) (Nat.lt_irrefl _)
 have cellK:∀ x c,X.env.cells.lookup x=some c→∀ v,s.heap.IsCell c v→h'.IsCell c v:=fun x c e v ⟨o,ho,hd⟩=>by
  have nch:c ∉ ch:=fun z=>(hch c z).2.2.1 x c e rfl
  by_cases hc:c ∈ X.fs
  ·obtain ⟨sl,q⟩:=slot c o (I.cne x c e) hc nch ho (I.freeC x c e)
   exact ⟨_,q,hd⟩
  ·exact ⟨o,keep c o (I.cne x c e) hc nch ho (I.freeC x c e),hd⟩
 refine ⟨I.ok,I.os,hg,⟨fun b o e n hb hx=>?_,fun b o e n hb hx=>?_,fun b o e n hx=>?_,fun b o e hx=>?_,fun b xs e=>tups b xs (I.base.tups b xs e),fun b o xs e=>frzs b o xs (I.base.frzs b o xs e),fun b ps e=>?_⟩,?_,fun x c e=>?_,?_,fun x c e=>?_,fun p hp=>?_,hok,I.len⟩
 ·exact keep b o (neL b o e) hb (neC b o e hx) (I.base.keep b o e n hb hx) (I.base.free b o e n hx)
 ·obtain ⟨sl,e1⟩:=I.base.slot b o e n hb hx
  obtain ⟨sl',e2⟩:=slot b _ (neL b o e) hb (neC b o e hx) e1 (I.base.free b o e n hx)
  exact ⟨sl',e2⟩
 ·obtain ⟨o',e1⟩:=I.base.there b o e hx
  exact free b o' (neC b o e hx) e1 (I.base.free b o e n hx)
 ·obtain ⟨o',e1⟩:=I.base.there b o e hx
  exact there b o' (neC b o e hx) e1
 ·obtain ⟨m1,e1⟩:=I.base.tbls b ps e
  obtain ⟨m2,e2⟩:=tbls b _ e1
  exact ⟨m1 ++ m2,by rw [e2,Array.append_assoc]⟩
 ·obtain ⟨m,hn,hl⟩:=I.loc
  refine ⟨m,ns m hn,fun i x v e1 e2 e3=>?_⟩
  obtain ⟨u,r,l⟩:=hl i x v e1 e2 e3
  refine ⟨u,r,?_⟩
  rcases l with l | ⟨k,c,e,z⟩
  ·exact .inl l
  ·exact .inr ⟨k,c,e,cellK x c e _ z⟩
 ·obtain ⟨v,z⟩:=I.cell x c e
  exact ⟨v,cellK x c e v z⟩
 ·obtain ⟨m,⟨o,_,_,ho,_⟩,_⟩:=I.loc
  exact free _ o (fun z=>(hch _ z).2.1 rfl) ho I.free
 ·obtain ⟨v,o,ho,hd⟩:=I.cell x c e
  exact free c o (fun z=>(hch c z).2.2.1 x c e rfl) ho (I.freeC x c e)
 ·obtain ⟨e,n,ne,nf,d⟩:=I.pin p hp
  have nch:p.1 ∉ ch:=fun z=>(hch p.1 z).2.2.2 p hp rfl
  exact ⟨keep p.1 p.2 ne nf nch e n,free p.1 p.2 nch e n,ne,nf,d⟩
theorem Inv.un {t':Nat} (I:Inv X pins σ H s) (u:Un X.fs [] H H' s.heap h') (hok:HOk X.prog X.w H' h'):Inv X pins σ H' { s with heap:=h',toks:=t' }:=by
 obtain ⟨m,⟨o,es,ep,ho,r⟩,_⟩:=id I.loc
 obtain ⟨sl,hL⟩:=u.any ho I.free (by simp)
 exact I.step (g':=s.gens) (d':=s.drawn) (ch:=[]) (fun _ z=>nomatch z) (fun b o _ hb _ e n=>u.keep b o e n hb (by simp)) (fun b o _ hb _ e n=>u.slot b o e n hb (by simp)) (fun b o _ e n=>u.free b o e n (by simp)) (fun b o _ e=>u.there b o e (by simp)) u.tups u.frzs u.tbls (fun m' hm=>by
  obtain ⟨o',es',ep',ho',r'⟩:=hm
  rw [ho] at ho'; cases ho'
  exact ⟨_,es',ep',hL,r'⟩) hok I.bare
theorem Inv.call {g':Array GenState} {t':Nat} {d':Drawn} {ch:List Addr} (I:Inv X pins σ H s) (u:Un (frs X.stack) ch H H' s.heap h') (hok:HOk X.prog X.w H' h') (hg:AllBare g')
  (hch:∀ b ∈ ch,(b ∈ X.ex ∨ X.s₀.heap.objs.size≤b)∧b ≠ X.env.locals∧(∀ x c,X.env.cells.lookup x=some c→c ≠ b)∧∀ p ∈ X.pn ++ pins,p.1 ≠ b):
  Inv X pins σ H' { s with heap:=h',gens:=g',drawn:=d',toks:=t' }:=by
 obtain ⟨m,⟨o,es,ep,ho,r⟩,_⟩:=id I.loc
 obtain ⟨sl,hL⟩:=u.any ho I.free fun z=>(hch _ z).2.1 rfl
 exact I.step (ch:=ch) hch (fun b o hL hb hc e n=>u.keep b o e n (fun z=>(List.mem_cons.mp (I.stkSub b z)).elim hL hb) hc) (fun b o _ _ hc e n=>u.any e n hc) (fun b o hc e n=>u.free b o e n hc) (fun b o hc e=>u.there b o e hc) u.tups u.frzs u.tbls (fun m' hm=>by
  obtain ⟨o',es',ep',ho',r'⟩:=hm
  rw [ho] at ho'; cases ho'
  exact ⟨_,es',ep',hL,r'⟩) hok hg
theorem Inv.turned {t':Nat} {it:Addr} (I:Inv X pins σ H s) (k:∀ b o,b ≠ it→s.heap.get? b=some o→h'.get? b=some o) (hn:H it=none) (hL:it ≠ X.env.locals)
  (h1:it ∈ X.ex ∨ X.s₀.heap.objs.size≤it) (h2:∀ x c,X.env.cells.lookup x=some c→c ≠ it) (h3:∀ p ∈ X.pn ++ pins,p.1 ≠ it):Inv X pins σ H { s with heap:=h',toks:=t' }:=by
 have nit:∀ b u,H b=some u→b ≠ it:=fun b u e z=>by rw [z,hn] at e; cases e
 refine I.step (g':=s.gens) (d':=s.drawn) (ch:=[it]) (fun b hb=>?_) (fun b o _ _ hc e _=>k b o (fun z=>hc (by simp [z])) e) (fun b o _ _ hc e _=>⟨o.slots,k b o (fun z=>hc (by simp [z])) e⟩) (fun _ _ _ _ n=>n)
  (fun b o hc e=>⟨o,k b o (fun z=>hc (by simp [z])) e⟩) (fun _ _ e=>e) (fun _ _ _ e=>e) (fun b ps e=>⟨#[],by rw [e]; simp⟩) (fun m hm=>?_) (fun b u e=>?_) I.bare
 ·have e:b=it:=by simpa using hb
  subst e
  exact ⟨h1,hL,h2,h3⟩
 ·obtain ⟨o,es,ep,ho,r⟩:=hm
  exact ⟨o,es,ep,k _ o (Ne.symm hL) ho,r⟩
 ·refine (I.hok b u e).stay (fun c v hc q=>k c v ?_ q) (fun _ q=>q) fun _ _ q=>q
  rcases hc with z | z
  ·rw [z]; exact nit b u e
  ·exact nit c _ z
theorem Inv.tok (I:Inv X pins σ H s) (t:Nat):Inv X pins σ H { s with toks:=t }:=I.un (h':=s.heap) (t':=t) Un.refl I.hok
theorem Inv.kept {t':Nat} (I:Inv X pins σ H s) (k:∀ b u,s.heap.get? b=some u→h'.get? b=some u):Inv X pins σ H { s with heap:=h',toks:=t' }:=I.un (Un.kept k) (I.hok.kept k)
theorem Inv.laid {a:Addr} {o:HO} {t':Nat} (I:Inv X pins σ H s) (k:∀ b u,s.heap.get? b=some u→h'.get? b=some u) (hp:s.heap.objs.size≤a) (new:bG X.prog X.w (upd H a o) h' a o):
  Inv X pins σ (upd H a o) { s with heap:=h',toks:=t' }:=I.un (Un.laid k hp (I.hok.fresh hp)) (I.hok.laid k hp new)
theorem Inv.write {x e:Addr} {o:HO} {t':Nat} (I:Inv X pins σ H s) (mu:Mut (H x)) (he:e=x ∨ H e=some (.own x)) (k:∀ b u,b ≠ e→s.heap.get? b=some u→h'.get? b=some u) (heo:∃ u,h'.get? e=some u)
  (new:bG X.prog X.w (upd H x o) h' x o):Inv X pins σ (upd H x o) { s with heap:=h',toks:=t' }:=I.un (Un.write mu he k heo) (I.hok.write mu he k heo new)
theorem Inv.pins_of {pins':List (Addr × Obj)} (I:Inv X pins σ H s) (h:∀ p ∈ pins',s.heap.get? p.1=some p.2∧H p.1=none∧p.1 ≠ X.env.locals∧p.1 ∉ X.fs∧∀ v,p.2.data ≠ .cell v):Inv X pins' σ H s:=
 ⟨I.ok,I.os,I.bare,I.base,I.loc,I.cell,I.free,I.freeC,fun p hp=>(List.mem_append.mp hp).elim (fun z=>I.pin p (List.mem_append_left _ z)) (h p),I.hok,I.len⟩
theorem pO {N:List Str} (hN:N.Nodup) {i j:Nat} {x:Str} (a:N[i]?=some x) (b:N[j]?=some x):i=j:=by
 obtain ⟨h1,e1⟩:=List.getElem?_eq_some_iff.mp a
 obtain ⟨h2,e2⟩:=List.getElem?_eq_some_iff.mp b
 exact (List.getElem_inj hN).mp (e1.trans e2.symm)
theorem uj {M:Model} {A:Around} {E:Value→Shared→Prop} {i:Nat} {x:Str} {v:V} {u:Value} {Q:Unit→Shared→Prop} (I:Inv X pins σ H s) (hN:X.N.Nodup) (hi:X.N[i]?=some x) (hx:Loc X.env.scope x) (r:RelV v u)
  (h:∀ s',Inv X pins (σ.set i (some v)) H s'→(∃ a,Heap.SameBut a s.heap s'.heap∧(a=X.env.locals ∨ X.env.cells.lookup x=some a))→Q () s') (hf:X.fn x=true ∨ X.env.scope.names.lookup x=some .local):wpAny M A (storeName X.env x u) Q E s:=by
 obtain ⟨m,hn,hl⟩:=id I.loc
 have hcls:(X.env.scope.kind == .class || (X.env.scope.kind == .module && X.env.locals != X.env.globals))=false:=by rw [I.ok.kind]; rfl
 have hiσ:i < σ.length:=by rw [I.len]; exact (List.getElem?_eq_some_iff.mp hi).1
 have cne:=I.cne
 have tracked:∀ {a:Addr} {h':Heap},(∃ o,s.heap.get? a=some o∧H a=none)→Heap.SameBut a s.heap h'→HOk X.prog X.w H h':=fun {a h'} ha hs b ob e=>by
  obtain ⟨_,_,hfree⟩:=ha
  refine (I.hok b ob e).stay (fun c w' hc q=>(hs.2 c ?_).trans q) (fun _ q=>q) fun _ _ q=>q
  rintro rfl
  rcases hc with rfl | hc
  ·rw [hfree] at e; cases e
  ·rw [hfree] at hc; cases hc
 rcases hx with hk | hk
 ·refine wpAny_storeName_local hk hn (fun h' hn' hs=>?_) hcls
  obtain ⟨oL,_,_,hoL,_⟩:=id hn
  refine h _ ⟨I.ok,I.os,I.bare,⟨fun b o e n hb hx=>?_,fun b o e n hb hx=>?_,I.base.free,fun b o e hx=>?_,I.base.tups,I.base.frzs,I.base.tbls⟩,⟨_,hn',fun j y v' e1 e2 e3=>?_⟩,fun y c e=>?_,I.free,I.freeC,fun p hp=>?_,tracked ⟨oL,hoL,I.free⟩ hs,by simpa using I.len⟩ ⟨_,hs,.inl rfl⟩
  ·exact (hs.2 b (Nat.ne_of_lt (Nat.lt_of_lt_of_le (Heap.lt_size e) I.ok.above))).trans (I.base.keep b o e n hb hx)
  ·obtain ⟨sl,e1⟩:=I.base.slot b o e n hb hx
   exact ⟨sl,(hs.2 b (Nat.ne_of_lt (Nat.lt_of_lt_of_le (Heap.lt_size e) I.ok.above))).trans e1⟩
  ·obtain ⟨o',e1⟩:=I.base.there b o e hx
   exact ⟨o',(hs.2 b (Nat.ne_of_lt (Nat.lt_of_lt_of_le (Heap.lt_size e) I.ok.above))).trans e1⟩
  ·by_cases hj:j=i
   ·subst hj
    rw [hi] at e1; cases e1
    rw [List.getElem?_set_self hiσ] at e2
    cases e2
    exact ⟨u,r,.inl ⟨hk,by simp⟩⟩
   ·rw [List.getElem?_set_ne (Ne.symm hj)] at e2
    obtain ⟨u',r',q⟩:=hl j y v' e1 e2 e3
    refine ⟨u',r',?_⟩
    rcases q with ⟨k,e⟩ | ⟨k,c,e,z⟩
    ·refine .inl ⟨k,?_⟩
     have:y ≠ x:=fun e=>hj (pO hN e1 (e ▸ hi))
     simp [this,e]
    ·exact .inr ⟨k,c,e,z.sameBut hs (cne y c e)⟩
  ·obtain ⟨w',z⟩:=I.cell y c e
   exact ⟨w',z.sameBut hs (cne y c e)⟩
  ·obtain ⟨e,n,ne,nf,d⟩:=I.pin p hp
   exact ⟨(hs.2 p.1 ne).trans e,n,ne,nf,d⟩
 ·have hfn:X.fn x=true:=by
   rcases hf with z | z
   ·exact z
   ·rw [z] at hk; cases hk
  obtain ⟨c,hc⟩:=I.ok.has x (.inl hk)
  obtain ⟨w',z⟩:=I.cell x c hc
  refine wpAny_storeName_cell I.ok.kind hk hc z (fun h' hc' hs=>?_)
  obtain ⟨oc,hoc,hocd⟩:=id z
  refine h { s with heap:=h' } ⟨I.ok,I.os,I.bare,⟨fun b o e n hb hx=>?_,fun b o e n hb hx=>?_,I.base.free,fun b o e hx=>?_,I.base.tups,I.base.frzs,I.base.tbls⟩,⟨m,hn.sameBut hs (Ne.symm (cne x c hc)),fun j y v' e1 e2 e3=>?_⟩,fun y c' e=>?_,I.free,I.freeC,fun p hp=>?_,tracked ⟨oc,hoc,I.freeC x c hc⟩ hs,by simpa using I.len⟩ ⟨c,hs,.inr hc⟩
  ·exact (hs.2 b (Nat.ne_of_lt (Nat.lt_of_lt_of_le (Heap.lt_size e) (I.ok.cab x c hfn hc)))).trans (I.base.keep b o e n hb hx)
  ·obtain ⟨sl,e1⟩:=I.base.slot b o e n hb hx
   exact ⟨sl,(hs.2 b (Nat.ne_of_lt (Nat.lt_of_lt_of_le (Heap.lt_size e) (I.ok.cab x c hfn hc)))).trans e1⟩
  ·obtain ⟨o',e1⟩:=I.base.there b o e hx
   exact ⟨o',(hs.2 b (Nat.ne_of_lt (Nat.lt_of_lt_of_le (Heap.lt_size e) (I.ok.cab x c hfn hc)))).trans e1⟩
  ·by_cases hj:j=i
   ·subst hj
    rw [hi] at e1; cases e1
    rw [List.getElem?_set_self hiσ] at e2
    cases e2
    exact ⟨u,r,.inr ⟨.inl hk,c,hc,hc'⟩⟩
   ·rw [List.getElem?_set_ne (Ne.symm hj)] at e2
    obtain ⟨u',r',q⟩:=hl j y v' e1 e2 e3
    refine ⟨u',r',?_⟩
    rcases q with q | ⟨k,c',e,z'⟩
    ·exact .inl q
    ·refine .inr ⟨k,c',e,z'.sameBut hs ?_⟩
     rintro rfl
     exact hj (pO hN e1 (I.ok.inj _ _ _ e hc ▸ hi))
  ·by_cases hcc:c'=c
   ·subst hcc; exact ⟨_,hc'⟩
   ·obtain ⟨w2,z2⟩:=I.cell y c' e
    exact ⟨w2,z2.sameBut hs hcc⟩
  ·obtain ⟨e,n,ne,nf,d⟩:=I.pin p hp
   refine ⟨(hs.2 p.1 ?_).trans e,n,ne,nf,d⟩
   intro q
   rw [q,hoc] at e
   have q':oc=p.2:=Option.some.inj e
   exact d w' (by rw [← q']; exact hocd)
theorem jG {M:Model} {A:Around} {E:Value→Shared→Prop} {i:Nat} {x:Str} {v:V} {u:Value} {Q:Unit→Shared→Prop} (I:Inv X pins σ H s) (hN:X.N.Nodup) (hi:X.N[i]?=some x) (hx:Loc X.env.scope x) (r:RelV v u)
  (h:∀ s',Inv X pins (σ.set i (some v)) H s'→Q () s') (hf:X.fn x=true ∨ X.env.scope.names.lookup x=some .local):wpAny M A (storeName X.env x u) Q E s:=
 uj I hN hi hx r (fun s' I' _=>h s' I') hf
theorem Inv.call' {s':Shared} {ch:List Addr} (I:Inv X pins σ H s) (ho:s'.os=s.os) (u:Un (frs X.stack) ch H H' s.heap s'.heap) (hok:HOk X.prog X.w H' s'.heap) (hg:AllBare s'.gens)
  (hch:∀ b ∈ ch,(b ∈ X.ex ∨ X.s₀.heap.objs.size≤b)∧b ≠ X.env.locals∧(∀ x c,X.env.cells.lookup x=some c→c ≠ b)∧∀ p ∈ X.pn ++ pins,p.1 ≠ b):Inv X pins σ H' s':=by
 obtain ⟨h',g',d',t',o'⟩:=s'
 have e:o'=s.os:=ho
 subst e
 exact I.call (g':=g') (t':=t') (d':=d') u hok hg hch
end
abbrev XK:=Value→Option Addr→Hp→Prop
abbrev St:=List (Option V)
abbrev VK:=V→Hp→Prop
abbrev TE:=St→Hp→VK→Prop
abbrev TT:=St→Hp→(Bool→Hp→Prop)→Prop
abbrev TA:=St→Hp→(List V→Hp→Prop)→Prop
set_option genInjectivity false in
structure Ends where
 nx:St→Hp→Prop
 rt:VK
 bk:St→Hp→Prop:=fun _ _=>False
 ct:St→Hp→Prop:=fun _ _=>False
abbrev TS:=Ends→St→Hp→Prop
def EP (X:Cx) (pins:List (Addr × Obj)) (σ:St) (Q:VK) (u:Value) (s':Shared):Prop:=∃ v H',Inv X pins σ H' s'∧RelV v u∧Q v H'
def TP (X:Cx) (pins:List (Addr × Obj)) (σ:St) (Q:Bool→Hp→Prop) (b:Bool) (s':Shared):Prop:=∃ H',Inv X pins σ H' s'∧Q b H'
def AP (X:Cx) (pins:List (Addr × Obj)) (σ:St) (Q:List V→Hp→Prop) (us:List Value) (s':Shared):Prop:=∃ vs H',Inv X pins σ H' s'∧Vals vs us∧Q vs H'
def SP (X:Cx) (pins:List (Addr × Obj)) (D:Ends) (f:Flow) (s':Shared):Prop:=
 match f with
 | .next=>∃ σ' H',Inv X pins σ' H' s'∧D.nx σ' H'
 | .brk=>∃ σ' H',Inv X pins σ' H' s'∧D.bk σ' H'
 | .cont=>∃ σ' H',Inv X pins σ' H' s'∧D.ct σ' H'
 | .ret u=>∃ v σ' H',Inv X pins σ' H' s'∧RelV v u∧D.rt v H'
def PE (X:Cx) (e:Expr) (t:TE):Prop:=
 ∀ (pins:List (Addr × Obj)) (s:Shared) (σ:St) (H:Hp) (Q:VK),Inv X pins σ H s→t σ H Q→wpAny (model X.prog X.w) X.A (eval e X.env) (EP X pins σ Q) X.xe s
def PT (X:Cx) (e:Expr) (t:TT):Prop:=
 ∀ (pins:List (Addr × Obj)) (s:Shared) (σ:St) (H:Hp) (Q:Bool→Hp→Prop),Inv X pins σ H s→t σ H Q→wpAny (model X.prog X.w) X.A (isTrue e X.env (eval e X.env)) (TP X pins σ Q) X.xe s
def PW (X:Cx) (e:Expr) (t:TT):Prop:=
 ∀ (whole:Sem Value) (pins:List (Addr × Obj)) (s:Shared) (σ:St) (H:Hp) (Q:Bool→Hp→Prop),Inv X pins σ H s→t σ H Q→wpAny (model X.prog X.w) X.A (isTrue e X.env whole) (TP X pins σ Q) X.xe s
theorem PW.pt {X:Cx} {e:Expr} {t:TT} (h:PW X e t):PT X e t:=h _
def PA (X:Cx) (es:List Expr) (t:TA):Prop:=
 ∀ (pos:Pos) (pins:List (Addr × Obj)) (s:Shared) (σ:St) (H:Hp) (Q:List V→Hp→Prop),Inv X pins σ H s→t σ H Q→wpAny (model X.prog X.w) X.A (spliced (backTo pos (starEach es X.env))) (AP X pins σ Q) X.xe s
def PS (X:Cx) (st:Stmt) (t:TS):Prop:=
 ∀ (pins:List (Addr × Obj)) (s:Shared) (σ:St) (H:Hp) (D:Ends),Inv X pins σ H s→t D σ H→wpAny (model X.prog X.w) X.A (exec st X.env) (SP X pins D) X.xe s
def PSs (X:Cx) (st:List Stmt) (t:TS):Prop:=
 ∀ (pins:List (Addr × Obj)) (s:Shared) (σ:St) (H:Hp) (D:Ends),Inv X pins σ H s→t D σ H→wpAny (model X.prog X.w) X.A (execs st X.env) (SP X pins D) X.xe s
theorem thn {α:Type} {t:Sem α} {Q Q':α→Shared→Prop} {M:Model} {A:Around} {E:Value→Shared→Prop} {s:Shared} (h:wpAny M A t Q E s) (hQ:∀ a s,Q a s→Q' a s):wpAny M A t Q' E s:=wpAny_mono h hQ fun _ _ x=>x
end L2
namespace L2
open PySem PySem.Spec PyProof.Rows
section
variable {X:Cx}
def BS (i:Nat):TE:=fun σ H Q=>∃ v,σ[i]?=some (some v)∧Q v H
def tC (v:V):TE:=fun _ H Q=>Q v H
theorem zO {i:Nat} {x:Str} {pos:Pos} (hN:X.N[i]?=some x) (hv:Vis X.env.scope x) (hd:autoParam ((x == ("__debug__":Str))=false) Au.h2._auto_1) (hcd:autoParam ((x == ("__classdict__":Str))=false) Au.h2._auto_1):PE X (.Name x pos) (BS i):=by
 intro pins s σ H Q I h
 obtain ⟨v,e,h⟩:=h
 obtain ⟨m,hn,hl⟩:=I.loc
 obtain ⟨u,r,l⟩:=hl i x v hN e hv
 have fin:EP X pins σ Q u s:=⟨v,H,I,r,h⟩
 rcases l with ⟨hk,hm⟩ | ⟨hk,c,hc,hcell⟩
 ·exact wpAny_Name (wpAny_loadName_local I.ok.kind hk hn hm fin) hd
 ·rcases hk with hk | hk
  ·exact wpAny_Name (wpAny_loadName_cell I.ok.kind hk hc hcell fin) hd
  ·exact wpAny_Name (wpAny_loadName_free I.ok.kind hk hc hcell fin hcd) hd
theorem zP {i j pos}:PE X (.Constant (.int i) j pos) (tC (.int i)):=fun _ _ _ H _ I h=>wpAny_Constant_int ⟨.int i,H,I.tok _,⟨_,rfl⟩,h⟩
theorem BU {b j pos}:PE X (.Constant (.bool b) j pos) (tC (.bl b)):=fun _ _ _ H _ I h=>Constant_bool ⟨.bl b,H,I,rfl,h⟩
theorem zQ {j pos}:PE X (.Constant .none j pos) (tC .non):=fun _ _ _ H _ I h=>Constant_none ⟨.non,H,I,rfl,h⟩
def Gl (X:Cx) (x:Str):Prop:=X.env.kindOf x=some .globalImplicit
theorem sF {E:Value→Shared→Prop} {pins:List (Addr × Obj)} {s:Shared} {σ:St} {H:Hp} {x:Str} {u:Value} {pos:Pos} {Q:Value→Shared→Prop} (I:Inv X pins σ H s) (hg:Gl X x) (hm:X.mg x=some u) (h:Q u s)
  (hd:autoParam ((x == ("__debug__":Str))=false) Au.h2._auto_1):wpAny (model X.prog X.w) X.A (eval (.Name x pos) X.env) Q E s:=
 Calls.Name_function_global I.ok.kind hg (Calls.loadGlobal_global (by rw [I.ok.glob]; exact I.mod.glob.keeps I.bk) hm h) hd
theorem iB {E:Value→Shared→Prop} {pins:List (Addr × Obj)} {s:Shared} {σ:St} {H:Hp} {x:Str} {u:Value} {pos:Pos} {Q:Value→Shared→Prop} (I:Inv X pins σ H s) (hg:Gl X x) (hm:X.mg x=none) (hv:bootBuiltins x=some u) (h:Q u s)
  (hn:autoParam (x ≠ "__name__") Au.h2._auto_1) (hd:autoParam ((x == ("__debug__":Str))=false) Au.h2._auto_1):wpAny (model X.prog X.w) X.A (eval (.Name x pos) X.env) Q E s:=by
 obtain ⟨mb,h1,h2⟩:=I.mod.blt
 exact Calls.Name_function_global I.ok.kind hg (Calls.loadGlobal_builtin (by rw [I.ok.glob]; exact I.mod.glob.keeps I.bk) hm (by rw [I.ok.blt]; exact h1.keeps I.bk) ((h2 x hn).trans hv) h) hd
theorem sH {x:Str} {v:V} {u:Value} {pos:Pos} (hg:Gl X x) (hm:X.mg x=some u) (r:RelV v u) (hd:autoParam ((x == ("__debug__":Str))=false) Au.h2._auto_1):PE X (.Name x pos) (tC v):=
 fun _ _ _ H _ I h=>sF I hg hm ⟨v,H,I,r,h⟩ hd
theorem xE {x:Str} {v:V} {u:Value} {pos:Pos} (hg:Gl X x) (hm:X.mg x=none) (hv:bootBuiltins x=some u) (r:RelV v u) (hn:autoParam (x ≠ "__name__") Au.h2._auto_1) (hd:autoParam ((x == ("__debug__":Str))=false) Au.h2._auto_1):PE X (.Name x pos) (tC v):=
 fun _ _ _ H _ I h=>iB I hg hm hv ⟨v,H,I,r,h⟩ hn hd
variable {a b:Expr} {ta tb:TE} {pos:Pos}
def tB (t:TE):TT:=fun σ H Q=>t σ H fun x H1=>∃ c,x=.bl c∧Q c H1
theorem zR {e:Expr} {t:TE} (h:PE X e t) (he:autoParam (∀ whole,isTrue e X.env whole=(do let v ← whole; standAt e.pos; holding [v] (truthy v))) Au.h5._auto_1):PT X e (tB t):=by
 intro pins s σ H Q I hw
 refine isTrue_plain (thn (h pins s σ H _ I hw) fun v s1 zq=>?_) (he _)
 obtain ⟨x,H1,I1,r1,q1⟩:=zq
 obtain ⟨d,rfl,q⟩:=q1
 cases r1
 exact wpAny_truthy_bool ⟨H1,I1,q⟩
variable {tA tB':TT} {rest:List Expr}
def oi (t u:TT):TT:=fun σ H Q=>t σ H fun c H1=>if c=true then u σ H1 Q else Q false H1
def tOr (t u:TT):TT:=fun σ H Q=>t σ H fun c H1=>if c=true then Q true H1 else u σ H1 Q
def dG (t:TT):TT:=fun σ H Q=>t σ H fun c H1=>Q (!c) H1
theorem xF (ha:PT X a tA):PW X (.BoolOp .And [a] pos) tA:=by
 intro wh pins s σ H Q I h
 refine isTrue_and (thn (ha pins s σ H Q I h) fun c s1 e=>?_)
 cases c with
 | true=>exact isTrue_and_nil e
 | false=>exact e
theorem zS (ha:PT X a tA):PW X (.BoolOp .Or [a] pos) tA:=by
 intro wh pins s σ H Q I h
 refine isTrue_or (thn (ha pins s σ H Q I h) fun c s1 e=>?_)
 cases c with
 | false=>exact isTrue_or_nil e
 | true=>exact e
theorem zT (ha:PT X a tA) (hb:PW X (.BoolOp .And (b :: rest) pos) tB'):PW X (.BoolOp .And (a :: b :: rest) pos) (oi tA tB'):=by
 intro wh pins s σ H Q I h
 refine isTrue_and (thn (ha pins s σ H _ I h) fun c s1 zq=>?_)
 obtain ⟨H1,I1,q1⟩:=zq
 cases c with
 | true=>exact hb wh pins s1 σ H1 Q I1 q1
 | false=>exact ⟨H1,I1,q1⟩
theorem BV (ha:PT X a tA) (hb:PW X (.BoolOp .Or (b :: rest) pos) tB'):PW X (.BoolOp .Or (a :: b :: rest) pos) (tOr tA tB'):=by
 intro wh pins s σ H Q I h
 refine isTrue_or (thn (ha pins s σ H _ I h) fun c s1 zq=>?_)
 obtain ⟨H1,I1,q1⟩:=zq
 cases c with
 | true=>exact ⟨H1,I1,q1⟩
 | false=>exact hb wh pins s1 σ H1 Q I1 q1
theorem zU (ha:PT X a tA):PT X (.UnaryOp .Not a pos) (dG tA):=by
 intro pins s σ H Q I h
 exact isTrue_not (ha pins s σ H (fun c H1=>Q (!c) H1) I h)
def BW (ta tb:TE):TE:=fun σ H Q=>ta σ H fun x H1=>∃ c,x=.bl c∧if c=true then tb σ H1 Q else Q (.bl false) H1
def C1 (ta tb:TE):TE:=fun σ H Q=>ta σ H fun x H1=>∃ c,x=.bl c∧if c=true then Q (.bl true) H1 else tb σ H1 Q
def BX (ta:TE):TE:=fun σ H Q=>ta σ H fun x H1=>∃ c,x=.bl c∧Q (.bl (!c)) H1
theorem zV {op} {t:TE} (h:PE X a t):PE X (.BoolOp op [a] pos) t:=fun pins s σ H Q I hw=>BoolOp_one (h pins s σ H Q I hw)
theorem zW (ha:PE X a ta) (hb:PE X (.BoolOp .And (b :: rest) pos) tb):PE X (.BoolOp .And (a :: b :: rest) pos) (BW ta tb):=by
 intro pins s σ H Q I h
 refine BoolOp_and (thn (ha pins s σ H _ I h) fun v s1 zq=>?_)
 obtain ⟨x,H1,I1,r1,q1⟩:=zq
 obtain ⟨c,rfl,q1⟩:=q1
 cases r1
 refine wpAny_truthy_bool ?_
 cases c with
 | true=>exact hb pins s1 σ H1 Q I1 q1
 | false=>exact ⟨.bl false,H1,I1,rfl,q1⟩
theorem BY (ha:PE X a ta) (hb:PE X (.BoolOp .Or (b :: rest) pos) tb):PE X (.BoolOp .Or (a :: b :: rest) pos) (C1 ta tb):=by
 intro pins s σ H Q I h
 refine BoolOp_or (thn (ha pins s σ H _ I h) fun v s1 zq=>?_)
 obtain ⟨x,H1,I1,r1,q1⟩:=zq
 obtain ⟨c,rfl,q1⟩:=q1
 cases r1
 refine wpAny_truthy_bool ?_
 cases c with
 | false=>exact hb pins s1 σ H1 Q I1 q1
 | true=>exact ⟨.bl true,H1,I1,rfl,q1⟩
theorem zX (ha:PE X a ta):PE X (.UnaryOp .Not a pos) (BX ta):=by
 intro pins s σ H Q I h
 refine UnaryOp_ (thn (ha pins s σ H _ I h) fun v s1 zq=>?_)
 obtain ⟨x,H1,I1,r1,q1⟩:=zq
 obtain ⟨c,rfl,q1⟩:=q1
 cases r1
 exact not_of (wpAny_truthy_bool ⟨.bl (!c),H1,I1,rfl,q1⟩)
def tIf (t:TT) (ta tb:TE):TE:=fun σ H Q=>t σ H fun c H1=>if c=true then ta σ H1 Q else tb σ H1 Q
theorem vx {c:Expr} (hc:PT X c tA) (ha:PE X a ta) (hb:PE X b tb):PE X (.IfExp c a b pos) (tIf tA ta tb):=by
 intro pins s σ H Q I h
 refine wpAny_IfExp (thn (hc pins s σ H _ I h) fun d s1 zq=>?_)
 obtain ⟨H1,I1,q1⟩:=zq
 cases d with
 | true=>exact ha pins s1 σ H1 Q I1 q1
 | false=>exact hb pins s1 σ H1 Q I1 q1
end
end L2
namespace L2
open PySem PySem.Spec PyProof.Rows
def SqL (K:PySem.W.Frag) (H:Hp) (a:Addr) (xs:List V):Prop:=
 Rd H a (.lst xs) ∨
  ∃ (o:Obj) (its:Array Value) (n:Nat),K.lookup a=some o∧o.cls=.type "list"∧o.dict=none∧o.data=.seq its n∧its.size≤sizeLine∧Vals xs its.toList
def SqT (K:PySem.W.Frag) (H:Hp) (a:Addr) (xs:List V):Prop:=
 Rd H a (.tup xs) ∨
  ∃ (o:Obj) (its:Array Value) (n:Nat),K.lookup a=some o∧o.cls=.type "tuple"∧o.data=.seq its n∧its.size≤sizeLine∧Vals xs its.toList
def C2:Value→Option V
 | .none=>some .non
 | .bool b=>some (.bl b)
 | .int i _=>some (.int i)
 | .str x _=>some (.str x)
 | .bytes b _=>some (.byt b)
 | .float b _=>some (.flt b)
 | .ref a=>some (.ref a)
 | .type n=>some (.ty n)
 | _=>none
theorem RelV.abs {x:V} {u:Value} (r:RelV x u):C2 u=some x:=by
 cases x with
 | non=>cases r; rfl
 | bl _=>cases r; rfl
 | int _=>obtain ⟨t,rfl⟩:=r; rfl
 | str _=>obtain ⟨t,rfl⟩:=r; rfl
 | byt _=>obtain ⟨t,rfl⟩:=r; rfl
 | flt _=>obtain ⟨t,rfl⟩:=r; rfl
 | ref _=>cases r; rfl
 | ty _=>cases r; rfl
theorem RelV.inj {x y:V} {u:Value} (r:RelV x u) (q:RelV y u):x=y:=Option.some.inj (r.abs.symm.trans q.abs)
theorem Vals.inj:∀ {xs ys:List V} {us:List Value},Vals xs us→Vals ys us→xs=ys
 | _,_,_,.nil,.nil=>rfl
 | _,_,_,.cons r t,.cons r' t'=>by rw [r.inj r',Vals.inj t t']
section
variable {X:Cx} {pins:List (Addr × Obj)} {σ:St} {H:Hp} {s:Shared} {a:Addr} {xs ys:List V}
theorem SqL.of {K:PySem.W.Frag} (h:H a=some (.lst xs)):SqL K H a xs:=.inl (.inl h)
theorem SqT.of {K:PySem.W.Frag} (h:H a=some (.tup xs)):SqT K H a xs:=.inl (.inl h)
theorem Inv.list (I:Inv X pins σ H s) (h:SqL X.K H a xs):∃ its:List Value,Vals xs its∧PlainL s.heap a its.toArray∧xs.length≤sizeLine:=by
 rcases h with h | ⟨o,its,n,hk,hc,hd,hs,hz,r⟩
 ·obtain ⟨z,its,n,r,e⟩:=h.ok I.hok
  exact ⟨its,r,⟨_,n,e,rfl,rfl,rfl⟩,z⟩
 ·refine ⟨its.toList,r,⟨o,n,I.kIn a o hk,hc,hd,by simpa using hs⟩,?_⟩
  have e:=r.length
  simp only [Array.length_toList] at e
  omega
theorem Inv.tuple (I:Inv X pins σ H s) (h:SqT X.K H a xs):∃ its:List Value,Vals xs its∧IsTup s.heap a its.toArray∧xs.length≤sizeLine:=by
 rcases h with h | ⟨o,its,n,hk,hc,hs,hz,r⟩
 ·obtain ⟨z,its,r,p⟩:=h.ok I.hok
  exact ⟨its,r,p,z⟩
 ·refine ⟨its.toList,r,⟨o,I.kIn a o hk,hc,n,by simpa using hs⟩,?_⟩
  have e:=r.length
  simp only [Array.length_toList] at e
  omega
theorem Inv.list_inj (I:Inv X pins σ H s) (h:SqL X.K H a xs) (h':SqL X.K H a ys):xs=ys:=by
 obtain ⟨its,r,⟨o,n,e,_,_,d⟩,_⟩:=I.list h
 obtain ⟨its',r',⟨o',n',e',_,_,d'⟩,_⟩:=I.list h'
 rw [e] at e'; cases e'
 rw [d] at d'
 injection d' with d1 _
 have:its=its':=by simpa using congrArg Array.toList d1
 subst this
 exact r.inj r'
theorem Inv.tuple_inj (I:Inv X pins σ H s) (h:SqT X.K H a xs) (h':SqT X.K H a ys):xs=ys:=by
 obtain ⟨its,r,⟨o,e,_,n,d⟩,_⟩:=I.tuple h
 obtain ⟨its',r',⟨o',e',_,n',d'⟩,_⟩:=I.tuple h'
 rw [e] at e'; cases e'
 rw [d] at d'
 injection d' with d1 _
 have:its=its':=by simpa using congrArg Array.toList d1
 subst this
 exact r.inj r'
end
abbrev Cx.wish (X:Cx) (E:Value→Shared→Prop):Cx:={ X with xe:=E }
abbrev Cx.nox (X:Cx):Cx:=X.wish fun _ _=>False
theorem Cx.Ok.wish {X:Cx} (ok:X.Ok) (E:Value→Shared→Prop):(X.wish E).Ok:=
 ⟨ok.mod,ok.kind,ok.glob,ok.blt,ok.above,ok.inj,ok.has,ok.cab,ok.hd,ok.frames,ok.stk,ok.exf,ok.bs,ok.bsz,ok.noex,ok.exfs,ok.funs,ok.frf⟩
theorem Cx.Ok.unwish {X:Cx} {E:Value→Shared→Prop} (ok:(X.wish E).Ok):X.Ok:=
 ⟨ok.mod,ok.kind,ok.glob,ok.blt,ok.above,ok.inj,ok.has,ok.cab,ok.hd,ok.frames,ok.stk,ok.exf,ok.bs,ok.bsz,ok.noex,ok.exfs,ok.funs,ok.frf⟩
section
variable {X:Cx} {pins:List (Addr × Obj)} {σ:St} {H:Hp} {s:Shared} {E:Value→Shared→Prop}
theorem Inv.wish (I:Inv X pins σ H s) (E:Value→Shared→Prop):Inv (X.wish E) pins σ H s:=⟨I.ok.wish E,I.os,I.bare,I.base,I.loc,I.cell,I.free,I.freeC,I.pin,I.hok,I.len⟩
theorem Inv.unwish (I:Inv (X.wish E) pins σ H s):Inv X pins σ H s:=⟨I.ok.unwish,I.os,I.bare,I.base,I.loc,I.cell,I.free,I.freeC,I.pin,I.hok,I.len⟩
theorem SP.unwish {D:Ends} {f:Flow} {s':Shared} (h:SP (X.wish E) pins D f s'):SP X pins D f s':=by
 cases f with
 | next=>obtain ⟨σ',H',I,q⟩:=h; exact ⟨σ',H',I.unwish,q⟩
 | brk=>obtain ⟨σ',H',I,q⟩:=h; exact ⟨σ',H',I.unwish,q⟩
 | cont=>obtain ⟨σ',H',I,q⟩:=h; exact ⟨σ',H',I.unwish,q⟩
 | ret u=>obtain ⟨v,σ',H',I,r,q⟩:=h; exact ⟨v,σ',H',I.unwish,r,q⟩
theorem PSs.nox {st:List Stmt} {t:TS} (h:PSs X.nox st t):PSs X st t:=fun pins s σ H D I hw=>
 wpAny_mono (h pins s σ H D (I.wish _) hw) (fun _ _ q=>q.unwish) fun _ _ z=>False.elim z
end
section
variable {X:Cx} {st:Stmt} {rest:List Stmt} {t u:TS} {e:Expr} {te:TE} {pos:Pos}
def BZ:TS:=fun D σ H=>D.nx σ H
def C3 (t u:TS):TS:=fun D σ H=>t { D with nx:=u D } σ H
theorem xG:PSs X [] BZ:=fun _ _ σ H _ I h=>wpAny_execs_nil ⟨σ,H,I,h⟩
theorem vA (h1:PS X st t) (h2:PSs X rest u):PSs X (st :: rest) (C3 t u):=by
 intro pins s σ H D I h
 refine wpAny_execs_cons (thn (h1 pins s σ H { D with nx:=u D } I h) fun f s1 q=>?_)
 cases f with
 | next=>
  obtain ⟨σ',H',I',q⟩:=q
  exact h2 pins s1 σ' H' D I' q
 | ret v=>exact q
 | brk=>exact q
 | cont=>exact q
theorem xH (h1:PS X st t):PSs X [st] t:=by
 intro pins s σ H D I h
 refine wpAny_execs_cons (thn (h1 pins s σ H D I h) fun f s1 q=>?_)
 cases f with
 | next=>exact wpAny_execs_nil q
 | ret v=>exact q
 | brk=>exact q
 | cont=>exact q
theorem Inv.quiet {pins:List (Addr × Obj)} {σ:St} {H:Hp} {s:Shared} (I:Inv X pins σ H s):interactive X.env=false:=by simp [interactive,I.ok.kind]
def B0 (te:TE):TS:=fun D σ H=>te σ H fun _ H1=>D.nx σ H1
theorem xI (he:PE X e te) (hs:autoParam (swapsWith e none pos.line X.env=pure false) Au.h1._auto_1):PS X (.Expr e pos) (B0 te):=by
 intro pins s σ H D I h
 exact wpAny_Expr_any (thn (he pins s σ H _ I h) fun v s1 zq=>ex5 zq fun x H1 I1 r1 q1=>⟨σ,H1,I1,q1⟩) I.quiet hs
def C4 (te:TE):TS:=fun D σ H=>te σ H D.rt
theorem zY (he:PE X e te):PS X (.Return (some e) pos) (C4 te):=by
 intro pins s σ H D I h
 exact wpAny_Return_some (thn (he pins s σ H _ I h) fun v s1 zq=>ex5 zq fun x H1 I1 r1 q1=>⟨x,σ,H1,I1,r1,q1⟩)
def C5 (c:TT) (t u:TS):TS:=fun D σ H=>c σ H fun b H1=>if b=true then t D σ H1 else u D σ H1
theorem B1 {c:Expr} {a b:List Stmt} {tc:TT} (hc:PT X c tc) (ha:PSs X a t) (hb:PSs X b u):PS X (.If c a b pos) (C5 tc t u):=by
 intro pins s σ H D I h
 refine wpAny_If (thn (hc pins s σ H _ I h) fun d s1 zq=>?_)
 obtain ⟨H1,I1,q1⟩:=zq
 cases d with
 | true=>exact ha pins s1 σ H1 D I1 q1
 | false=>exact hb pins s1 σ H1 D I1 q1
def zZ:TS:=fun _ _ _=>False
theorem vB:PS X st zZ:=fun _ _ _ _ _ _ h=>h.elim
end
abbrev TG:=V→St→Hp→(St→Hp→Prop)→Prop
abbrev TGs:=List V→St→Hp→(St→Hp→Prop)→Prop
def PG (X:Cx) (target:Expr) (t:TG):Prop:=
 ∀ (pins:List (Addr × Obj)) (s:Shared) (σ:St) (H:Hp) (v:V) (u:Value) (Q:St→Hp→Prop),Inv X pins σ H s→RelV v u→t v σ H Q→
  wpAny (model X.prog X.w) X.A (assign target X.env u) (fun _ s'=>∃ σ' H',Inv X pins σ' H' s'∧Q σ' H') X.xe s
def PGs (X:Cx) (ts:List Expr) (t:TGs):Prop:=
 ∀ (pins:List (Addr × Obj)) (s:Shared) (σ:St) (H:Hp) (vs:List V) (us:List Value) (Q:St→Hp→Prop),Inv X pins σ H s→Vals vs us→t vs σ H Q→
  wpAny (model X.prog X.w) X.A (assignInOrder ((assignEach ts X.env).map (·.2)) us) (fun _ s'=>∃ σ' H',Inv X pins σ' H' s'∧Q σ' H') X.xe s
abbrev xJ:=V→V→V→Hp→(Hp→Prop)→Prop
def oj (X:Cx) (t:xJ):Prop:=
 ∀ (pins:List (Addr × Obj)) (s:Shared) (σ:St) (H:Hp) (o i v:V) (ov iv u:Value) (Q:Hp→Prop),Inv X pins σ H s→RelV o ov→RelV i iv→RelV v u→t o i v H Q→
  wpAny (model X.prog X.w) X.A (setItem ov iv u) (fun _ s'=>∃ H',Inv X pins σ H' s'∧Q H') X.xe s
section
variable {X:Cx} {pos:Pos}
def zm (i:Nat):TG:=fun v σ H Q=>Q (σ.set i (some v)) H
theorem xK {i:Nat} {x:Str} (hN:X.N.Nodup) (hi:X.N[i]?=some x) (hx:Loc X.env.scope x) (hf:X.fn x=true ∨ X.env.scope.names.lookup x=some .local):PG X (.Name x pos) (zm i):=by
 intro pins s σ H v u Q I r h
 exact wpAny_assign_Name (jG I hN hi hx r (fun s' I'=>⟨_,H,I',h⟩) hf)
def C6:TGs:=fun vs σ H Q=>vs=[]∧Q σ H
def B3 (t:TG) (u:TGs):TGs:=fun vs σ H Q=>∃ v r,vs=v :: r∧t v σ H fun σ' H'=>u r σ' H' Q
theorem xN:PGs X [] C6:=by
 intro pins s σ H vs us Q I r h
 obtain ⟨e,h⟩:=h
 subst e
 cases r
 exact assignInOrder_nil ⟨σ,H,I,h⟩
theorem vD {e:Expr} {es:List Expr} {t:TG} {u:TGs} (h1:PG X e t) (h2:PGs X es u)
  (hs:autoParam ((assignEach (e :: es) X.env).map (·.2)=assign e X.env :: (assignEach es X.env).map (·.2)) Au.h1._auto_1):PGs X (e :: es) (B3 t u):=by
 intro pins s σ H vs us Q I r h
 obtain ⟨v,vr,e1,h⟩:=h
 subst e1
 cases r with
 | cons r rr=>
  rw [hs]
  refine assignInOrder_cons (thn (h1 pins s σ H _ _ _ I r h) fun _ s1 zq=>?_)
  obtain ⟨σ1,H1,I1,q1⟩:=zq
  exact h2 pins s1 σ1 H1 _ _ Q I1 rr q1
def C7 (K:PySem.W.Frag) (n:Nat) (t:TGs):TG:=fun v σ H Q=>∃ a xs,v=.ref a∧SqT K H a xs∧xs.length=n∧t xs σ H Q
theorem z6 {es:List Expr} {k:Nat} {t:TGs} {n:Nat} (hc:X.calm=true) (h:PGs X es t)
  (hn:autoParam ((assignEach es X.env).length=n) Au.h1._auto_1) (hst:autoParam ((assignEach es X.env).findIdx? (·.1)=none) Au.h1._auto_1):PG X (.Tuple es k pos) (C7 X.K n t):=by
 intro pins s σ H v u Q I r hw
 obtain ⟨a,xs,e1,hq,hl,hw⟩:=hw
 subst e1
 cases r
 obtain ⟨its,rv,ht,hz⟩:=I.tuple hq
 refine assign_Tuple_tuple (I.ok.hd hc) ht (by simp [hn,← hl,rv.length]) hst fun h' hx=>?_
 have I1:Inv X pins σ H { s with heap:=h' }:=I.kept (t':=s.toks) fun b o e=>hx b o (Nat.ne_of_lt (Heap.lt_size e)) e
 exact h pins _ σ H xs _ Q I1 (by simpa using rv) hw
def C8 (to ti:TE) (t:xJ):TG:=fun v σ H Q=>to σ H fun o H1=>ti σ H1 fun i H2=>t o i v H2 fun H3=>Q σ H3
theorem z8 {o i:Expr} {to ti:TE} {t:xJ} (ho:PE X o to) (hi:PE X i ti) (hs:oj X t)
  (ha:autoParam (∀ v,assign (.Subscript o i pos) X.env v=(do
   let ov ← holding [v] (eval o X.env)
   let iv ← holding [v,ov] (eval i X.env)
   standAt pos
   holding [v,ov,iv] (setItem ov iv v)
   release [v,ov,iv] [])) Au.h5._auto_1):PG X (.Subscript o i pos) (C8 to ti t):=by
 intro pins s σ H v u Q I r h
 rw [ha]
 refine wpAny_bind (wpAny_holding (thn (ho pins s σ H _ I h) fun ov s1 zq=>?_))
 obtain ⟨x,H1,I1,r1,q1⟩:=zq
 refine wpAny_bind (wpAny_holding (thn (hi pins s1 σ H1 _ I1 q1) fun iv s2 zq=>?_))
 obtain ⟨y,H2,I2,r2,q2⟩:=zq
 refine wpAny_bind (wpAny_standAt (wpAny_bind (wpAny_holding (thn (hs pins s2 σ H2 x y v ov iv u _ I2 r1 r2 r q2) fun _ s3 zq=>?_))))
 obtain ⟨H3,I3,q3⟩:=zq
 exact wpAny_release ⟨σ,H3,I3,q3⟩
def B4 (te:TE) (g:TG):TS:=fun D σ H=>te σ H fun x H1=>g x σ H1 D.nx
theorem vE {tg e:Expr} {te:TE} {g:TG} (he:PE X e te) (hg:PG X tg g) (hs:autoParam (swapsWithSole [tg] e pos.line X.env=pure false) Au.h1._auto_1) (hw:autoParam (swappedStores [tg] e X.env=pure none) Au.h1._auto_1)
  (h1:autoParam ((assignEach [tg] X.env).map (·.2)=[assign tg X.env]) Au.h1._auto_1):PS X (.Assign [tg] e pos) (B4 te g):=by
 intro pins s σ H D I h
 refine wpAny_Assign_stores (thn (he pins s σ H _ I h) fun v s1 zq=>?_) hs hw
 obtain ⟨x,H1,I1,r1,q1⟩:=zq
 rw [h1]
 exact thn (hg pins s1 σ H1 x v _ I1 r1 q1) fun _ s2 q=>q
theorem Aa {i:Nat} {x:Str} {e:Expr} {te:TE} {pos':Pos} (hN:X.N.Nodup) (hi:X.N[i]?=some x) (hx:Loc X.env.scope x) (he:PE X e te) (hs:autoParam (swapsWith e (some (.Name x pos')) pos.line X.env=pure false) Au.h1._auto_1) (hf:X.fn x=true ∨ X.env.scope.names.lookup x=some .local):
  PS X (.Assign [.Name x pos'] e pos) (B4 te (zm i)):=by
 intro pins s σ H D I h
 refine wpAny_Assign_Name (thn (he pins s σ H _ I h) fun v s1 zq=>?_) hs
 obtain ⟨y,H1,I1,r1,q1⟩:=zq
 exact jG I1 hN hi hx r1 (fun s2 I2=>⟨_,H1,I2,q1⟩) hf
def C9 (i j:Nat) (ta:TA):TS:=fun D σ H=>ta σ H fun vs H1=>∃ v w,vs=[v,w]∧D.nx ((σ.set i (some v)).set j (some w)) H1
theorem Ab {i j:Nat} {x y:Str} {a b:Expr} {ta:TA} {px py pt:Pos} {kt k2 pt2} (hc:X.calm=true) (hN:X.N.Nodup) (hi:X.N[i]?=some x) (hj:X.N[j]?=some y) (hij:i ≠ j)
  (hx:X.env.scope.names.lookup x=some .local) (hy:X.env.scope.names.lookup y=some .local) (ha:PA X [a,b] ta)
  (hw:swappedStores [.Tuple [.Name x px,.Name y py] kt pt] (.Tuple [a,b] k2 pt2) X.env=pure (some [x,y]))
  (hs:autoParam (swapsWithSole [.Tuple [.Name x px,.Name y py] kt pt] (.Tuple [a,b] k2 pt2) pos.line X.env=pure false) Au.h1._auto_1):
  PS X (.Assign [.Tuple [.Name x px,.Name y py] kt pt] (.Tuple [a,b] k2 pt2) pos) (C9 i j ta):=by
 intro pins s σ H D I h
 rw [exec_Assign_arm]
 refine wpAny_bind (wpAny_standAt ?_)
 rw [hs]
 refine wpAny_bind (wpAny_pure ?_)
 rw [if_neg (by decide)]
 refine wpAny_bind (Tuple_ (thn (ha _ pins s σ H _ I h) fun us s1 zq=>?_))
 obtain ⟨vs,H1,I1,r1,q1⟩:=zq
 obtain ⟨v,w,e1,q1⟩:=q1
 subst e1
 obtain ⟨u1,u2,rfl,rv,rw'⟩:∃ u1 u2,us=[u1,u2]∧RelV v u1∧RelV w u2:=by
  cases r1 with
  | cons p q=>
   cases q with
   | cons p' q'=>
    cases q'
    exact ⟨_,_,rfl,p,p'⟩
 refine wpAny_newObj_type ?_ (by show 2≤sizeLine; decide)
 have I2:Inv X pins σ H1 { s1 with heap:=s1.heap.push { cls:=.type "tuple",data:=.seq [u1,u2].toArray } }:=I1.kept (t':=s1.toks) fun b o e=>Heap.get?_push_of_some _ e
 rw [hw]
 refine wpAny_bind (wpAny_pure ?_)
 show wpAny (model X.prog X.w) X.A (do rule "assign.swapped-stores"; let items ← unpackItems (.ref s1.heap.objs.size) 2 none; assignInOrder [fun v=>bindName X.env y v,fun v=>bindName X.env x v] items.reverse; pure Flow.next) _ _ _
 refine wpAny_bind (wpAny_rule (wpAny_bind (unpackItems_tuple (items:=#[u1,u2]) (I.ok.hd hc) (IsTup.new s1.heap _) fun h' hx'=>?_)))
 have I3:=I2.kept (h':=h') (t':=s1.toks) fun b o e=>hx' b o (Nat.ne_of_lt (Heap.lt_size e)) e
 show wpAny _ _ (assignInOrder [fun v=>bindName X.env y v,fun v=>bindName X.env x v] [u2,u1] >>= fun _=>pure Flow.next) _ _ _
 refine wpAny_bind (assignInOrder_cons (wpAny_bindName (jG I3 hN hj (.inl hy) rw' (fun s2 I4=>?_) (.inr hy))))
 refine assignInOrder_cons (wpAny_bindName (jG I4 hN hi (.inl hx) rv (fun s3 I5=>assignInOrder_nil (wpAny_pure ?_)) (.inr hx)))
 rw [List.set_comm _ _ (Ne.symm hij)] at I5
 exact ⟨_,H1,I5,q1⟩
end
section
variable {X:Cx} {pos:Pos}
def Ac (c:TT) (tb:TS):TS:=fun D σ H=>∃ W:Nat→St→Hp→Prop,(∃ m,W m σ H)∧∀ m σ H,W m σ H→
 c σ H fun b H1=>if b=true then ∃ N:St→Hp→Prop,(∀ σ' H',N σ' H'→∃ m',m' < m∧W m' σ' H')∧tb { D with nx:=N,ct:=N,bk:=D.nx } σ H1 else D.nx σ H1
theorem vF {c:Expr} {body:List Stmt} {tc:TT} {tb:TS} (hp:PassesOwn (model X.prog X.w) X.A X.env X.xe) (hc:PT X c tc) (hb:PSs X body tb):PS X (.While c body [] pos) (Ac tc tb):=by
 intro pins s σ H D I h
 obtain ⟨W,⟨m0,w0⟩,turn⟩:=h
 refine wpAny_While (codeAny_whileLoop (fun n s'=>∃ σ' H',Inv X pins σ' H' s'∧W n σ' H') ?_ m0 ⟨σ,H,I,w0⟩)
 rintro n s1 ⟨σ1,H1,I1,w1⟩
 refine wpAny_passesOwn hp (thn (hc pins s1 σ1 H1 _ I1 (turn n σ1 H1 w1)) fun b s2 zq=>?_)
 obtain ⟨H2,I2,q2⟩:=zq
 cases b with
 | true=>
  obtain ⟨N,hN,q2⟩:=q2
  rw [if_pos rfl]
  refine wpAny_passesOwn hp (thn (hb pins s2 σ1 H2 _ I2 q2) fun f s3 q3=>?_)
  cases f with
  | next=>
   obtain ⟨σ3,H3,I3,n3⟩:=q3
   obtain ⟨m',hm,w3⟩:=hN σ3 H3 n3
   exact ⟨m',hm,σ3,H3,I3,w3⟩
  | cont=>
   obtain ⟨σ3,H3,I3,n3⟩:=q3
   obtain ⟨m',hm,w3⟩:=hN σ3 H3 n3
   exact ⟨m',hm,σ3,H3,I3,w3⟩
  | brk=>exact q3
  | ret v=>exact q3
 | false=>
  rw [if_neg Bool.false_ne_true]
  exact wpAny_execs_nil ⟨σ1,H2,I2,q2⟩
end
set_option genInjectivity false in
structure It where
 go:Nat→Hp→Prop
 yld:Nat→Hp→V→Hp→Prop
 stop:Nat→Hp→Prop
def FpOk (X:Cx) (pins:List (Addr × Obj)) (H:Hp) (b:Addr):Prop:=
 H b=none∧b ≠ X.env.locals∧b ∉ X.fs∧(b ∈ X.ex ∨ X.s₀.heap.objs.size≤b)∧(∀ x c,X.env.cells.lookup x=some c→c ≠ b)∧∀ p ∈ X.pn ++ pins,p.1 ≠ b
theorem Inv.fpOk {X:Cx} {pins:List (Addr × Obj)} {σ:St} {H H':Hp} {s:Shared} {b:Addr} (I:Inv X pins σ H s) (hb:s.heap.objs.size≤b) (hn:H' b=none):FpOk X pins H' b:=by
 refine ⟨hn,Nat.ne_of_gt (Nat.lt_of_lt_of_le I.lt hb),I.nofs hb,.inr (Nat.le_trans I.sz hb),fun x c e z=>?_,fun p hp z=>?_⟩
 ·obtain ⟨v,q⟩:=I.cell x c e
  exact absurd (Nat.lt_of_lt_of_le q.lt (by rw [z]; exact hb)) (Nat.lt_irrefl _)
 ·exact absurd (Nat.lt_of_lt_of_le (Heap.lt_size (I.pin p hp).1) (by rw [z]; exact hb)) (Nat.lt_irrefl _)
def QtH (X:Cx):Prop:=X.A.handled=none ∨ ∃ a o u,X.A.handled=some (.ref a)∧X.H₀ a=some (.frz o u)∧ZO o
def Cd (qb:Bool) (X:Cx):Prop:=X.calm=true ∨ (qb=true∧QtH X)
theorem Cd.cm {X:Cx} (h:Cd false X):X.calm=true:=h.elim id fun z=>nomatch z.1
theorem Inv.qt {X:Cx} {pins:List (Addr × Obj)} {σ:List (Option V)} {H:Hp} {s:Shared} {qb:Bool} (I:Inv X pins σ H s) (h:Cd qb X):X.A.handled=none ∨ ∃ a,X.A.handled=some (.ref a)∧s.heap.Zat a:=by
 rcases h with h | ⟨_,h | ⟨a,o,u,e,q,z⟩⟩
 ·exact .inl (I.ok.hd h)
 ·exact .inl h
 ·exact .inr ⟨a,e,o,(I.hok a _ (I.base.frzs a o u q)).1,z⟩
structure Turn (qb:Bool) (P:Program) (w:World) (K:PySem.W.Frag) (tg:Expr) (J:It) (fp:List Addr) (it:Addr) (tn:Nat→Heap→Prop):Prop where
 mem:it ∈ fp
 obj:∀ i h,tn i h→∀ b ∈ fp,∃ o,h.get? b=some o∧∀ v,o.data ≠ .cell v
 keep:∀ i h h',tn i h→(∀ b ∈ fp,∀ o,h.get? b=some o→h'.get? b=some o)→tn i h'
 item:∀ (X:Cx),X.prog=P→X.w=w→X.K=K→Cd qb X→∀ (i:Nat) (pins:List (Addr × Obj)) (s:Shared) (σ:St) (H:Hp) (E:Value→Shared→Prop),Inv X pins σ H s→(∀ b ∈ fp,FpOk X pins H b)→tn i s.heap→J.go i H→
  wpAny (model P w) X.A (pyNext (.ref it)) (fun r s1=>∃ u,r=some u∧
   wpAny (model P w) X.A (letOwnedTupleGo tg (.ref it) u) (fun _ s2=>∃ x H',Inv X pins σ H' s2∧RelV x u∧J.yld i H x H'∧tn (i + 1) s2.heap∧∀ b ∈ fp,H' b=none) E s1) E s
 done:∀ (X:Cx),X.prog=P→X.w=w→X.K=K→Cd qb X→∀ (i:Nat) (pins:List (Addr × Obj)) (s:Shared) (σ:St) (H:Hp) (E:Value→Shared→Prop),Inv X pins σ H s→(∀ b ∈ fp,FpOk X pins H b)→tn i s.heap→J.stop i H→
  wpAny (model P w) X.A (pyNext (.ref it)) (fun r s1=>r=none∧Inv X pins σ H s1) E s
 self:∀ (A:Around) (i:Nat) (s:Shared) (Q:Value→Shared→Prop) (E:Value→Shared→Prop),tn i s.heap→Q (.ref it) s→wpAny (model P w) A (pyIter (.ref it)) Q E s
abbrev TI:=St→Hp→(It→Hp→Prop)→Prop
def Ad (qb:Bool) (X:Cx) (pins:List (Addr × Obj)) (σ:St) (tg:Expr) (R:It→Hp→Prop) (itv:Value) (s2:Shared):Prop:=
 ∃ (it:Addr) (fp:List Addr) (tn:Nat→Heap→Prop) (J:It) (H':Hp),itv=.ref it∧Inv X pins σ H' s2∧Turn qb X.prog X.w X.K tg J fp it tn∧tn 0 s2.heap∧(∀ b ∈ fp,FpOk X pins H' b)∧R J H'
def PIb (qb:Bool) (X:Cx) (tg iter:Expr) (wi:TI):Prop:=
 ∀ (pins:List (Addr × Obj)) (s:Shared) (σ:St) (H:Hp) (R:It→Hp→Prop),Inv X pins σ H s→wi σ H R→
  wpAny (model X.prog X.w) X.A (eval iter X.env) (fun v s1=>wpAny (model X.prog X.w) X.A (pyIter v) (Ad qb X pins σ tg R) X.xe s1) X.xe s
abbrev PIE:=Ad false
abbrev PI:=PIb false
theorem pP {M:Model} {A:Around} {E:Value→Shared→Prop} {s:Shared} {tg:Expr} {it:Addr} {u:Value} {o:Obj} {n:String} {vs:Array Value} {Q:Unit→Shared→Prop} (ho:s.heap.get? it=some o) (hc:o.cls=.type n) (hd:o.data=.fields vs)
    (hn:["enumerate","zip","dict_itemiterator","dict_reverseitemiterator","odict_iterator","itertools.zip_longest","itertools.pairwise"].contains n=false) (hQ:Q () s):wpAny M A (letOwnedTupleGo tg (.ref it) u) Q E s:=by
  unfold letOwnedTupleGo
  cases tg <;> first
    | exact wpAny_pure hQ
    | (cases u <;> first
        | exact wpAny_pure hQ
        | (refine wpAny_bind (wpAny_load ho ?_)
           rw [hc,hd]
           show wpAny M A (if (["enumerate","zip","dict_itemiterator","dict_reverseitemiterator","odict_iterator","itertools.zip_longest","itertools.pairwise"].contains n && vs[0]? == some (rawInt _))=true then _ else _) Q E s
           rw [if_neg (by intro h; rw [hn,Bool.false_and] at h; cases h)]
           exact wpAny_pure hQ))
def Itl (K:PySem.W.Frag) (a:Addr):It:=
 ⟨fun i H=>∃ xs x,SqL K H a xs∧xs[i]?=some x,fun i H x H'=>H'=H∧∀ xs,SqL K H a xs→xs[i]?=some x,fun i H=>∃ xs,SqL K H a xs∧xs.length≤i⟩
def Itt (K:PySem.W.Frag) (a:Addr):It:=
 ⟨fun i H=>∃ xs x,SqT K H a xs∧xs[i]?=some x,fun i H x H'=>H'=H∧∀ xs,SqT K H a xs→xs[i]?=some x,fun i H=>∃ xs,SqT K H a xs∧xs.length≤i⟩
def Itr (lo:Int) (n:Nat):It:=⟨fun i _=>i < n,fun i H x H'=>H'=H∧x=.int (lo + i),fun i _=>n≤i⟩
theorem ni {P:Program} {w:World} {K:PySem.W.Frag} {tg:Expr} (a it:Addr):Turn false P w K tg (Itl K a) [it] it (fun i h=>h.IsListIter it a i) where
 mem:=by simp
 obj:=fun i h st b hb=>by
  have e:b=it:=by simpa using hb
  subst e
  obtain ⟨o,e,c,d⟩:=st
  exact ⟨o,e,fun v z=>by rw [d] at z; cases z⟩
 keep:=fun i h h' st k=>st.at fun o e=>k it (by simp) o e
 item:=by
  intro X hP hw hK hc i pins s σ H E I hf st hg
  subst hP hw hK
  obtain ⟨xs,x,hq,hx⟩:=hg
  obtain ⟨its,rv,p,hz⟩:=I.list hq
  obtain ⟨u,hu,ru⟩:=rv.get hx
  obtain ⟨f0,f1,f2,f3,f4,f5⟩:=hf it (by simp)
  refine wpAny_pyNext_list_item st p.isList (x:=u) (by simpa using hu) fun h' st' sb=>?_
  have I1:Inv X pins σ H { s with heap:=h' }:=I.turned (t':=s.toks) (fun b o hb e=>(sb.2 b hb).trans e) f0 f1 f3 f4 f5
  obtain ⟨o,e,c,d⟩:=id st'
  exact ⟨u,rfl,pP (s:={ s with heap:=h' }) e c d (by decide) ⟨x,H,I1,ru,⟨rfl,fun ys hy=>by rw [I.list_inj hy hq]; exact hx⟩,st',fun b hb=>(hf b hb).1⟩⟩
 done:=by
  intro X hP hw hK hc i pins s σ H E I hf st hg
  subst hP hw hK
  obtain ⟨xs,hq,hx⟩:=hg
  obtain ⟨its,rv,p,hz⟩:=I.list hq
  obtain ⟨f0,f1,f2,f3,f4,f5⟩:=hf it (by simp)
  have hl:=rv.length
  exact wpAny_pyNext_list_end (I.ok.hd hc.cm) st p.isList (by simp; omega) fun h' eb=>⟨rfl,I.turned (t':=s.toks) (fun b o hb e=>eb b o hb e) f0 f1 f3 f4 f5⟩
 self:=fun _ _ _ _ _ st h=>wpAny_pyIter_listiter st h
theorem rH {P:Program} {w:World} {K:PySem.W.Frag} {tg:Expr} (a it:Addr):Turn false P w K tg (Itt K a) [it] it (fun i h=>h.IsTupleIter it a i) where
 mem:=by simp
 obj:=fun i h st b hb=>by
  have e:b=it:=by simpa using hb
  subst e
  obtain ⟨o,e,c,d⟩:=st
  exact ⟨o,e,fun v z=>by rw [d] at z; cases z⟩
 keep:=fun i h h' st k=>st.at fun o e=>k it (by simp) o e
 item:=by
  intro X hP hw hK hc i pins s σ H E I hf st hg
  subst hP hw hK
  obtain ⟨xs,x,hq,hx⟩:=hg
  obtain ⟨its,rv,p,hz⟩:=I.tuple hq
  obtain ⟨u,hu,ru⟩:=rv.get hx
  obtain ⟨f0,f1,f2,f3,f4,f5⟩:=hf it (by simp)
  refine wpAny_pyNext_tuple_item st (show s.heap.IsTuple a its.toArray from p) (x:=u) (by simpa using hu) fun h' st' sb=>?_
  have I1:Inv X pins σ H { s with heap:=h' }:=I.turned (t':=s.toks) (fun b o hb e=>(sb.2 b hb).trans e) f0 f1 f3 f4 f5
  obtain ⟨o,e,c,d⟩:=id st'
  exact ⟨u,rfl,pP (s:={ s with heap:=h' }) e c d (by decide) ⟨x,H,I1,ru,⟨rfl,fun ys hy=>by rw [I.tuple_inj hy hq]; exact hx⟩,st',fun b hb=>(hf b hb).1⟩⟩
 done:=by
  intro X hP hw hK hc i pins s σ H E I hf st hg
  subst hP hw hK
  obtain ⟨xs,hq,hx⟩:=hg
  obtain ⟨its,rv,p,hz⟩:=I.tuple hq
  obtain ⟨f0,f1,f2,f3,f4,f5⟩:=hf it (by simp)
  have hl:=rv.length
  exact wpAny_pyNext_tuple_end (I.ok.hd hc.cm) st (show s.heap.IsTuple a its.toArray from p) (by simp; omega) fun h' eb=>⟨rfl,I.turned (t':=s.toks) (fun b o hb e=>eb b o hb e) f0 f1 f3 f4 f5⟩
 self:=fun _ _ _ _ _ st h=>wpAny_pyIter_tupleiter st h
theorem rJ {qb:Bool} {P:Program} {w:World} {K:PySem.W.Frag} {tg:Expr} (it:Addr) (lo:Int) (n:Nat):Turn qb P w K tg (Itr lo n) [it] it (fun i h=>IsRangeIter h it (lo + (i:Nat) * 1) ((n:Int) - (i:Nat)) 1) where
 mem:=by simp
 obj:=fun i h st b hb=>by
  have e:b=it:=by simpa using hb
  subst e
  exact ⟨_,st,fun v z=>by
   have z':Data.fields _=Data.cell v:=z
   cases z'⟩
 keep:=fun i h h' st k=>k it (by simp) _ st
 item:=by
  intro X hP hw hK hc i pins s σ H E I hf st hg
  subst hP hw hK
  obtain ⟨f0,f1,f2,f3,f4,f5⟩:=hf it (by simp)
  have hg':(i:Nat) < n:=hg
  refine wpAny_pyNext_range_item st (by omega) fun h' st' kk=>?_
  have I1:Inv X pins σ H { s with heap:=h',toks:=s.toks + 1 }:=I.turned (fun b o hb e=>(kk.2 b hb).trans e) f0 f1 f3 f4 f5
  have st2:IsRangeIter h' it (lo + ((i + 1:Nat):Int) * 1) ((n:Int) - ((i + 1:Nat):Int)) 1:=by
   have e1:lo + ((i + 1:Nat):Int) * 1=lo + (i:Nat) * 1 + 1:=by omega
   have e2:(n:Int) - ((i + 1:Nat):Int)=(n:Int) - (i:Nat) - 1:=by omega
   rw [e1,e2]; exact st'
  refine ⟨_,rfl,pP (s:={ s with heap:=h',toks:=s.toks + 1 }) (n:="range_iterator") st2 rfl rfl (by decide) ⟨.int (lo + i),H,I1,⟨s.toks,?_⟩,⟨rfl,rfl⟩,st2,fun b hb=>(hf b hb).1⟩⟩
  rw [Int.mul_one]
 done:=by
  intro X hP hw hK hc i pins s σ H E I hf st hg
  subst hP hw hK
  obtain ⟨f0,f1,f2,f3,f4,f5⟩:=hf it (by simp)
  have hg':n≤i:=hg
  rcases I.qt hc with hh | ⟨ha,hh,z⟩
  ·exact wpAny_pyNext_range_end hh st (by omega) fun h' eb=>⟨rfl,I.turned (t':=s.toks) (fun b o hb e=>eb b o hb e) f0 f1 f3 f4 f5⟩
  ·exact uf hh z st (by omega) fun h' eb=>⟨rfl,I.turned (t':=s.toks) (fun b o hb e=>eb b o hb e) f0 f1 f3 f4 f5⟩
 self:=fun _ _ _ _ _ st h=>wpAny_pyIter_rangeiter st h
end L2
namespace L2
open PySem PySem.Spec PyProof.Rows
section
variable {X:Cx} {tg:Expr}
def B5 (K:PySem.W.Frag) (tl:TE):TI:=fun σ H R=>tl σ H fun x H1=>∃ a,x=.ref a∧(∃ xs,SqL K H1 a xs)∧R (Itl K a) H1
def Dc (K:PySem.W.Frag) (tl:TE):TI:=fun σ H R=>tl σ H fun x H1=>∃ a,x=.ref a∧(∃ xs,SqT K H1 a xs)∧R (Itt K a) H1
theorem xP {l:Expr} {tl:TE} (hl:PE X l tl):PI X tg l (B5 X.K tl):=by
 intro pins s σ H R I h
 refine thn (hl pins s σ H _ I h) fun v s1 zq=>?_
 obtain ⟨x,H1,I1,r1,q1⟩:=zq
 obtain ⟨a,e,⟨xs,hq⟩,q⟩:=q1
 subst e
 cases r1
 obtain ⟨its,rv,p,hz⟩:=I1.list hq
 refine wpAny_pyIter_list p.isList ?_
 refine ⟨s1.heap.objs.size,[s1.heap.objs.size],_,_,H1,rfl,I1.kept (t':=s1.toks) fun b o e=>Heap.get?_push_of_some _ e,ni a _,⟨_,Heap.get?_push_size _ rfl,rfl,rfl⟩,fun b hb=>?_,q⟩
 have e:b=s1.heap.objs.size:=by simpa using hb
 subst e
 exact I1.fpOk (Nat.le_refl _) (I1.hok.fresh (Nat.le_refl _))
theorem Ae {l:Expr} {tl:TE} (hl:PE X l tl):PI X tg l (Dc X.K tl):=by
 intro pins s σ H R I h
 refine thn (hl pins s σ H _ I h) fun v s1 zq=>?_
 obtain ⟨x,H1,I1,r1,q1⟩:=zq
 obtain ⟨a,e,⟨xs,hq⟩,q⟩:=q1
 subst e
 cases r1
 obtain ⟨its,rv,p,hz⟩:=I1.tuple hq
 refine wpAny_pyIter_tuple (show s1.heap.IsTuple a its.toArray from p) ?_
 refine ⟨s1.heap.objs.size,[s1.heap.objs.size],_,_,H1,rfl,I1.kept (t':=s1.toks) fun b o e=>Heap.get?_push_of_some _ e,rH a _,⟨_,Heap.get?_push_size _ rfl,rfl,rfl⟩,fun b hb=>?_,q⟩
 have e:b=s1.heap.objs.size:=by simpa using hb
 subst e
 exact I1.fpOk (Nat.le_refl _) (I1.hok.fresh (Nat.le_refl _))
theorem pQ {qb:Bool} {pins:List (Addr × Obj)} {σ:St} {H:Hp} {s:Shared} {R:It→Hp→Prop} {E:Value→Shared→Prop} {lo hi:Int} {t u v:Tok} {tk:Nat} (I:Inv X pins σ H s) (h1:-(2 ^ 62)≤lo) (h2:lo < 2 ^ 62) (h3:-(2 ^ 62)≤hi) (h4:hi < 2 ^ 62)
  (q:R (Itr lo (hi - lo).toNat) H):wpAny (model X.prog X.w) X.A (pyIter (.ref s.heap.objs.size)) (Ad qb X pins σ tg R) E { s with heap:=s.heap.push { cls:=.type "range",data:=.fields #[.int lo t,.int hi u,.int 1 v] },toks:=tk }:=by
 refine wpAny_pyIter_range (IsRange.new ..) (small_one h1 h2 h3 h4) ?_
 have I1:Inv X pins σ H { s with heap:=s.heap.push { cls:=.type "range",data:=.fields #[.int lo t,.int hi u,.int 1 v] },toks:=tk }:=I.kept fun b o e=>Heap.get?_push_of_some _ e
 refine ⟨(s.heap.push { cls:=.type "range",data:=.fields #[.int lo t,.int hi u,.int 1 v] }).objs.size,[(s.heap.push { cls:=.type "range",data:=.fields #[.int lo t,.int hi u,.int 1 v] }).objs.size],_,_,H,rfl,
  I1.kept (t':=tk) fun b o e=>Heap.get?_push_of_some _ e,rJ _ lo (hi - lo).toNat,?_,fun b hb=>?_,q⟩
 ·have e1:lo + ((0:Nat):Int) * 1=lo:=by simp
  have e2:(((hi - lo).toNat:Nat):Int) - ((0:Nat):Int)=Builtin.Range.rangeSize lo hi 1:=by rw [rangeSize_one]; split <;> omega
  show IsRangeIter _ _ (lo + ((0:Nat):Int) * 1) ((((hi - lo).toNat:Nat):Int) - ((0:Nat):Int)) 1
  rw [e1,e2]
  exact Heap.get?_push_size _ rfl
 ·have e:b=(s.heap.push { cls:=.type "range",data:=.fields #[.int lo t,.int hi u,.int 1 v] }).objs.size:=by simpa using hb
  subst e
  exact I1.fpOk (Nat.le_refl _) (I1.hok.fresh (Nat.le_refl _))
def B6 (ta:TA):TI:=fun σ H R=>ta σ H fun vs H1=>∃ j:Int,vs=[.int j]∧-(2 ^ 62)≤j∧j < 2 ^ 62∧R (Itr 0 j.toNat) H1
def B7 (ta:TA):TI:=fun σ H R=>ta σ H fun vs H1=>∃ i j:Int,vs=[.int i,.int j]∧(-(2 ^ 62)≤i∧i < 2 ^ 62∧-(2 ^ 62)≤j∧j < 2 ^ 62)∧R (Itr i (j - i).toNat) H1
theorem um {qb:Bool} {a:Expr} {ta:TA} {p pos:Pos} (hg:Gl X "range") (hm:X.mg "range" = none) (ha:PA X [a] ta) (hs:autoParam (starEach [a] X.env=[(false,eval a X.env)]) Au.h1._auto_1):PIb qb X tg (.Call (.Name "range" p) [a] [] pos) (B6 ta):=by
 intro pins s σ H R I h
 refine Call_ (iB I hg hm boot_range (PyProof.Rows.callWith_type1 (thn (ha pos pins s σ H _ I h) fun us s1 zq=>?_) hs rfl))
 obtain ⟨vs,H1,I1,r1,q1⟩:=zq
 obtain ⟨j,e,q1,q2,q⟩:=q1
 subst e
 cases r1 with
 | cons r rr=>
  cases rr
  obtain ⟨t,rfl⟩:=r
  exact call_range_1 (pQ I1 (by omega) (by omega) q1 q2 (by simpa using q))
theorem uo {a b:Expr} {ta:TA} {p pos:Pos} (hg:Gl X "range") (hm:X.mg "range" = none) (ha:PA X [a,b] ta) (hs:autoParam (starEach [a,b] X.env=[(false,eval a X.env),(false,eval b X.env)]) Au.h1._auto_1) (hs2:autoParam (starEach [b] X.env=[(false,eval b X.env)]) Au.h1._auto_1):
  PI X tg (.Call (.Name "range" p) [a,b] [] pos) (B7 ta):=by
 intro pins s σ H R I h
 refine Call_ (iB I hg hm boot_range (PyProof.Rows.callWith_type1 (thn (ha pos pins s σ H _ I h) fun us s1 zq=>?_) (by rw [hs,hs2]) (by rw [hs2]; rfl)))
 obtain ⟨vs,H1,I1,r1,q1⟩:=zq
 obtain ⟨i,j,e,⟨q1,q2,q3,q4⟩,q⟩:=q1
 subst e
 cases r1 with
 | cons r rr=>
  cases rr with
  | cons r' rr=>
   cases rr
   obtain ⟨t,rfl⟩:=r
   obtain ⟨t',rfl⟩:=r'
   exact call_range_2 (pQ I1 q1 q2 q3 q4 q)
def Dd (wi:TI) (g:TG) (tb:TS):TS:=fun D σ H=>wi σ H fun J H1=>∃ W:Nat→Nat→St→Hp→Prop,(∃ m,W 0 m σ H1)∧∀ i m σ H,W i m σ H→
 (J.stop i H∧D.nx σ H) ∨ (J.go i H∧∃ N:St→Hp→Prop,(∀ σ' H',N σ' H'→∃ m',m' < m∧W (i + 1) m' σ' H')∧∀ x H',J.yld i H x H'→g x σ H' fun σ2 H2=>tb { D with nx:=N,ct:=N,bk:=D.nx } σ2 H2)
def lD (fp:List Addr) (h:Heap):List (Addr × Obj):=fp.filterMap fun b=>(h.get? b).map fun o=>(b,o)
theorem gX {fp:List Addr} {h:Heap} {b:Addr} {o:Obj} (hb:b ∈ fp) (e:h.get? b=some o):(b,o) ∈ lD fp h:=List.mem_filterMap.mpr ⟨b,hb,by rw [e]; rfl⟩
theorem uq {fp:List Addr} {h:Heap} {p:Addr × Obj} (hp:p ∈ lD fp h):p.1 ∈ fp∧h.get? p.1=some p.2:=by
 obtain ⟨b,hb,e⟩:=List.mem_filterMap.mp hp
 cases q:h.get? b with
 | none=>rw [q] at e; cases e
 | some o=>
  rw [q] at e
  have e':(b,o)=p:=Option.some.inj e
  subst e'
  exact ⟨hb,q⟩
theorem Inv.pinned {pins:List (Addr × Obj)} {σ:St} {H:Hp} {s:Shared} {fp:List Addr} (I:Inv X pins σ H s) (hf:∀ b ∈ fp,FpOk X pins H b) (ho:∀ b ∈ fp,∃ o,s.heap.get? b=some o∧∀ v,o.data ≠ .cell v):Inv X (pins ++ lD fp s.heap) σ H s:=
 I.pins_of fun p hp=>(List.mem_append.mp hp).elim (fun z=>I.pin p (List.mem_append_right _ z)) fun z=>by
  obtain ⟨hb,e⟩:=uq z
  obtain ⟨f0,f1,f2,_⟩:=hf p.1 hb
  obtain ⟨o,e',d⟩:=ho p.1 hb
  rw [e] at e'; cases e'
  exact ⟨e,f0,f1,f2,d⟩
theorem Inv.unpinned {pins pl:List (Addr × Obj)} {σ:St} {H:Hp} {s:Shared} (I:Inv X (pins ++ pl) σ H s):Inv X pins σ H s:=I.pins_of fun p hp=>I.pin p (List.mem_append_right _ (List.mem_append_left _ hp))
theorem Af {iter:Expr} {body:List Stmt} {wi:TI} {g:TG} {tb:TS} {pos:Pos} (hp:PassesOwn (model X.prog X.w) X.A X.env X.xe) (hc:X.calm=true) (hi:PI X tg iter wi) (hg:PG X tg g) (hb:PSs X body tb)
  (hs:autoParam (∀ x,foldedSetIterable iter X.env x=pure x) Au.h5._auto_1):PS X (.For tg iter body [] pos) (Dd wi g tb):=by
 intro pins s σ H D I h
 refine wpAny_For (thn (hi pins s σ H _ I h) fun v s1 h1=>thn h1 fun itv s2 h2=>?_) hs
 obtain ⟨it,fp,tn,J,H2,e,I2,T,st2,f2,W,⟨m0,w0⟩,turn⟩:=h2
 subst e
 -- what stays true of the iterator's objects through the loop
 have stat:∀ {H':Hp},(∀ b ∈ fp,H' b=none)→∀ b ∈ fp,FpOk X pins H' b:=fun hn b hb=>⟨hn b hb,(f2 b hb).2⟩
 refine codeAny_forLoop_any (fun n s'=>∃ i σ' H',Inv X pins σ' H' s'∧tn i s'.heap∧(∀ b ∈ fp,H' b=none)∧W i n σ' H') ?_ m0 ⟨0,σ,H2,I2,st2,fun b hb=>(f2 b hb).1,w0⟩
 rintro n s3 ⟨i,σ3,H3,I3,st3,fr3,w3⟩
 rcases turn i n σ3 H3 w3 with ⟨stop,qn⟩ | ⟨go,N,hN,step⟩
 ·refine wpAny_passesOwn hp (thn (T.done X rfl rfl rfl (.inl hc) i pins s3 σ3 H3 X.xe I3 (stat fr3) st3 stop) fun r s4 zq=>?_)
  obtain ⟨hr,I4⟩:=zq
  subst hr
  exact wpAny_execs_nil ⟨σ3,H3,I4,qn⟩
 ·refine wpAny_passesOwn hp (thn (T.item X rfl rfl rfl (.inl hc) i pins s3 σ3 H3 X.xe I3 (stat fr3) st3 go) fun r s4 zq=>?_)
  obtain ⟨u,hr,h4⟩:=zq
  subst hr
  refine wpAny_passesOwn hp (thn h4 fun _ s5 zq=>?_)
  obtain ⟨x,H5,I5,r5,y5,st5,fr5⟩:=zq
  have I5':=I5.pinned (stat fr5) (T.obj _ _ st5)
  refine wpAny_passesOwn hp (thn (hg _ s5 σ3 H5 x u _ I5' r5 (step x H5 y5)) fun _ s6 zq=>?_)
  obtain ⟨σ6,H6,I6,q6⟩:=zq
  refine wpAny_passesOwn hp (thn (hb _ s6 σ6 H6 _ I6 q6) fun f s7 q7=>?_)
  have again:∀ {σ7:St} {H7:Hp},Inv X (pins ++ lD fp s5.heap) σ7 H7 s7→N σ7 H7→∃ m,m < n∧∃ i σ' H',Inv X pins σ' H' s7∧tn i s7.heap∧(∀ b ∈ fp,H' b=none)∧W i m σ' H':=fun {σ7 H7} I7 n7=>by
   obtain ⟨m',hm,w7⟩:=hN σ7 H7 n7
   refine ⟨m',hm,i + 1,σ7,H7,I7.unpinned,T.keep _ _ _ st5 fun b hb o e=>(I7.pin (b,o) (List.mem_append_right _ (List.mem_append_right _ (gX hb e)))).1,fun b hb=>?_,w7⟩
   obtain ⟨o,e,d⟩:=T.obj _ _ st5 b hb
   exact (I7.pin (b,o) (List.mem_append_right _ (List.mem_append_right _ (gX hb e)))).2.1
  cases f with
  | next=>obtain ⟨σ7,H7,I7,n7⟩:=q7; exact again I7 n7
  | cont=>obtain ⟨σ7,H7,I7,n7⟩:=q7; exact again I7 n7
  | brk=>obtain ⟨σ7,H7,I7,q7⟩:=q7; exact ⟨σ7,H7,I7.unpinned,q7⟩
  | ret v=>obtain ⟨x7,σ7,H7,I7,r7,q7⟩:=q7; exact ⟨x7,σ7,H7,I7.unpinned,r7,q7⟩
end
end L2
namespace L2
open PySem PySem.Spec PyProof.Rows
abbrev R2:=V→V→Hp→VK→Prop
def OpR (X:Cx) (f:Value→Value→Sem Value) (r:R2):Prop:=
 ∀ (pins:List (Addr × Obj)) (s:Shared) (σ:St) (H:Hp) (x y:V) (v u:Value) (Q:VK),Inv X pins σ H s→RelV x v→RelV y u→r x y H Q→
  wpAny (model X.prog X.w) X.A (f v u) (EP X pins σ Q) X.xe s
def UnR (X:Cx) (f:Value→Sem Value) (r:V→Hp→VK→Prop):Prop:=
 ∀ (pins:List (Addr × Obj)) (s:Shared) (σ:St) (H:Hp) (x:V) (v:Value) (Q:VK),Inv X pins σ H s→RelV x v→r x H Q→
  wpAny (model X.prog X.w) X.A (f v) (EP X pins σ Q) X.xe s
def bL (X:Cx) (f:Value) (r:List V→Hp→VK→Prop):Prop:=
 ∀ (pins:List (Addr × Obj)) (s:Shared) (σ:St) (H:Hp) (xs:List V) (us:List Value) (Q:VK),Inv X pins σ H s→Vals xs us→r xs H Q→
  wpAny (model X.prog X.w) X.A (call f us) (EP X pins σ Q) X.xe s
def tOp (r:R2) (ta tb:TE):TE:=fun σ H Q=>ta σ H fun x H1=>tb σ H1 fun y H2=>r x y H2 Q
def tUn (r:V→Hp→VK→Prop) (ta:TE):TE:=fun σ H Q=>ta σ H fun x H1=>r x H1 Q
def rI (C:Int→Int→Prop) (g:Int→Int→V):R2:=fun x y H Q=>∃ i j,x=.int i∧y=.int j∧C i j∧Q (g i j) H
def rI0 (g:Int→Int→V):R2:=fun x y H Q=>∃ i j,x=.int i∧y=.int j∧Q (g i j) H
def rU (g:Int→V):V→Hp→VK→Prop:=fun x H Q=>∃ i,x=.int i∧Q (g i) H
section
variable {X:Cx} {a b c:Expr} {ta tb tc:TE} {pos:Pos}
theorem Ag (ha:PE X a ta) (hb:PE X b tb) {pins:List (Addr × Obj)} {s:Shared} {σ:St} {H:Hp} {R:V→V→Hp→Prop} (I:Inv X pins σ H s)
  (h:ta σ H fun x H1=>tb σ H1 fun y H2=>R x y H2) {Q:Value→Shared→Prop} {f:Value→Value→Sem Value}
  (hf:∀ v u s2 x y H2,Inv X pins σ H2 s2→RelV x v→RelV y u→R x y H2→wpAny (model X.prog X.w) X.A (f v u) Q X.xe s2):
  wpAny (model X.prog X.w) X.A (eval a X.env) (fun v s₁=>wpAny (model X.prog X.w) X.A (eval b X.env) (fun u s₂=>wpAny (model X.prog X.w) X.A (f v u) Q X.xe s₂) X.xe s₁) X.xe s:=by
 refine thn (ha pins s σ H _ I h) fun v s1 zq=>?_
 obtain ⟨x,H1,I1,r1,q1⟩:=zq
 refine thn (hb pins s1 σ H1 _ I1 q1) fun u s2 zq=>?_
 obtain ⟨y,H2,I2,r2,q2⟩:=zq
 exact hf v u s2 x y H2 I2 r1 r2 q2
theorem B8 {op:Operator} {r:R2} (ho:OpR X (binaryOp op) r) (ha:PE X a ta) (hb:PE X b tb):PE X (.BinOp a op b pos) (tOp r ta tb):=by
 intro pins s σ H Q I h
 exact wpAny_BinOp (Ag ha hb I h fun v u s2 x y H2 I2 rx ry q=>ho pins s2 σ H2 x y v u Q I2 rx ry q)
theorem B9 {op:UnaryOp} {r:V→Hp→VK→Prop} (ho:UnR X (unaryOp op) r) (ha:PE X a ta):PE X (.UnaryOp op a pos) (tUn r ta):=by
 intro pins s σ H Q I h
 exact UnaryOp_ (thn (ha pins s σ H _ I h) fun v s1 zq=>ex5 zq fun x H1 I1 r1 q1=>ho pins s1 σ H1 x v Q I1 r1 q1)
theorem opI {f:Value→Value→Sem Value} {C:Int→Int→Prop} {g:Int→Int→Int}
  (rule:∀ (i j:Int) (t u:Tok) (s:Shared) (Q:Value→Shared→Prop) (E:Value→Shared→Prop),C i j→Q (.int (g i j) s.toks) { s with toks:=s.toks + 1 }→wpAny (model X.prog X.w) X.A (f (.int i t) (.int j u)) Q E s):
  OpR X f (rI C fun i j=>.int (g i j)):=by
 intro pins s σ H x y v u Q I rx ry h
 obtain ⟨i,j,rfl,rfl,hc,q⟩:=h
 obtain ⟨t,rfl⟩:=rx
 obtain ⟨t',rfl⟩:=ry
 exact rule i j t t' s _ _ hc ⟨.int (g i j),H,I.tok _,⟨_,rfl⟩,q⟩
theorem Ca {f:Value→Value→Sem Value} {g:Int→Int→Int}
  (rule:∀ (i j:Int) (t u:Tok) (s:Shared) (Q:Value→Shared→Prop) (E:Value→Shared→Prop),Q (.int (g i j) s.toks) { s with toks:=s.toks + 1 }→wpAny (model X.prog X.w) X.A (f (.int i t) (.int j u)) Q E s):
  OpR X f (rI0 fun i j=>.int (g i j)):=by
 intro pins s σ H x y v u Q I rx ry h
 obtain ⟨i,j,rfl,rfl,q⟩:=h
 obtain ⟨t,rfl⟩:=rx
 obtain ⟨t',rfl⟩:=ry
 exact rule i j t t' s _ _ ⟨.int (g i j),H,I.tok _,⟨_,rfl⟩,q⟩
theorem xQ {f:Value→Value→Sem Value} {g:Int→Int→Bool}
  (rule:∀ (i j:Int) (t u:Tok) (s:Shared) (Q:Value→Shared→Prop) (E:Value→Shared→Prop),Q (.bool (g i j)) s→wpAny (model X.prog X.w) X.A (f (.int i t) (.int j u)) Q E s):
  OpR X f (rI0 fun i j=>.bl (g i j)):=by
 intro pins s σ H x y v u Q I rx ry h
 obtain ⟨i,j,rfl,rfl,q⟩:=h
 obtain ⟨t,rfl⟩:=rx
 obtain ⟨t',rfl⟩:=ry
 exact rule i j t t' s _ _ ⟨.bl (g i j),H,I,rfl,q⟩
def Cb (i j:Int):Prop:=0 < j∧j < 1073741824
def Cc (i j:Int):Prop:=0≤j∧j≤1000000∧i.natAbs < 2 ^ 64
def Ah (i j:Int):Prop:=(-(2 ^ 64) < i∧i < 2 ^ 64) ∨ (-(2 ^ 64) < j∧j < 2 ^ 64)
theorem Ah.ok {i j:Int} (h:Ah i j):IntMulOk i j:=by
 rcases h with ⟨h1,h2⟩ | ⟨h1,h2⟩
 ·exact .of_left (intBits_le_64 h1 h2)
 ·exact .of_right (intBits_le_64 h1 h2)
theorem Ai:OpR X (binaryOp .Add) (rI0 fun i j=>.int (i + j)):=Ca fun _ _ _ _ _ _ _ q=>add_int q
theorem Aj:OpR X (binaryOp .Sub) (rI0 fun i j=>.int (i - j)):=Ca fun _ _ _ _ _ _ _ q=>sub_int q
theorem Ak:OpR X (binaryOp .Mult) (rI Ah fun i j=>.int (i * j)):=opI fun _ _ _ _ _ _ _ hc q=>mul_int q hc.ok
theorem xR:OpR X (binaryOp .FloorDiv) (rI Cb fun i j=>.int (i / j)):=opI fun i j _ _ _ _ _ hc q=>by
 have h1:(0:Int) < j:=hc.1
 have h2:j < 1073741824:=hc.2
 exact floordiv_int (by omega) (by rw [Int.fdiv_eq_ediv_of_nonneg i (by omega)]; exact q) (.inl (PyProof.noPylong_small (by omega)))
theorem Am:OpR X (binaryOp .Mod) (rI (fun _ j=>0 < j) fun i j=>.int (i % j)):=opI fun i j _ _ _ _ _ hc q=>by
 have h1:(0:Int) < j:=hc
 exact mod_int' (by omega) (by rw [Int.fmod_eq_emod_of_nonneg i (by omega)]; exact q)
theorem An:OpR X (binaryOp .Pow) (rI Cc fun i j=>.int (i ^ j.toNat)):=opI fun _ _ _ _ _ _ _ hc q=>pow_int_small hc.1 hc.2.1 hc.2.2 q
theorem Ao:OpR X (binaryOp .LShift) (rI Cc fun i j=>.int (i * 2 ^ j.toNat)):=opI fun _ _ _ _ _ _ _ hc q=>lshift_int_small hc.1 hc.2.1 hc.2.2 q
theorem unI {f:Value→Sem Value} {g:Int→Int}
  (rule:∀ (i:Int) (t:Tok) (s:Shared) (Q:Value→Shared→Prop) (E:Value→Shared→Prop),Q (.int (g i) s.toks) { s with toks:=s.toks + 1 }→wpAny (model X.prog X.w) X.A (f (.int i t)) Q E s):
  UnR X f (rU fun i=>.int (g i)):=by
 intro pins s σ H x v Q I rx h
 obtain ⟨i,rfl,q⟩:=h
 obtain ⟨t,rfl⟩:=rx
 exact rule i t s _ _ ⟨.int (g i),H,I.tok _,⟨_,rfl⟩,q⟩
theorem Ap:UnR X (unaryOp .USub) (rU fun i=>.int (-i)):=unI fun _ _ _ _ _ q=>neg_int q
end
def Aq:V→V→Bool
 | .non,.non=>true | .non,.int _=>true | .int _,.non=>true | .non,.bl _=>true | .bl _,.non=>true | .non,.str _=>true | .str _,.non=>true
 | .int _,.int _=>true | .bl _,.bl _=>true | .str _,.str _=>true | .byt _,.byt _=>true
 | .int _,.str _=>true | .str _,.int _=>true | .bl _,.str _=>true | .str _,.bl _=>true
 | _,_=>false
def rEq:R2:=fun x y H Q=>Aq x y=true∧Q (.bl (decide (x=y))) H
def rNe:R2:=fun x y H Q=>Aq x y=true∧Q (.bl (!decide (x=y))) H
theorem sJ {i j:Int}:decide (V.int i=V.int j)=(i == j):=by
 rw [Bool.eq_iff_iff]
 simp
theorem vG {i j:Bool}:decide (V.bl i=V.bl j)=(i == j):=by
 rw [Bool.eq_iff_iff]
 simp
theorem sL {i j:Str}:decide (V.str i=V.str j)=(i == j):=by
 rw [Bool.eq_iff_iff]
 simp
theorem sM {i j:Array UInt8}:decide (V.byt i=V.byt j)=(i.toList == j.toList):=by
 rw [Bool.eq_iff_iff]
 cases i
 cases j
 simp
section
variable {X:Cx} {a b c:Expr} {ta tb tc:TE} {pos:Pos}
theorem bu {pins:List (Addr × Obj)} {σ:St} {H:Hp} {s:Shared} {Q:VK} {k k':Bool} (I:Inv X pins σ H s) (q:Q (.bl k) H) (e:k=k'):EP X pins σ Q (.bool k') s:=by
 subst e
 exact ⟨.bl k,H,I,rfl,q⟩
theorem Ce:OpR X (compareOp .Eq) rEq:=by
 intro pins s σ H x y v u Q I rx ry h
 obtain ⟨hs,q⟩:=h
 cases x with
 | non=>
  cases rx
  cases y with
  | non=>cases ry; exact PySem.EqNone.eq_none_none (bu I q (by simp))
  | bl j=>cases ry; exact PySem.EqNone.eq_none_bool (bu I q (by simp))
  | int j=>obtain ⟨t',rfl⟩:=ry; exact PySem.EqNone.eq_none_int (bu I q (by simp))
  | str j=>obtain ⟨t',rfl⟩:=ry; exact PySem.EqNone.eq_none_str (bu I q (by simp))
  | _=>exact absurd (show false=true from hs) Bool.false_ne_true
 | bl i=>
  cases rx
  cases y with
  | non=>cases ry; exact PySem.EqNone.eq_bool_none (bu I q (by simp))
  | bl j=>cases ry; exact eq_bool (bu I q vG)
  | str j=>obtain ⟨t',rfl⟩:=ry; exact PySem.EqMixed.eq_bool_str (bu I q (by simp))
  | _=>exact absurd (show false=true from hs) Bool.false_ne_true
 | int i=>
  obtain ⟨t,rfl⟩:=rx
  cases y with
  | non=>cases ry; exact PySem.EqNone.eq_int_none (bu I q (by simp))
  | int j=>obtain ⟨t',rfl⟩:=ry; exact eq_int (bu I q sJ)
  | str j=>obtain ⟨t',rfl⟩:=ry; exact PySem.EqMixed.eq_int_str (bu I q (by simp))
  | _=>exact absurd (show false=true from hs) Bool.false_ne_true
 | str i=>
  obtain ⟨t,rfl⟩:=rx
  cases y with
  | non=>cases ry; exact PySem.EqNone.eq_str_none (bu I q (by simp))
  | bl j=>cases ry; exact PySem.EqMixed.eq_str_bool (bu I q (by simp))
  | int j=>obtain ⟨t',rfl⟩:=ry; exact PySem.EqMixed.eq_str_int (bu I q (by simp))
  | str j=>obtain ⟨t',rfl⟩:=ry; exact eq_str (bu I q sL)
  | _=>exact absurd (show false=true from hs) Bool.false_ne_true
 | byt i=>
  obtain ⟨t,rfl⟩:=rx
  cases y with
  | byt j=>obtain ⟨t',rfl⟩:=ry; exact PySem.W.eq_bytes (bu I q sM)
  | _=>exact absurd (show false=true from hs) Bool.false_ne_true
 | _=>cases y <;> exact absurd (show false=true from hs) Bool.false_ne_true
theorem Cf:OpR X (compareOp .NotEq) rNe:=by
 intro pins s σ H x y v u Q I rx ry h
 obtain ⟨hs,q⟩:=h
 cases x with
 | non=>
  cases rx
  cases y with
  | non=>cases ry; exact PySem.EqNone.ne_none_none (bu I q (by simp))
  | bl j=>cases ry; exact PySem.EqNone.ne_none_bool (bu I q (by simp))
  | int j=>obtain ⟨t',rfl⟩:=ry; exact PySem.EqNone.ne_none_int (bu I q (by simp))
  | str j=>obtain ⟨t',rfl⟩:=ry; exact PySem.EqNone.ne_none_str (bu I q (by simp))
  | _=>exact absurd (show false=true from hs) Bool.false_ne_true
 | bl i=>
  cases rx
  cases y with
  | non=>cases ry; exact PySem.EqNone.ne_bool_none (bu I q (by simp))
  | bl j=>cases ry; exact ne_bool (bu I q (congrArg not vG))
  | str j=>obtain ⟨t',rfl⟩:=ry; exact PySem.EqMixed.ne_bool_str (bu I q (by simp))
  | _=>exact absurd (show false=true from hs) Bool.false_ne_true
 | int i=>
  obtain ⟨t,rfl⟩:=rx
  cases y with
  | non=>cases ry; exact PySem.EqNone.ne_int_none (bu I q (by simp))
  | int j=>obtain ⟨t',rfl⟩:=ry; exact ne_int (bu I q (congrArg not sJ))
  | str j=>obtain ⟨t',rfl⟩:=ry; exact PySem.EqMixed.ne_int_str (bu I q (by simp))
  | _=>exact absurd (show false=true from hs) Bool.false_ne_true
 | str i=>
  obtain ⟨t,rfl⟩:=rx
  cases y with
  | non=>cases ry; exact PySem.EqNone.ne_str_none (bu I q (by simp))
  | bl j=>cases ry; exact PySem.EqMixed.ne_str_bool (bu I q (by simp))
  | int j=>obtain ⟨t',rfl⟩:=ry; exact PySem.EqMixed.ne_str_int (bu I q (by simp))
  | str j=>obtain ⟨t',rfl⟩:=ry; exact ne_str (bu I q (congrArg not sL))
  | _=>exact absurd (show false=true from hs) Bool.false_ne_true
 | byt i=>
  obtain ⟨t,rfl⟩:=rx
  cases y with
  | byt j=>obtain ⟨t',rfl⟩:=ry; exact PySem.W.ne_bytes (bu I q (congrArg not sM))
  | _=>exact absurd (show false=true from hs) Bool.false_ne_true
 | _=>cases y <;> exact absurd (show false=true from hs) Bool.false_ne_true
theorem Cg:OpR X (compareOp .Lt) (rI0 fun i j=>.bl (decide (i < j))):=xQ fun _ _ _ _ _ _ _ q=>lt_int q
theorem Ci:OpR X (compareOp .LtE) (rI0 fun i j=>.bl (decide (i≤j))):=xQ fun _ _ _ _ _ _ _ q=>le_int q
theorem Cj:OpR X (compareOp .Gt) (rI0 fun i j=>.bl (decide (j < i))):=xQ fun _ _ _ _ _ _ _ q=>gt_int q
theorem Ck:OpR X (compareOp .GtE) (rI0 fun i j=>.bl (decide (j≤i))):=xQ fun _ _ _ _ _ _ _ q=>ge_int q
theorem Ar (b:Expr) {op:CmpOp} (h:autoParam (op ≠ .In) Au.h2._auto_1) (h2:autoParam (op ≠ .NotIn) Au.h2._auto_1):behindInMarks op b=false:=by
 have e1:(op == CmpOp.In)=false:=by cases op <;> first | rfl | exact absurd rfl h
 have e2:(op == CmpOp.NotIn)=false:=by cases op <;> first | rfl | exact absurd rfl h2
 cases b <;> simp [behindInMarks,e1,e2]
theorem xT {op:CmpOp} {r:R2} (ho:OpR X (compareOp op) r) (ha:PE X a ta) (hb:PE X b tb) (hm:behindInMarks op b=false):PE X (.Compare a [op] [b] pos) (tOp r ta tb):=by
 intro pins s σ H Q I h
 exact wpAny_Compare1 (Ag ha hb I h fun v u s2 x y H2 I2 rx ry q=>ho pins s2 σ H2 x y v u Q I2 rx ry q) hm
def Cm (t:TE):TT:=fun σ H Q=>t σ H fun x H'=>∃ k,x=.bl k∧Q k H'
theorem xV {op:CmpOp} {r:R2} (ho:OpR X (compareOp op) r) (ha:PE X a ta) (hb:PE X b tb) (hm:behindInMarks op b=false):PT X (.Compare a [op] [b] pos) (Cm (tOp r ta tb)):=by
 intro pins s σ H Q I h
 refine wpAny_isTrue_Compare1 (thn (ha pins s σ H _ I h) fun v s1 zq=>ex5 zq fun x H1 I1 r1 q1=>thn (hb pins s1 σ H1 _ I1 q1) fun u s2 zq=>ex5 zq fun y H2 I2 r2 q2=>
  thn (ho pins s2 σ H2 x y v u _ I2 r1 r2 q2) fun c s3 ⟨z,H3,I3,r3,k,e,q3⟩=>?_) hm
 subst e
 cases r3
 exact wpAny_truthy_bool ⟨H3,I3,q3⟩
def As (r r':R2) (ta tb tc:TE):TE:=fun σ H Q=>ta σ H fun x H1=>tb σ H1 fun y H2=>r x y H2 fun z H3=>∃ k,z=.bl k∧
 (if k=true then tc σ H3 fun w' H4=>r' y w' H4 Q else Q (.bl false) H3)
theorem vH {op op':CmpOp} {r r':R2} (ho:OpR X (compareOp op) r) (ho':OpR X (compareOp op') r') (ha:PE X a ta) (hb:PE X b tb) (hc:PE X c tc)
  (hm:lastMarks [op,op'] [b,c]=false:=by with_unfolding_all rfl):PE X (.Compare a [op,op'] [b,c] pos) (As r r' ta tb tc):=by
 intro pins s σ H Q I h
 refine Compare_chain (thn (ha pins s σ H _ I h) fun v s1 zq=>ex5 zq fun x H1 I1 r1 q1=>chain_link (thn (hb pins s1 σ H1 _ I1 q1) fun u s2 zq=>ex5 zq fun y H2 I2 r2 q2=>
  thn (ho pins s2 σ H2 x y v u _ I2 r1 r2 q2) fun d s3 ⟨z,H3,I3,r3,k,e,q3⟩=>?_)) hm
 subst e
 cases r3
 refine wpAny_truthy_bool ?_
 cases k with
 | false=>exact ite_ff ⟨.bl false,H3,I3,rfl,q3⟩
 | true=>exact ite_tt (chain_last (thn (hc pins s3 σ H3 _ I3 q3) fun w' s4 ⟨z',H4,I4,r4,q4⟩=>ho' pins s4 σ H4 y z' u w' Q I4 r2 r4 q4))
theorem kg:(sizeLine:Nat) < 2 ^ 63:=by rw [sizeLine_eq]; decide
theorem rK:OpR X (binaryOp .Add) (fun x y H Q=>∃ i j,x=.str i∧y=.str j∧i.length + j.length≤sizeLine∧Q (.str (i ++ j)) H):=by
 intro pins s σ H x y v u Q I rx ry h
 obtain ⟨i,j,rfl,rfl,hz,q⟩:=h
 obtain ⟨t,rfl⟩:=rx
 obtain ⟨t',rfl⟩:=ry
 exact add_str (fun t' tk=>⟨.str (i ++ j),H,I.tok _,⟨_,rfl⟩,q⟩) hz
theorem vals1 {x:V} {us:List Value} (r:Vals [x] us):∃ u,us=[u]∧RelV x u:=by
 cases r with
 | cons r1 r2=>cases r2; exact ⟨_,rfl,r1⟩
theorem vals2 {x y:V} {us:List Value} (r:Vals [x,y] us):∃ u w',us=[u,w']∧RelV x u∧RelV y w':=by
 cases r with
 | cons r1 r2=>
  cases r2 with
  | cons r3 r4=>cases r4; exact ⟨_,_,rfl,r1,r3⟩
theorem vI:bL X (.builtin "abs") (fun xs H Q=>∃ i,xs=[.int i]∧Q (.int (if i < 0 then -i else i)) H):=by
 intro pins s σ H xs us Q I r h
 obtain ⟨i,rfl,q⟩:=h
 obtain ⟨u,rfl,t,rfl⟩:=vals1 r
 exact call_abs_int fun u tk=>⟨.int (if i < 0 then -i else i),H,I.tok _,⟨_,rfl⟩,q⟩
theorem uv (hc:X.calm=true):bL X (.builtin "max") (fun xs H Q=>∃ i j,xs=[.int i,.int j]∧Q (.int (if j > i then j else i)) H):=by
 intro pins s σ H xs us Q I r h
 obtain ⟨i,j,rfl,q⟩:=h
 obtain ⟨u,w',rfl,⟨t,rfl⟩,⟨t',rfl⟩⟩:=vals2 r
 refine max_two_ints (I.ok.hd hc) fun h' tk k=>⟨_,H,I.kept k,?_,q⟩
 by_cases hj:j > i
 ·rw [if_pos hj,if_pos hj]; exact ⟨_,rfl⟩
 ·rw [if_neg hj,if_neg hj]; exact ⟨_,rfl⟩
theorem uw (hc:X.calm=true):bL X (.builtin "min") (fun xs H Q=>∃ i j,xs=[.int i,.int j]∧Q (.int (if j < i then j else i)) H):=by
 intro pins s σ H xs us Q I r h
 obtain ⟨i,j,rfl,q⟩:=h
 obtain ⟨u,w',rfl,⟨t,rfl⟩,⟨t',rfl⟩⟩:=vals2 r
 refine min_two_ints (I.ok.hd hc) fun h' tk k=>⟨_,H,I.kept k,?_,q⟩
 by_cases hj:j < i
 ·rw [if_pos hj,if_pos hj]; exact ⟨_,rfl⟩
 ·rw [if_neg hj,if_neg hj]; exact ⟨_,rfl⟩
theorem nj:bL X (.type "int") (fun xs H Q=>(∃ i,xs=[.int i]∧Q (.int i) H) ∨ ∃ k,xs=[.bl k]∧Q (.int (if k then 1 else 0)) H):=by
 intro pins s σ H xs us Q I r h
 rcases h with ⟨i,rfl,q⟩ | ⟨k,rfl,q⟩
 ·obtain ⟨u,rfl,t,rfl⟩:=vals1 r
  exact call_int_int ⟨.int i,H,I,⟨_,rfl⟩,q⟩
 ·obtain ⟨u,rfl,r1⟩:=vals1 r
  cases r1
  exact call_int_bool ⟨.int (if k then 1 else 0),H,I.tok _,⟨_,rfl⟩,q⟩
theorem pR:bL X (.builtin "divmod") (fun xs H Q=>∃ i j,xs=[.int i,.int j]∧Cb i j∧∀ p,H p=none→Q (.ref p) (upd H p (.tup [.int (i / j),.int (i % j)]))):=by
 intro pins s σ H xs us Q I r h
 obtain ⟨i,j,rfl,⟨h1,h2⟩,q⟩:=h
 obtain ⟨u,w',rfl,⟨t,rfl⟩,⟨t',rfl⟩⟩:=vals2 r
 refine divmod_int (by omega) ?_ (.inl (PyProof.noPylong_small (by omega)))
 rw [Int.fdiv_eq_ediv_of_nonneg i (by omega),Int.fmod_eq_emod_of_nonneg i (by omega)]
 have hn:H s.heap.objs.size=none:=I.hok.fresh (Nat.le_refl _)
 refine ⟨.ref s.heap.objs.size,_,?_,rfl,q _ hn⟩
 refine I.laid (fun b o e=>Heap.get?_push_of_some _ e) (Nat.le_refl _) ⟨by simp only [List.length_cons,List.length_nil]; rw [sizeLine_eq]; decide,[.int (i / j) s.toks,.int (i % j) (s.toks + 1)],.cons ⟨_,rfl⟩ (.cons ⟨_,rfl⟩ .nil),?_⟩
 exact ⟨_,Heap.get?_push_size s.heap rfl,rfl,0,rfl⟩
end
end L2
namespace L2
open PySem PySem.Spec PyProof.Rows
structure ObjM (h:Heap) (x dx C:Addr) (mA:Str→Option Value):Prop where
 obj:h.get? x=some (PySem.W.instObj C dx)
 ns:h.Ns1 dx mA
 ne:dx ≠ x
theorem uz {h:Heap} {dx:Addr} {mA:Str→Option Value} (n:h.Ns1 dx mA):∃ od,h.get? dx=some od∧∀ name,PySem.W.lookIn name od=some (mA name):=by
 obtain ⟨o,es,ep,ho,hd,hk,_,hm⟩:=n
 refine ⟨o,ho,fun name=>?_⟩
 have e:=hm name
 unfold nsFind findBy at e
 rw [← Array.find?_toList] at e
 unfold PySem.W.lookIn
 rw [hd]
 dsimp only
 split
 ·rename_i y q
  rw [q] at e
  exact congrArg some e
 ·rename_i q
  rw [q] at e
  have a:es.toList.any (·.refKey)=false:=by
   rw [List.any_eq_false]
   intro y hy
   obtain ⟨z,t,hkey⟩:=hk y (Array.mem_toList_iff.mp hy)
   simp [DictEntry.refKey,hkey]
  have a':¬ es.toList.any (·.refKey)=true:=by rw [a]; exact Bool.false_ne_true
  rw [if_neg a']
  exact congrArg some e
theorem ObjM.look {h:Heap} {x dx C:Addr} {mA:Str→Option Value} (I:ObjM h x dx C mA):∃ od,PySem.W.InstAt h x (PySem.W.instObj C dx) C (some od)∧∀ name,PySem.W.lookIn name od=some (mA name):=
 let ⟨od,ho,hl⟩:=uz I.ns
 ⟨od,⟨I.obj,rfl,rfl,ho⟩,hl⟩
section
variable {prog:Program} {w:World} {A:Around} {E:Value→Shared→Prop} {s:Shared} {K:PySem.W.Frag} {x dx C f:Addr} {mA:Str→Option Value} {name:Str} {v:Value}
end
theorem kf.some_of {v:V} {o:Option Value} (r:kf (some v) o):∃ u,o=some u∧RelV v u:=by
 cases o with
 | none=>exact (show False from r).elim
 | some u=>exact ⟨u,rfl,r⟩
section
variable {P:Program} {w:World} {H H':Hp} {h h':Heap} {a C dx:Addr} {fs fs':List (Str × V)}
theorem xW (hok:HOk P w H h) (e:H a=some (.ins C dx fs)):∃ mA,ObjM h a dx C mA∧(∀ f,kf (fs.lookup f) (mA f))∧PySem.Within mA (fs.map (·.1))∧fs.length≤1000∧H dx=some (.own a):=by
 obtain ⟨d,z,ne,ob,mA,n,r,q⟩:=(show bG P w H h a (.ins C dx fs) from hok a _ e)
 exact ⟨mA,⟨ob,n,ne⟩,r,q,z,d⟩
end
structure Cls (K:PySem.W.Frag) (C:Addr):Prop where
 pg:PySem.W.plainGet K C Str.empty=true
 hd:PySem.W.hasDictIn K C=true
 po:PySem.W.plainOver K C=true
 sa:PySem.W.findIn K (.ref C) "__setattr__" = some (some (.builtin "object.__setattr__"))
theorem Cls.get {K:PySem.W.Frag} {C:Addr} (c:Cls K C) (f:Str):PySem.W.plainGet K C f=true:=c.pg
section
variable {X:Cx} {pins:List (Addr × Obj)} {σ:St} {H:Hp} {s:Shared} {a C dx:Addr} {fs:List (Str × V)} {f:Str} {v:V} {A:Around} {E:Value→Shared→Prop}
end
section
variable {X:Cx} {o e value:Expr} {f:Str} {pos pos' tpos:Pos} {ta tv:TE}
end
section
variable {X:Cx} {pins:List (Addr × Obj)} {σ:St} {H:Hp} {s:Shared} {A:Around} {E:Value→Shared→Prop} {Q:Value→Shared→Prop} {c:Value} {b:Bool}
inductive TyOf (K:PySem.W.Frag) (H:Hp):V→Value→Prop where
 | non:TyOf K H .non (.type "NoneType")
 | bl (x:Bool):TyOf K H (.bl x) (.type "bool")
 | int (i:Int):TyOf K H (.int i) (.type "int")
 | str (x:Str):TyOf K H (.str x) (.type "str")
 | flt (x:UInt64):TyOf K H (.flt x) (.type "float")
 | lst {a:Addr} {xs:List V} (e:H a=some (.lst xs)):TyOf K H (.ref a) (.type "list")
 | frz {a:Addr} {o:Obj} {xs:List V} (e:H a=some (.frz o (.lst xs))):TyOf K H (.ref a) (.type "list")
 | tup {a:Addr} {xs:List V} (e:H a=some (.tup xs)):TyOf K H (.ref a) (.type "tuple")
 | dK {a:Addr} {kvs:List (Key × V)} (e:H a=some (.dK kvs)):TyOf K H (.ref a) (.type "dict")
 | dT {a:Addr} {kvs:List (List Key × V)} (e:H a=some (.dT kvs)):TyOf K H (.ref a) (.type "dict")
 | ins {a C dx:Addr} {fs:List (Str × V)} (e:H a=some (.ins C dx fs)) (cl:Cls K C) (ha:PySem.W.findIn K (.ref C) "__class__" = some (some (.builtin "object.__class__")))
   (hn:PySem.W.specialIn K (.builtin "object.__class__") "__get__" = some (some (.builtin "getset_descriptor.__get__"))) (htk:PySem.W.takesIn K (.builtin "object.__class__")=some true)
   (hm:PySem.W.mroIn K C (.type "object")=some true):TyOf K H (.ref a) (.ref C)
theorem nk {x:V} {u t:Value} (I:Inv X pins σ H s) (rx:RelV x u) (ty:TyOf X.K H x t) (e:PySem.W.kitOne X.K t c=some b) (h:∀ tk,Q (.bool b) { s with toks:=tk }):
  wpAny (model X.prog X.w) A (call (.builtin "isinstance") [u,c]) Q E s:=by
 cases ty with
 | non=>cases (show u=Value.none from rx); exact PySem.W.kia_one PySem.W.kitx_none I.kIn True.intro e (fun z=>nomatch z) h
 | bl y=>cases (show u=Value.bool y from rx); exact PySem.W.kia_one PySem.W.kitx_bool I.kIn True.intro e (fun z=>nomatch z) h
 | int i=>obtain ⟨t,q⟩:=(show ∃ t,u=Value.int i t from rx); cases q; exact PySem.W.kia_one PySem.W.kitx_int I.kIn True.intro e (fun z=>nomatch z) h
 | str y=>obtain ⟨t,q⟩:=(show ∃ t,u=Value.str y t from rx); cases q; exact PySem.W.kia_one PySem.W.kitx_str I.kIn True.intro e (fun z=>nomatch z) h
 | flt y=>obtain ⟨t,q⟩:=(show ∃ t,u=Value.float y t from rx); cases q; exact PySem.W.kia_one PySem.W.kitx_float I.kIn True.intro e (fun z=>nomatch z) h
 | @lst a xs ea=>
  cases (show u=Value.ref a from rx)
  obtain ⟨_,_,n,_,h1⟩:=(show bG X.prog X.w H s.heap a (.lst xs) from I.hok a _ ea)
  exact PySem.W.kia_one PySem.W.kitx_list I.kIn ⟨_,h1,rfl⟩ e (fun z=>nomatch z) h
 | @frz a ob xs ea=>
  cases (show u=Value.ref a from rx)
  obtain ⟨_,_,_,n,_,h1⟩:=(show bG X.prog X.w H s.heap a (.frz ob (.lst xs)) from I.hok a _ ea)
  exact PySem.W.kia_one PySem.W.kitx_list I.kIn ⟨_,h1,rfl⟩ e (fun z=>nomatch z) h
 | @tup a xs ea=>
  cases (show u=Value.ref a from rx)
  obtain ⟨_,_,_,p⟩:=(show bG X.prog X.w H s.heap a (.tup xs) from I.hok a _ ea)
  obtain ⟨o,h1,h2,_⟩:=p
  exact PySem.W.kia_one PySem.W.kitx_tuple I.kIn ⟨o,h1,h2⟩ e (fun z=>nomatch z) h
 | @dK a kvs ea=>
  cases (show u=Value.ref a from rx)
  obtain ⟨_,_,vs,_,p⟩:=(show bG X.prog X.w H s.heap a (.dK kvs) from I.hok a _ ea)
  obtain ⟨o,es,ep,h1,h2,_⟩:=p
  exact PySem.W.kia_one PySem.W.kitx_dict I.kIn ⟨o,h1,h2.1⟩ e (fun z=>nomatch z) h
 | @dT a kvs ea=>
  cases (show u=Value.ref a from rx)
  obtain ⟨_,_,xs,_,o,es,ep,h1,h2,_⟩:=(show bG X.prog X.w H s.heap a (.dT kvs) from I.hok a _ ea)
  exact PySem.W.kia_one PySem.W.kitx_dict I.kIn ⟨o,h1,h2.1⟩ e (fun z=>nomatch z) h
 | @ins a C dx fs ea cl ha hn htk hm=>
  cases (show u=Value.ref a from rx)
  obtain ⟨mA,O,_⟩:=xW I.hok ea
  obtain ⟨od,J,_⟩:=O.look
  exact PySem.W.kia_one (PySem.W.kitx_own (cl.get _) cl.hd ha hn htk hm) I.kIn J e (fun z=>nomatch z) h
end
end L2
namespace L2
open PySem PySem.Spec PyProof.Rows
structure Room (k:Nat) (A:Around):Prop where
 hd:A.handled=none
 dp:A.depth + 3 * k + 5 < recursionLimit
 un:A.units + 16 * k + 200 < cLine
 gd:A.guards=some []
theorem Room.mono {j k:Nat} {A:Around} (r:Room k A) (h:j≤k):Room j A:=⟨r.hd,by have:=r.dp; omega,by have:=r.un; omega,r.gd⟩
theorem Room.deeper {k:Nat} {A:Around} (r:Room (k + 1) A) (env:Env):Room k (A.deeper env):=
 ⟨r.hd,by have:=r.dp; show A.depth + 1 + 3 * k + 5 < _; omega,by have:=r.un; show A.units + 3 + 16 * k + 200 < _; omega,r.gd⟩
theorem Room.depth {k:Nat} {A:Around} (r:Room k A):A.depth < recursionLimit:=by have:=r.dp; omega
theorem Room.units {k:Nat} {A:Around} (r:Room k A):A.units + 64 < cLine:=by have:=r.un; omega
def De:TA:=fun _ H Q=>Q [] H
def Cn (ta:TE) (tr:TA):TA:=fun σ H Q=>ta σ H fun x H1=>tr σ H1 fun xs H2=>Q (x :: xs) H2
section
variable {X:Cx} {e:Expr} {es:List Expr} {te:TE} {t:TA} {pos:Pos}
theorem vJ:PA X [] De:=fun _ _ _ _ H Q I h=>Calls.spliced_nil ⟨[],H,I,.nil,h⟩
theorem sN (ha:PE X e te) (hr:PA X es t) (hs:autoParam (starEach (e :: es) X.env=(false,eval e X.env) :: starEach es X.env) Au.h1._auto_1):PA X (e :: es) (Cn te t):=by
 intro pos pins s σ H Q I h
 rw [hs]
 show wpAny _ _ (spliced ((false,eval e X.env) :: backTo pos (starEach es X.env))) _ _ s
 refine Calls.spliced_cons (thn (ha pins s σ H _ I h) fun u s1 zq=>?_)
 obtain ⟨x,H1,I1,r1,q1⟩:=zq
 exact thn (hr pos pins s1 σ H1 _ I1 q1) fun us s2 zq=>ex5 zq fun xs H2 I2 r2 q2=>⟨x :: xs,H2,I2,.cons r1 r2,q2⟩
def Df (t:TA):TE:=fun σ H Q=>t σ H fun xs H1=>xs.length≤sizeLine∧∀ p,H1 p=none→Q (.ref p) (upd H1 p (.tup xs))
def Dg (t:TA):TE:=fun σ H Q=>t σ H fun xs H1=>xs.length≤sizeLine∧∀ p,H1 p=none→Q (.ref p) (upd H1 p (.lst xs))
theorem Av {x1} (h:PA X es t):PE X (.Tuple es x1 pos) (Df t):=by
 intro pins s σ H Q I hq
 refine wpAny_Tuple_spliced (thn (h pos pins s σ H _ I hq) fun us s1 ⟨xs,H1,I1,r,z,q⟩=>⟨by rw [← r.length]; exact z,?_⟩)
 have hf:H1 s1.heap.objs.size=none:=I1.hok.fresh (Nat.le_refl _)
 refine ⟨.ref s1.heap.objs.size,upd H1 s1.heap.objs.size (.tup xs),I1.laid (t':=s1.toks) (fun b u e=>Heap.get?_push_of_some _ e) (Nat.le_refl _) ?_,rfl,q _ hf⟩
 exact ⟨z,us,r,⟨_,Heap.get?_push_size _ rfl,rfl,_,rfl⟩⟩
theorem vK (h:PA X es t):PE X (.List es pos) (Dg t):=by
 intro pins s σ H Q I hq
 refine wpAny_List_spliced (thn (h pos pins s σ H _ I hq) fun us s1 ⟨xs,H1,I1,r,z,q⟩=>⟨by rw [← r.length]; exact z,?_⟩)
 have hf:H1 s1.heap.objs.size=none:=I1.hok.fresh (Nat.le_refl _)
 refine ⟨.ref s1.heap.objs.size,upd H1 s1.heap.objs.size (.lst xs),I1.laid (t':=s1.toks) (fun b u e=>Heap.get?_push_of_some _ e) (Nat.le_refl _) ?_,rfl,q _ hf⟩
 exact ⟨z,us,0,r,Heap.get?_push_size _ rfl⟩
end
abbrev Sp:=List V→Hp→VK→XK→Prop
abbrev CXT:=List Env→Hp→Shared→XK→Value→Shared→Prop
structure Env0 (P:Program) (w:World) (K:PySem.W.Frag) (mg:Str→Option Value) (base:Heap) (A:Around) (outer:List Env) (s:Shared) (H:Hp):Prop where
 frames:A.frames=some outer
 mod:Mod K mg base
 bs:∀ b o,base.get? b=some o→s.heap.get? b=some o∧H b=none
 bsz:base.objs.size≤s.heap.objs.size
 funs:s.heap.FunFrames base outer
 frf:∀ b ∈ frs outer,H b=none
 hok:HOk P w H s.heap
 bare:AllBare s.gens
def CE (outer:List Env) (P:Program) (w:World) (H:Hp) (s:Shared) (Q:VK) (u:Value) (s':Shared):Prop:=
 ∃ v H',s'.os=s.os∧AllBare s'.gens∧Un (frs outer) [] H H' s.heap s'.heap∧HOk P w H' s'.heap∧RelV v u∧Q v H'
def CR (CX:CXT) (outer:List Env) (P:Program) (w:World) (H:Hp) (s:Shared) (Q:VK) (E:XK) (r:Result) (s':Shared):Prop:=
 match r with
 | .ok (.ret u)=>CE outer P w H s Q u s'
 | .ok _=>False
 | .error e=>CX outer H s E e s'
structure FnOk (P:Program) (w:World) (K:PySem.W.Frag) (mg:Str→Option Value) (base:Heap) (CX:CXT) (k:Nat) (f:Addr) (fd:FuncData) (ps:List Str) (sp:Sp):Prop where
 len:∀ vs H Q E,sp vs H Q E→vs.length=ps.length
 run:∀ (A:Around) (outer:List Env) (s:Shared) (H:Hp) (args:Args) (us:List Value) (vs:List V) (Q:VK) (E:XK),Room k A→Env0 P w K mg base A outer s H→BindsTo s fd args (ps.zip us)→Vals vs us→sp vs H Q E→
  codeAny (model P w) A (.call (.ref f) args) (CR CX outer P w H s Q E) s
section
variable {X:Cx} {pins:List (Addr × Obj)} {σ:St} {H:Hp} {s s':Shared}
theorem Inv.env0 (I:Inv X pins σ H s):Env0 X.prog X.w X.K X.mg X.base X.A X.stack s H:=
 ⟨I.ok.frames,I.ok.mod,I.bs,Nat.le_trans I.ok.bsz I.sz,I.stack,I.stkFree,I.hok,I.bare⟩
theorem Inv.after {Q:VK} {u:Value} (I:Inv X pins σ H s) (h:CE X.stack X.prog X.w H s Q u s'):EP X pins σ Q u s':=by
 obtain ⟨v,H',os,bare,un,hok,r,q⟩:=h
 obtain ⟨hh,g,d,t,os'⟩:=s'
 obtain rfl:os'=s.os:=os
 exact ⟨v,H',I.call (h':=hh) (g':=g) (d':=d) (t':=t) (ch:=[]) un hok bare (fun b z=>absurd z (by simp)),r,q⟩
end
def Co (sp:Sp) (dvs:List V) (E:XK) (t:TA):TE:=fun σ H Q=>t σ H fun vs H1=>sp (vs ++ dvs) H1 Q E
def Binds (K:PySem.W.Frag) (fd:FuncData) (ps:List Str) (ds:List Value):Prop:=
 ∀ (s:Shared) (us:List Value),K.In s.heap→(us ++ ds).length=ps.length→BindsTo s fd ⟨us,[]⟩ (ps.zip (us ++ ds))
theorem Binds.all {K:PySem.W.Frag} {fd:FuncData} {ps:List Str} (h:∀ us:List Value,us.length=ps.length→bindArgs fd ⟨us,[]⟩=pure (ps.zip us)):Binds K fd ps []:=fun s us _ hl=>by
 rw [List.append_nil] at hl ⊢
 exact .of_eq (h us hl)
def Passes (CX:CXT) (X:Cx) (E:XK):Prop:=∀ (pins:List (Addr × Obj)) (σ:St) (H:Hp) (s:Shared) (e:Value) (s':Shared),Inv X pins σ H s→CX X.stack H s E e s'→X.xe e s'
section
variable {X:Cx} {CX:CXT} {k:Nat} {f C:Addr} {fd:FuncData} {ps:List Str} {sp:Sp} {dvs:List V} {ds:List Value} {E:XK} {x m:Str} {p pos apos:Pos} {e o:Expr} {es:List Expr} {ta:TE} {t:TA}
theorem Aw {pins:List (Addr × Obj)} {σ:St} {H:Hp} {s:Shared} {Q:VK} {us:List Value} {vs:List V} (F:FnOk X.prog X.w X.K X.mg X.base CX k f fd ps sp) (hr:Room k X.A) (hb:Binds X.K fd ps ds) (hd:Vals dvs ds) (hx:Passes CX X E)
  (I:Inv X pins σ H s) (r:Vals vs us) (h:sp (vs ++ dvs) H Q E):wpAny (model X.prog X.w) X.A (call (.ref f) us) (EP X pins σ Q) X.xe s:=by
 have r2:Vals (vs ++ dvs) (us ++ ds):=r.append hd
 have hl:(us ++ ds).length=ps.length:=by rw [← r2.length]; exact F.len _ _ _ _ h
 refine wpAny_call (codeAny_mono (F.run X.A X.stack s H ⟨us,[]⟩ (us ++ ds) (vs ++ dvs) Q E hr I.env0 (hb s us I.kIn hl) r2 h) fun r s' hq=>?_)
 cases r with
 | error e=>exact hx pins σ H s e s' I hq
 | ok fl=>
  cases fl with
  | ret u=>exact I.after hq
  | next=>exact False.elim hq
  | brk=>exact False.elim hq
  | cont=>exact False.elim hq
theorem xX (F:FnOk X.prog X.w X.K X.mg X.base CX k f fd ps sp) (hr:Room k X.A) (hg:Gl X x) (hm:X.mg x=some (.ref f)) (hk:PySem.W.keepIn X.K (.ref f)=true) (hb:Binds X.K fd ps ds) (hd:Vals dvs ds) (hx:Passes CX X E)
  (ha:PA X (e :: es) t) (hdb:autoParam ((x == ("__debug__":Str))=false) Au.h2._auto_1) (he:autoParam (starEach (e :: es) X.env=(false,eval e X.env) :: starEach es X.env) Au.h1._auto_1) (hpl:autoParam ((backTo pos (starEach es X.env)).any (·.1)=false) Au.h1._auto_1):
  PE X (.Call (.Name x p) (e :: es) [] pos) (Co sp dvs E t):=by
 intro pins s σ H Q I h
 refine wpAny_Call_Name_kw (sF I hg hm ?_ hdb)
 refine PySem.W.callWith_K (h₀:=X.base) I.ok.mod.kin hk (thn (ha pos pins s σ H _ I h) fun us s1 zq=>ex5 zq fun vs H1 I1 r q=>⟨I1.kIn,?_⟩) he hpl
 exact Aw F hr hb hd hx I1 r q
end
section
variable {X:Cx} {CX:CXT} {k:Nat} {f C:Addr} {fd:FuncData} {ps ks:List Str} {sp:Sp} {E:XK} {x m:Str} {p pos apos kpos:Pos} {e o:Expr} {es:List Expr} {kws:List Keyword} {te ta:TE} {t tk:TA} {nm:Option Str}
variable {g:List Value→List Value→List Value} {gV:List V→List V→List V}
end
structure FnScope (N P:List Str) (sc:Scope):Prop where
 kind:sc.kind=.function
 co:sc.isCoroutine=false
 gen:sc.isGenerator=false
 nd:N.Nodup
 pre:N.take P.length=P
 par:∀ x ∈ P,sc.names.lookup x=some .local ∨ sc.names.lookup x=some .cell
 nofree:∀ y ∈ sc.names,y.2 ≠ .free
theorem nq {kindOf:Str→Option NameKind} {x:Str}:∀ {binds:List (Str × Value)} {m:Str→Option Value},(∀ v,(x,v) ∉ binds)→bindL kindOf binds m x=m x
 | [],_,_=>rfl
 | (n,v) :: r,m,h=>by
  unfold bindL
  rw [nq fun w hw=>h w (List.mem_cons_of_mem _ hw)]
  split
  ·have:x ≠ n:=by rintro rfl; exact h v List.mem_cons_self
   simp [this]
  ·rfl
theorem nr {kindOf:Str→Option NameKind} {x:Str}:∀ {binds:List (Str × Value)} {m:Str→Option Value},(∀ v,(x,v) ∉ binds)→bindC kindOf binds m x=m x
 | [],_,_=>rfl
 | (n,v) :: r,m,h=>by
  unfold bindC
  rw [nr fun w hw=>h w (List.mem_cons_of_mem _ hw)]
  split
  ·rfl
  ·have:x ≠ n:=by rintro rfl; exact h v List.mem_cons_self
   simp [this]
theorem nt {kindOf:Str→Option NameKind} {x:Str} {v:Value}:∀ {P:List Str} {vs:List Value} {i:Nat} {m:Str→Option Value},P.Nodup→P[i]?=some x→vs[i]?=some v→kindOf x=some .local→
  bindL kindOf (P.zip vs) m x=some v
 | [],_,_,_,_,h,_,_=>by simp at h
 | _ :: _,[],_,_,_,_,h,_=>by simp at h
 | p :: P,w :: vs,0,m,nd,h1,h2,hk=>by
  simp at h1 h2; subst h1; subst h2
  show bindL kindOf ((p,w) :: P.zip vs) m p=_
  unfold bindL
  rw [nq fun v hv=>(List.nodup_cons.mp nd).1 (List.of_mem_zip hv).1,if_pos hk]
  simp
 | p :: P,w :: vs,i + 1,m,nd,h1,h2,hk=>by
  show bindL kindOf ((p,w) :: P.zip vs) m x=_
  unfold bindL
  exact nt (i:=i) (List.nodup_cons.mp nd).2 (by simpa using h1) (by simpa using h2) hk
theorem nu {kindOf:Str→Option NameKind} {x:Str} {v:Value}:∀ {P:List Str} {vs:List Value} {i:Nat} {m:Str→Option Value},P.Nodup→P[i]?=some x→vs[i]?=some v→kindOf x ≠ some .local→
  bindC kindOf (P.zip vs) m x=some v
 | [],_,_,_,_,h,_,_=>by simp at h
 | _ :: _,[],_,_,_,_,h,_=>by simp at h
 | p :: P,w :: vs,0,m,nd,h1,h2,hk=>by
  simp at h1 h2; subst h1; subst h2
  show bindC kindOf ((p,w) :: P.zip vs) m p=_
  unfold bindC
  rw [nr fun v hv=>(List.nodup_cons.mp nd).1 (List.of_mem_zip hv).1,if_neg hk]
  simp
 | p :: P,w :: vs,i + 1,m,nd,h1,h2,hk=>by
  show bindC kindOf ((p,w) :: P.zip vs) m x=_
  unfold bindC
  exact nu (i:=i) (List.nodup_cons.mp nd).2 (by simpa using h1) (by simpa using h2) hk
def start (N:List Str) (vs:List V):St:=vs.map some ++ List.replicate (N.length - vs.length) none
def pS (CX:CXT) (P:Program) (w:World) (K:PySem.W.Frag) (mg:Str→Option Value) (base:Heap) (N:List Str) (qual:Str) (scope:Scope) (f:Addr) (cd:Value) (A:Around) (outer:List Env) (s:Shared) (H:Hp) (E:XK):Cx where
 prog:=P
 w:=w
 K:=K
 mg:=mg
 base:=base
 A:=A.deeper (envOfC qual scope s.heap.objs.size f cd)
 N:=N
 s₀:=s
 H₀:=H
 env:=envOfC qual scope s.heap.objs.size f cd
 outer:=outer
 stack:=envOfC qual scope s.heap.objs.size f cd :: outer
 ex:=[]
 calm:=true
 fn:=fun _=>true
 pn:=[]
 xe:=fun e s'=>wpAny (model P w) (A.deeper (envOfC qual scope s.heap.objs.size f cd)) (leaving (envOfC qual scope s.heap.objs.size f cd) e) (fun _ s''=>CX outer H s E e s'') (fun e' s''=>CX outer H s E e' s'') s'
theorem pU {sc:Scope} {n:Nat} {x:Str} (h:sc.names.lookup x=some .cell):∃ c,(cellsFrom n sc.names []).lookup x=some c:=by
 have q:=PySem.W.cellsFrom_some sc.names n [] (.inl h)
 exact Option.isSome_iff_exists.mp q
theorem uB {CX:CXT} {P:Program} {w:World} {K:PySem.W.Frag} {mg:Str→Option Value} {base:Heap} {N ps:List Str} {qual:Str} {scope:Scope} {f:Addr} {cd:Value} {A:Around} {outer:List Env} {s s1:Shared} {H:Hp} {E:XK} {us:List Value} {vs:List V}
  (S:FnScope N ps scope) (hd:A.handled=none) (e0:Env0 P w K mg base A outer s H) (hl:vs.length=ps.length) (r:Vals vs us)
  (x:InCallC s s.heap.objs.size (bindL (envOfC qual scope s.heap.objs.size f cd).kindOf (ps.zip us) fun _=>none) (cellsFrom (s.heap.objs.size + 1) scope.names []) (bindC (envOfC qual scope s.heap.objs.size f cd).kindOf (ps.zip us) fun _=>none) s1):
  Inv (pS CX P w K mg base N qual scope f cd A outer s H E) [] (start N vs) H s1:=by
 have hpl:ps.length≤N.length:=by have:=congrArg List.length S.pre; rw [List.length_take] at this; omega
 obtain ⟨h1,tk,rfl,hk⟩:=x.done
 have noA:∀ b:Addr,b ∉ (pS CX P w K mg base N qual scope f cd A outer s H E).ex:=fun b z=>absurd (show b ∈ ([]:List Addr) from z) (by simp)
 refine ⟨⟨e0.mod,S.kind,rfl,rfl,Nat.le_refl _,fun y z c h1 h2=>?_,fun y hy=>?_,fun y c _ h=>?_,fun _=>hd,Around.frames_deeper e0.frames,.inr ⟨rfl,rfl⟩,fun b z=>absurd z (noA b),e0.bs,e0.bsz,fun b _ _=>noA b,fun b z=>absurd z (noA b),e0.funs,e0.frf⟩,
  rfl,e0.bare,Un.kept hk,⟨_,x.toInCall.ns,fun i y v h1 h2 h3=>?_⟩,fun y c h=>⟨_,x.cell y c h⟩,e0.hok.fresh (Nat.le_refl _),fun y c h=>?_,fun p hp=>absurd (show p ∈ ([]:List (Addr × Obj)) from hp) (by simp),e0.hok.kept hk,?_⟩
 ·exact name_of_addr x.apart (PySem.mem_of_lookup h1) (PySem.mem_of_lookup h2)
 ·have hy:scope.names.lookup y=some .cell ∨ scope.names.lookup y=some .free:=hy
  rcases hy with hy | hy
  ·exact pU hy
  ·exact absurd rfl (S.nofree _ (PySem.mem_of_lookup hy))
 ·exact Nat.le_of_lt (x.above y c (PySem.mem_of_lookup h))
 ·have hi:i < vs.length:=by
   unfold start at h2
   by_cases hi:i < vs.length
   ·exact hi
   ·rw [List.getElem?_append_right (by simpa using hi)] at h2
    rw [List.getElem?_replicate] at h2
    split at h2 <;> cases h2
  have ha:vs[i]?=some v:=by
   unfold start at h2
   rw [List.getElem?_append_left (by simpa using hi),List.getElem?_map] at h2
   cases e:vs[i]? with
   | none=>rw [e] at h2; cases h2
   | some a=>rw [e] at h2; cases h2; rfl
  obtain ⟨u,hu,rv⟩:=r.get ha
  have hp:ps[i]?=some y:=by
   rw [← S.pre,List.getElem?_take_of_lt (by omega)]; exact h1
  have ndP:ps.Nodup:=by rw [← S.pre]; exact S.nd.sublist (List.take_sublist _ _)
  refine ⟨u,rv,?_⟩
  rcases S.par y (List.mem_of_getElem? hp) with k | k
  ·exact .inl ⟨k,nt ndP hp hu k⟩
  ·obtain ⟨c,e⟩:=pU (n:=s.heap.objs.size + 1) k
   refine .inr ⟨.inl k,c,e,?_⟩
   have q:=x.cell y c e
   rw [nu ndP hp hu (by show scope.names.lookup y ≠ _; rw [k]; decide)] at q
   exact q
 ·exact e0.hok.fresh (Nat.le_of_lt (x.above y c (PySem.mem_of_lookup h)))
 ·unfold start
  show _=N.length
  rw [List.length_append,List.length_map,List.length_replicate]
  omega
theorem Cp {CX:CXT} {P:Program} {w:World} {K:PySem.W.Frag} {mg:Str→Option Value} {base:Heap} {k:Nat} {f:Addr} {name qual:Str} {params:Arguments} {body:List Stmt} {scope:Scope} {dV kV doc pm cdv ct oc:Value} {an od:Option Addr}
  {osl:Array (Option Value)} {N ps:List Str} {sp:Sp} (lk:K.lookup f=some ⟨oc,od,.func (PySem.W.fnOf name qual params body scope dV kV doc pm an cdv ct),osl⟩) (hcd:PySem.W.codeIn K cdv qual=true) (S:FnScope N ps scope)
  (len:∀ vs H Q E,sp vs H Q E→vs.length=ps.length)
  (hbody:∀ (A:Around) (outer:List Env) (s:Shared) (H:Hp) (vs:List V) (Q:VK) (E:XK),Room k (A.deeper (envOfC qual scope s.heap.objs.size f cdv))→sp vs H Q E→
   ∃ t,PSs (pS CX P w K mg base N qual scope f cdv A outer s H E) body t∧t { nx:=fun _ H'=>Q .non H',rt:=Q } (start N vs) H):
  FnOk P w K mg base CX (k + 1) f (PySem.W.fnOf name qual params body scope dV kV doc pm an cdv ct) ps sp:=by
 refine ⟨len,fun A outer s H args us vs Q E hr e0 hb r hsp=>?_⟩
 have hl:=len _ _ _ _ hsp
 have KX:K.In s.heap:=e0.mod.kin.keeps fun b o e=>(e0.bs b o e).1
 have lim:s.heap.NoLimit:=e0.mod.nolimit.keeps fun b o e=>(e0.bs b o e).1
 have hkind:∀ y ∈ ps.zip us,scope.names.lookup y.1=some .local ∨ (scope.names.lookup y.1=some .cell∧((cellsFrom (s.heap.objs.size + 1) scope.names []).lookup y.1).isSome=true):=fun ⟨n,v⟩ hy=>by
  rcases S.par n (List.of_mem_zip hy).1 with q | q
  ·exact .inl q
  ·exact .inr ⟨q,PySem.W.cellsFrom_some _ _ _ (.inl q)⟩
 refine codeAny_call_function hr.depth (KX _ _ lk) rfl S.co S.gen rfl (PySem.W.codeRec_of KX hcd) (hb _ _ _ _ ?_)
 refine wpAny_newFunctionEnv_cells S.kind hkind fun env he s1 x=>?_
 subst he
 refine ⟨lim.keeps x.toInCall.keep,codeAny_func ?_⟩
 obtain ⟨t,ht,hq⟩:=hbody A outer s H vs Q E (hr.deeper _) hsp
 have I:Inv (pS CX P w K mg base N qual scope f cdv A outer s H E) [] (start N vs) H s1:=uB S hr.hd e0 hl r x
 refine wpAny_mono (ht [] s1 (start N vs) H _ I hq) (fun fl s' hs=>?_) fun e s' hs=>hs
 have fin:∀ {σ':St} {H':Hp} {v:V} {u:Value},Inv (pS CX P w K mg base N qual scope f cdv A outer s H E) [] σ' H' s'→RelV v u→Q v H'→CE outer P w H s Q u s':=
  fun {σ' H' v u} J rv q=>⟨v,H',J.os,J.bare,J.base,J.hok,rv,q⟩
 cases fl with
 | ret u=>
  obtain ⟨v,σ',H',J,rv,q⟩:=hs
  exact fin J rv q
 | next=>
  obtain ⟨σ',H',J,q⟩:=hs
  exact fin (v:=V.non) (u:=Value.none) J rfl q
 | brk=>
  obtain ⟨_,_,_,q⟩:=hs
  exact False.elim q
 | cont=>
  obtain ⟨_,_,_,q⟩:=hs
  exact False.elim q
end L2
namespace L2
open PySem PySem.Spec PyProof.Rows
section
variable {X:Cx} {x:Str} {p pos:Pos} {e:Expr} {es:List Expr} {t:TA} {id T:String} {r:List V→Hp→VK→Prop}
def tCB (r:List V→Hp→VK→Prop) (t:TA):TE:=fun σ H Q=>t σ H fun vs H1=>r vs H1 Q
theorem pV (hc:bL X (.builtin id) r) (hg:Gl X x) (hm:X.mg x=none) (hv:bootBuiltins x=some (.builtin id)) (ha:PA X (e :: es) t) (hn:autoParam (x ≠ "__name__") Au.h2._auto_1) (hdb:autoParam ((x == ("__debug__":Str))=false) Au.h2._auto_1)
  (he:autoParam (starEach (e :: es) X.env=(false,eval e X.env) :: starEach es X.env) Au.h1._auto_1) (hpl:autoParam ((backTo pos (starEach es X.env)).any (·.1)=false) Au.h1._auto_1):PE X (.Call (.Name x p) (e :: es) [] pos) (tCB r t):=by
 intro pins s σ H Q I h
 refine wpAny_Call_Name_kw (iB I hg hm hv ?_ hn hdb)
 exact PyProof.Rows.callWith_builtin1 (thn (ha pos pins s σ H _ I h) fun us s1 zq=>ex5 zq fun vs H1 I1 r1 q1=>hc pins s1 σ H1 vs us Q I1 r1 q1) he hpl
theorem nv (hc:bL X (.type T) r) (hg:Gl X x) (hm:X.mg x=none) (hv:bootBuiltins x=some (.type T)) (ha:PA X (e :: es) t) (hn:autoParam (x ≠ "__name__") Au.h2._auto_1) (hdb:autoParam ((x == ("__debug__":Str))=false) Au.h2._auto_1)
  (he:autoParam (starEach (e :: es) X.env=(false,eval e X.env) :: starEach es X.env) Au.h1._auto_1) (hpl:autoParam ((backTo pos (starEach es X.env)).any (·.1)=false) Au.h1._auto_1):PE X (.Call (.Name x p) (e :: es) [] pos) (tCB r t):=by
 intro pins s σ H Q I h
 refine wpAny_Call_Name_kw (iB I hg hm hv ?_ hn hdb)
 exact PyProof.Rows.callWith_type1 (thn (ha pos pins s σ H _ I h) fun us s1 zq=>ex5 zq fun vs H1 I1 r1 q1=>hc pins s1 σ H1 vs us Q I1 r1 q1) he hpl
end
end L2
namespace HT
open PySem PyProof.Rows
section
open PySem.SeqAt
open PySem.AutoSeq1 (wpAny_loadPart')
open PySem.MeetsSeq PySem.MeetsSeq2 PySem.MeetsSeq3
end
section
variable {prog:Program} {w:World} {A:Around} {E:Value→Shared→Prop} {s:Shared}
theorem cat_tup {t b:Addr} {vs ws:List Value} {Q:Value→Shared→Prop} (ht:IsTup s.heap t vs.toArray) (hb:IsTup s.heap b ws.toArray) (hv:vs ≠ [])
  (h1:ws=[]→Q (.ref t) s) (h2:ws ≠ []→Q (.ref s.heap.objs.size) { s with heap:=s.heap.push { cls:=.type "tuple",data:=.seq (vs ++ ws).toArray } })
  (hsz:vs.length + ws.length≤sizeLine):wpAny (model prog w) A (binaryOp .Add (.ref t) (.ref b)) Q E s:=by
 obtain ⟨⟨cls,dd,data,sl⟩,ho,hc,n,hd⟩:=id ht
 obtain ⟨⟨cls2,dd2,data2,sl2⟩,ho2,hc2,n2,hd2⟩:=id hb
 simp only at hc hd hc2 hd2
 subst hc hd hc2 hd2
 have e:vs.toArray ++ ws.toArray=(vs ++ ws).toArray:=by simp
 by_cases hw:ws=[]
 ·exact concat_meets ⟨_,ho,rfl⟩ ⟨_,ho2,rfl⟩ noFill_tuple_add seq_tuple_add PySem.F.slot_tuple_add PySem.F.entry_tuple_add (PySem.F.args_tuple_add_2 _ _)
   (tuple_addW1 t b vs.toArray ws.toArray n n2 dd dd2 sl sl2 (by simpa using hv) (by simp [hw])) ⟨ho,ho2,h1 hw⟩
 ·refine concat_meets ⟨_,ho,rfl⟩ ⟨_,ho2,rfl⟩ noFill_tuple_add seq_tuple_add PySem.F.slot_tuple_add PySem.F.entry_tuple_add (PySem.F.args_tuple_add_2 _ _)
   (tuple_addW2 t b vs.toArray ws.toArray n n2 dd dd2 sl sl2 (by simpa using hv) (by simpa using hw) (by rw [List.size_toArray,List.size_toArray]; exact hsz)) ⟨ho,ho2,?_⟩
  rw [e]
  exact h2 hw
end
end HT
namespace L2
open PySem PySem.Spec PyProof.Rows
abbrev TO:=St→Hp→(Option Int→Hp→Prop)→Prop
section
variable {X:Cx} {e:Expr} {te:TE} {lo hi:Option Expr} {tl th:TO} {pos p2:Pos}
def Cq (K:PySem.W.Frag):R2:=fun x y H Q=>∃ a b xs ys,x=.ref a∧y=.ref b∧SqT K H a xs∧SqT K H b ys∧xs ≠ []∧xs.length + ys.length≤sizeLine∧
 (ys=[]→Q (.ref a) H)∧(ys ≠ []→∀ p,H p=none→Q (.ref p) (upd H p (.tup (xs ++ ys))))
theorem Vals.nil_iff {xs:List V} {us:List Value} (r:Vals xs us):us=[]↔xs=[]:=by
 cases r with
 | nil=>simp
 | cons _ _=>simp
theorem xY:OpR X (binaryOp .Add) (Cq X.K):=by
 intro pins s σ H x y v u Q I rx ry h
 obtain ⟨a,b,xs,ys,rfl,rfl,ha,hb,hx,hz,q1,q2⟩:=h
 cases rx
 cases ry
 obtain ⟨its,r1,p1,_⟩:=I.tuple ha
 obtain ⟨its2,r2,p2,_⟩:=I.tuple hb
 refine HT.cat_tup p1 p2 (fun z=>hx (r1.nil_iff.mp z)) (fun z=>⟨.ref a,H,I,rfl,q1 (r2.nil_iff.mp z)⟩) (fun z=>?_) (by rw [← r1.length,← r2.length]; exact hz)
 refine ⟨.ref s.heap.objs.size,_,I.laid (t':=s.toks) (o:=.tup (xs ++ ys)) (fun b ob q=>Heap.get?_push_of_some _ q) (Nat.le_refl _) ?_,rfl,q2 (fun w=>z (r2.nil_iff.mpr w)) _ (I.hok.fresh (Nat.le_refl _))⟩
 exact ⟨by rw [List.length_append]; exact hz,_,r1.append r2,IsTup.new _ _⟩
end
end L2
namespace L2
open PySem PySem.Spec PyProof.Rows
def ixN (n:Nat) (i:Int):Option Nat:=if 0≤i then (if i < n then some i.toNat else none) else if -(n:Int)≤i then some (i + n).toNat else none
def atI {α:Type} (xs:List α) (i:Int):Option α:=(ixN xs.length i).bind fun j=>xs[j]?
theorem sO {n:Nat} {i:Int} {j:Nat} (h:ixN n i=some j):seqIndex? i n=some j∧j < n∧-(n:Int)≤i∧i < n:=by
 unfold ixN at h
 by_cases h0:0≤i
 ·rw [if_pos h0] at h
  by_cases h1:i < n
  ·rw [if_pos h1] at h
   have e:i.toNat=j:=Option.some.inj h
   exact ⟨by rw [seqIndex_of h0 h1,e],by omega,by omega,h1⟩
  ·rw [if_neg h1] at h; cases h
 ·rw [if_neg h0] at h
  by_cases h1:-(n:Int)≤i
  ·rw [if_pos h1] at h
   have e:(i + n).toNat=j:=Option.some.inj h
   exact ⟨by rw [seqIndex_neg (by omega) h1,e],by omega,h1,by omega⟩
  ·rw [if_neg h1] at h; cases h
theorem om {α:Type} {xs:List α} {i:Int} {v:α} (h:atI xs i=some v):∃ j,seqIndex? i xs.length=some j∧xs[j]?=some v∧j < xs.length∧-(xs.length:Int)≤i∧i < xs.length:=by
 unfold atI at h
 cases e:ixN xs.length i with
 | none=>rw [e] at h; cases h
 | some j=>
  rw [e] at h
  obtain ⟨h1,h2,h3,h4⟩:=sO e
  exact ⟨j,h1,h,h2,h3,h4⟩
theorem xZ {α:Type} {xs:List α} {j:Nat} {v:α} (h:xs[j]?=some v):atI xs (j:Int)=some v:=by
 have hj:j < xs.length:=(List.getElem?_eq_some_iff.mp h).1
 have e:ixN xs.length (j:Int)=some j:=by
  unfold ixN
  rw [if_pos (by omega),if_pos (by omega)]; simp
 unfold atI; rw [e]; exact h
def sP (b:Expr):Prop:=∀ o i,subscripted b false o i=operate [o,i] (getItem o i)
def IxR (X:Cx) (r:R2):Prop:=
 ∀ (value slice:Expr) (pins:List (Addr × Obj)) (s:Shared) (σ:St) (H:Hp) (x y:V) (v u:Value) (Q:VK),Inv X pins σ H s→RelV x v→RelV y u→r x y H Q→
  subscripted slice false v u=operate [v,u] (getItem v u)→wpAny (model X.prog X.w) X.A (subscriptTail value slice v u) (EP X pins σ Q) X.xe s
def MtR (X:Cx) (id:String) (r:V→List V→Hp→VK→Prop):Prop:=
 ∀ (pins:List (Addr × Obj)) (s:Shared) (σ:St) (H:Hp) (x:V) (xs:List V) (v:Value) (us:List Value) (Q:VK),Inv X pins σ H s→RelV x v→Vals xs us→r x xs H Q→
  wpAny (model X.prog X.w) X.A (call (.builtin id) (v :: us)) (EP X pins σ Q) X.xe s
section
variable {X:Cx} {a b:Expr} {ta tb:TE} {pos:Pos}
theorem IxR.or {r r':R2} (h:IxR X r) (h':IxR X r'):IxR X (fun x y H Q=>r x y H Q ∨ r' x y H Q):=by
 intro value slice pins s σ H x y v u Q I rx ry q hs
 rcases q with q | q
 ·exact h value slice pins s σ H x y v u Q I rx ry q hs
 ·exact h' value slice pins s σ H x y v u Q I rx ry q hs
theorem Cr {r:R2} (hr:IxR X r) (ha:PE X a ta) (hb:PE X b tb) (hs:sP b):PE X (.Subscript a b pos) (tOp r ta tb):=by
 intro pins s σ H Q I h
 exact Subscript_ (Ag ha hb I h fun v u s2 x y H2 I2 rx ry q=>hr a b pins s2 σ H2 x y v u Q I2 rx ry q (hs _ _))
def Cs (K:PySem.W.Frag):R2:=fun x y H Q=>∃ p xs i v,x=.ref p∧y=.int i∧SqL K H p xs∧atI xs i=some v∧Q v H
def Ct (K:PySem.W.Frag):R2:=fun x y H Q=>∃ p xs i v,x=.ref p∧y=.int i∧SqT K H p xs∧atI xs i=some v∧Q v H
def Cu:R2:=fun x y H Q=>∃ z i c,x=.str z∧y=.int i∧z.length≤sizeLine∧atI z.cps.toList i=some c∧Q (.str ⟨#[c]⟩) H
theorem x8:IxR X (Cs X.K):=by
 intro value slice pins s σ H x y v u Q I rx ry h hs
 obtain ⟨p,xs,i,z,rfl,rfl,hq,he,q⟩:=h
 cases rx
 obtain ⟨t,rfl⟩:=ry
 obtain ⟨its,r,pl,hz⟩:=I.list hq
 obtain ⟨j,h1,h2,h3,h4,h5⟩:=om he
 obtain ⟨w,ew,rw'⟩:=r.get h2
 have hl:=r.length
 have hn:=kg
 have fin:EP X pins σ Q w s:=⟨z,H,I,rw',q⟩
 by_cases h0:0≤i
 ·have hj:i.toNat=j:=by
   rw [seqIndex_of h0 h5] at h1
   exact Option.some.inj h1
  exact item_listR pl.isList h0 (by omega) (by rw [hj]; simpa using ew) fin hs
 ·have hj:(i + (its.toArray.size:Int)).toNat=j:=by
   rw [seqIndex_neg (by omega) h4] at h1
   rw [List.size_toArray,← hl]
   exact Option.some.inj h1
  exact subscriptTail_builtinR (x:=w) pl.isList.typeIs slot_list_getitem.lookup
   (wpAny_getItem_list_neg (Q:=fun r s'=>r=w∧EP X pins σ Q r s') pl.isList (by omega) (by rw [List.size_toArray] <;> omega) (by omega) (by rw [hj]; simpa using ew) ⟨rfl,fin⟩) hs
theorem oo:IxR X (Ct X.K):=by
 intro value slice pins s σ H x y v u Q I rx ry h hs
 obtain ⟨p,xs,i,z,rfl,rfl,hq,he,q⟩:=h
 cases rx
 obtain ⟨t,rfl⟩:=ry
 obtain ⟨its,r,pl,hz⟩:=I.tuple hq
 obtain ⟨j,h1,h2,h3,h4,h5⟩:=om he
 obtain ⟨w,ew,rw'⟩:=r.get h2
 have hl:=r.length
 have hn:=kg
 have fin:EP X pins σ Q w s:=⟨z,H,I,rw',q⟩
 exact subscriptTail_builtinR (x:=w) pl.typeIs slot_tuple_getitem.lookup
  (getItem_tuple (j:=j) (Q:=fun r s'=>r=w∧EP X pins σ Q r s') pl (by omega) (by omega) (by rw [List.size_toArray,← hl]; exact h1) (by simpa using ew) ⟨rfl,fin⟩) hs
theorem Ax:IxR X Cu:=by
 intro value slice pins s σ H x y v u Q I rx ry h hs
 obtain ⟨z,i,c,rfl,rfl,hz,he,q⟩:=h
 obtain ⟨t,rfl⟩:=rx
 obtain ⟨t',rfl⟩:=ry
 obtain ⟨j,h1,h2,h3,h4,h5⟩:=om he
 have hl:z.cps.toList.length=z.length:=by simp [Str.length]
 rw [hl] at h1 h4 h5
 have hn:=kg
 exact tail_any (typeIs_str s z t) slot_str_getitem.lookup (getItem_str (c:=c) (by
  have e1:decide (i < -(2 ^ 63:Int))=false:=decide_eq_false (by omega)
  have e2:decide (i ≥ 2 ^ 63)=false:=decide_eq_false (by omega)
  rw [e1,e2,Bool.or_false]) (by rw [h1]; simpa using h2) ⟨.str ⟨#[c]⟩,H,I.tok _,⟨_,rfl⟩,q⟩) hs
def rIx (K:PySem.W.Frag):R2:=fun x y H Q=>Cs K x y H Q ∨ Ct K x y H Q ∨ Cu x y H Q
theorem Ay:IxR X (rIx X.K):=x8.or (oo.or Ax)
theorem rL (its:List Value) (n j:Nat) (u:Value):Obj.mapSeq (·.setIfInBounds j u) { cls:=.type "list",data:=.seq its.toArray n }={ cls:=.type "list",data:=.seq (its.set j u).toArray n }:=by
 simp [Obj.mapSeq]
theorem Inv.lst {pins:List (Addr × Obj)} {σ:St} {H:Hp} {s:Shared} {p:Addr} {xs:List V} (I:Inv X pins σ H s) (h:H p=some (.lst xs)):
  ∃ (its:List Value) (n:Nat),Vals xs its∧s.heap.get? p=some { cls:=.type "list",data:=.seq its.toArray n }∧xs.length≤sizeLine:=by
 obtain ⟨z,its,n,r,e⟩:=I.hok p _ h
 exact ⟨its,n,r,e,z⟩
theorem Inv.lstUpd {pins:List (Addr × Obj)} {σ:St} {H:Hp} {s:Shared} {p:Addr} {xs ys:List V} {its its':List Value} {n n':Nat} {f:Obj→Obj} (I:Inv X pins σ H s) (h:H p=some (.lst xs))
  (ho:s.heap.get? p=some { cls:=.type "list",data:=.seq its.toArray n }) (hf:f { cls:=.type "list",data:=.seq its.toArray n }={ cls:=.type "list",data:=.seq its'.toArray n' }) (r:Vals ys its') (hz:ys.length≤sizeLine) (t:Nat):
  Inv X pins σ (upd H p (.lst ys)) { s with heap:=s.heap.update p f,toks:=t }:=by
 have e:(s.heap.update p f).get? p=some { cls:=.type "list",data:=.seq its'.toArray n' }:=by
  rw [Heap.get?_update_self f ho (by rw [hf] <;> rfl),hf]
 refine I.write (x:=p) (e:=p) (by rw [h]; trivial) (.inl rfl) (fun b u hb q=>(Heap.get?_update_other _ _ (Ne.symm hb)).trans q) ⟨_,e⟩ ?_
 exact ⟨hz,its',n',r,e⟩
def Cv:V→V→V→Hp→(Hp→Prop)→Prop:=fun o i v H Q=>∃ p xs k j,o=.ref p∧i=.int k∧H p=some (.lst xs)∧ixN xs.length k=some j∧Q (upd H p (.lst (xs.set j v)))
theorem set_list:oj X Cv:=by
 intro pins s σ H o i v ov iv u Q I ro ri rv h
 obtain ⟨p,xs,k,j,rfl,rfl,hp,hj,q⟩:=h
 cases ro
 obtain ⟨t,rfl⟩:=ri
 obtain ⟨its,n,r,ho,hz⟩:=I.lst hp
 obtain ⟨h1,h2,h3,h4⟩:=sO hj
 have hl:=r.length
 have hn:=kg
 have I':Inv X pins σ (upd H p (.lst (xs.set j v))) { s with heap:=s.heap.update p (Obj.mapSeq (·.setIfInBounds j u)) }:=
  I.lstUpd hp ho (rL its n j u) (r.set rv j) (by rw [List.length_set]; exact hz) s.toks
 by_cases h0:0≤k
 ·have hk:k.toNat=j:=by
   rw [seqIndex_of h0 h4] at h1
   exact Option.some.inj h1
  exact PySem.W.ki_setAt ho h0 (by omega) (by rw [List.size_toArray,← hl]; exact h4) (by rw [hk]; exact ⟨_,I',q⟩)
 ·have hk:(k + (its.toArray.size:Int)).toNat=j:=by
   rw [seqIndex_neg (by omega) h3] at h1
   rw [List.size_toArray,← hl]
   exact Option.some.inj h1
  exact PySem.W.ki_setBack ho (by omega) (by rw [List.size_toArray,← hl]; exact h3) (by omega) (by rw [hk]; exact ⟨_,I',q⟩)
def je:V→Bool
 | .non=>true
 | .bl _=>true
 | .int _=>true
 | .str _=>true
 | _=>false
def eqV:V→V→Bool
 | .non,.non=>true
 | .bl a,.bl b=>a == b
 | .bl a,.int b=>(if a then 1 else 0) == b
 | .int a,.bl b=>a == (if b then 1 else 0)
 | .int a,.int b=>a == b
 | .str a,.str b=>a == b
 | _,_=>false
theorem Az {A:Around} {s:Shared} {y x:V} {u v:Value} (ry:RelV y u) (rx:RelV x v) (fy:je y=true) (fx:je x=true):SeqAt.EqAt A s u v (eqV y x):=by
 cases y with
 | non=>
  cases ry
  cases x with
  | non=>cases rx; exact SeqAt.EqAt.same _
  | bl b=>cases rx; exact SeqAt.EqAt.none_bool b
  | int b=>obtain ⟨t,rfl⟩:=rx; exact SeqAt.EqAt.none_int b t
  | str b=>obtain ⟨t,rfl⟩:=rx; exact SeqAt.EqAt.none_str b t
  | _=>exact absurd (show false=true from fx) Bool.false_ne_true
 | bl a=>
  cases ry
  cases x with
  | non=>cases rx; exact SeqAt.EqAt.bool_none a
  | bl b=>cases rx; exact SeqAt.EqAt.bool_bool a b
  | int b=>obtain ⟨t,rfl⟩:=rx; exact SeqAt.EqAt.bool_int a b t
  | str b=>obtain ⟨t,rfl⟩:=rx; exact SeqAt.EqAt.bool_str a b t
  | _=>exact absurd (show false=true from fx) Bool.false_ne_true
 | int a=>
  obtain ⟨t',rfl⟩:=ry
  cases x with
  | non=>cases rx; exact SeqAt.EqAt.int_none a t'
  | bl b=>cases rx; exact SeqAt.EqAt.int_bool a t' b
  | int b=>obtain ⟨t,rfl⟩:=rx; exact SeqAt.EqAt.int_int a t' b t
  | str b=>obtain ⟨t,rfl⟩:=rx; exact SeqAt.EqAt.int_str a t' b t
  | _=>exact absurd (show false=true from fx) Bool.false_ne_true
 | str a=>
  obtain ⟨t',rfl⟩:=ry
  cases x with
  | non=>cases rx; exact SeqAt.EqAt.str_none a t'
  | bl b=>cases rx; exact SeqAt.EqAt.str_bool a t' b
  | int b=>obtain ⟨t,rfl⟩:=rx; exact SeqAt.EqAt.str_int a t' b t
  | str b=>obtain ⟨t,rfl⟩:=rx; exact SeqAt.EqAt.str_str a t' b t
  | _=>exact absurd (show false=true from fx) Bool.false_ne_true
 | _=>exact absurd (show false=true from fy) Bool.false_ne_true
def eqU (x:V) (u:Value):Bool:=match u with
 | .none=>eqV .non x
 | .bool b=>eqV (.bl b) x
 | .int i _=>eqV (.int i) x
 | .str z _=>eqV (.str z) x
 | _=>false
theorem vM {x y:V} {u:Value} (r:RelV y u) (f:je y=true):eqU x u=eqV y x:=by
 cases y with
 | non=>cases r; rfl
 | bl b=>cases r; rfl
 | int i=>obtain ⟨t,rfl⟩:=r; rfl
 | str z=>obtain ⟨t,rfl⟩:=r; rfl
 | _=>exact absurd (show false=true from f) Bool.false_ne_true
theorem jH {x:V}:∀ {xs:List V} {us:List Value},Vals xs us→xs.all je=true→us.any (eqU x)=xs.any fun y=>eqV y x
 | _,_,.nil,_=>rfl
 | y :: xs,u :: us,.cons r t,f=>by
  rw [List.all_cons,Bool.and_eq_true] at f
  rw [List.any_cons,List.any_cons,vM r f.1,jH t f.2]
theorem iC {A:Around} {s:Shared} {x:V} {v:Value} (rx:RelV x v) (fx:je x=true):∀ {xs:List V} {us:List Value},Vals xs us→xs.all je=true→∀ u ∈ us,SeqAt.EqAt A s u v (eqU x u)
 | _,_,.nil,_=>fun u hu=>by cases hu
 | y :: xs,u :: us,.cons r t,f=>fun u' hu=>by
  rw [List.all_cons,Bool.and_eq_true] at f
  rcases List.mem_cons.mp hu with rfl | hu
  ·rw [vM r f.1]; exact Az r rx f.1 fx
  ·exact iC rx fx t f.2 u' hu
def inV (x:V) (xs:List V):Bool:=xs.any fun y=>eqV y x
def rIn (K:PySem.W.Frag) (neg:Bool):R2:=fun x y H Q=>∃ p xs,y=.ref p∧(SqL K H p xs ∨ SqT K H p xs)∧je x=true∧xs.all je=true∧Q (.bl (if neg then !inV x xs else inV x xs)) H
theorem uC:OpR X (compareOp .In) (rIn X.K false):=by
 intro pins s σ H x y v u Q I rx ry h
 obtain ⟨p,xs,rfl,hq,fx,fs,q⟩:=h
 cases ry
 rcases hq with hq | hq
 ·obtain ⟨its,r,pl,hz⟩:=I.list hq
  refine SeqAt.in_listAt (eqU x) pl.isList (fun w hw=>iC rx fx r fs w (by simpa using hw)) ⟨.bl _,H,I,rfl,?_⟩
  rw [show its.toArray.any (eqU x)=its.any (eqU x) by simp,jH r fs]
  exact q
 ·obtain ⟨its,r,pl,hz⟩:=I.tuple hq
  refine SeqAt.in_tupleAt (eqU x) pl (fun w hw=>iC rx fx r fs w (by simpa using hw)) ⟨.bl _,H,I,rfl,?_⟩
  rw [show its.toArray.any (eqU x)=its.any (eqU x) by simp,jH r fs]
  exact q
theorem oq:OpR X (compareOp .NotIn) (rIn X.K true):=by
 intro pins s σ H x y v u Q I rx ry h
 obtain ⟨p,xs,rfl,hq,fx,fs,q⟩:=h
 cases ry
 rcases hq with hq | hq
 ·obtain ⟨its,r,pl,hz⟩:=I.list hq
  refine SeqAt.notIn_listAt (eqU x) pl.isList (fun w hw=>iC rx fx r fs w (by simpa using hw)) ⟨.bl _,H,I,rfl,?_⟩
  rw [show its.toArray.any (eqU x)=its.any (eqU x) by simp,jH r fs]
  exact q
 ·obtain ⟨its,r,pl,hz⟩:=I.tuple hq
  refine SeqAt.notIn_tupleAt (eqU x) pl (fun w hw=>iC rx fx r fs w (by simpa using hw)) ⟨.bl _,H,I,rfl,?_⟩
  rw [show its.toArray.any (eqU x)=its.any (eqU x) by simp,jH r fs]
  exact q
theorem ot:bL X (.builtin "len") (fun xs H Q=>∃ p ys,xs=[.ref p]∧(SqL X.K H p ys ∨ SqT X.K H p ys)∧Q (.int ys.length) H):=by
 intro pins s σ H xs us Q I r h
 obtain ⟨p,ys,rfl,hq,q⟩:=h
 obtain ⟨u,rfl,rx⟩:=vals1 r
 cases rx
 have hn:=kg
 rcases hq with hq | hq
 ·obtain ⟨its,r',pl,hz⟩:=I.list hq
  have hlen:=r'.length
  exact Calls.call_len_list pl.isList (by simp only [List.size_toArray] <;> omega) ⟨.int ys.length,H,I.tok _,⟨s.toks + 1,by rw [List.size_toArray,hlen]⟩,q⟩
 ·obtain ⟨its,r',pl,hz⟩:=I.tuple hq
  have hlen:=r'.length
  exact len_tuple pl (by simp only [List.size_toArray] <;> omega) ⟨.int ys.length,H,I.tok _,⟨s.toks + 1,by rw [List.size_toArray,hlen]⟩,q⟩
theorem ou:bL X (.builtin "len") (fun xs H Q=>∃ z,xs=[.str z]∧z.length≤sizeLine∧Q (.int z.length) H):=by
 intro pins s σ H xs us Q I r h
 obtain ⟨z,rfl,hz,q⟩:=h
 obtain ⟨u,rfl,t,rfl⟩:=vals1 r
 have hn:=kg
 exact len_str (by omega) ⟨.int z.length,H,I.tok _,⟨_,rfl⟩,q⟩
theorem jf:bL X (.type "tuple") (fun xs H Q=>∃ p ys,xs=[.ref p]∧((SqL X.K H p ys∧∀ l,H l=none→Q (.ref l) (upd H l (.tup ys))) ∨ (SqT X.K H p ys∧Q (.ref p) H))):=by
 intro pins s σ H xs us Q I r h
 obtain ⟨p,ys,rfl,h⟩:=h
 obtain ⟨u,rfl,rx⟩:=vals1 r
 cases rx
 rcases h with ⟨hq,q⟩ | ⟨hq,q⟩
 ·obtain ⟨its,r',pl,hz⟩:=I.list hq
  have hlen:=r'.length
  refine call_tuple_list pl.isList (fun h' kp=>?_) (by simp only [List.size_toArray] <;> omega)
  have I1:Inv X pins σ H { s with heap:=h' }:=I.kept (t':=s.toks) kp
  have I2:Inv X pins σ (upd H h'.objs.size (.tup ys)) { s with heap:=h'.push { cls:=.type "tuple",data:=.seq its.toArray } }:=
   I1.laid (t':=s.toks) (fun b o e=>Heap.get?_push_of_some _ e) (Nat.le_refl _) (show bG X.prog X.w _ _ _ (.tup ys) from ⟨hz,its,r',IsTup.new _ _⟩)
  exact ⟨.ref h'.objs.size,_,I2,rfl,q _ (I1.hok.fresh (Nat.le_refl _))⟩
 ·obtain ⟨its,r',pl,hz⟩:=I.tuple hq
  exact call_tuple_same pl ⟨.ref p,H,I,rfl,q⟩
def tyV (K:PySem.W.Frag) (T:String) (x:V) (H:Hp):Prop:=match x with
 | .str _=>T = "str"
 | .int _=>T = "int"
 | .ref p=>(T = "list"∧∃ xs,SqL K H p xs) ∨ (T = "tuple"∧∃ o,K.lookup p=some o∧o.cls=.type "tuple"∧o.dict=none) ∨
   (T = "dict"∧((∃ kvs,H p=some (.dK kvs)) ∨ ∃ kvs,H p=some (.dT kvs))) ∨ (T = "set"∧∃ S n,H p=some (.set S n))
 | _=>False
theorem AA {pins:List (Addr × Obj)} {σ:St} {H:Hp} {s:Shared} {T:String} {x:V} {v:Value} (I:Inv X pins σ H s) (r:RelV x v) (ty:tyV X.K T x H):
  s.TypeIs v T∧∀ a,v=.ref a→∃ ob,s.heap.get? a=some ob∧ob.dict=none:=by
 cases x with
 | str z=>
  obtain ⟨t,rfl⟩:=r
  cases (show T = "str" from ty)
  exact ⟨typeIs_str s z t,fun _ e=>nomatch e⟩
 | int i=>
  obtain ⟨t,rfl⟩:=r
  cases (show T = "int" from ty)
  exact ⟨typeIs_int s i t,fun _ e=>nomatch e⟩
 | ref p=>
  cases r
  rcases ty with ⟨rfl,xs,hq⟩ | ⟨rfl,o,hk,hc,hd⟩ | ⟨rfl,hk⟩ | ⟨rfl,S,n,hk⟩
  ·obtain ⟨its,_,pl,_⟩:=I.list hq
   refine ⟨pl.isList.typeIs,fun a e=>?_⟩
   cases e
   obtain ⟨o,n,e,c,hd,_⟩:=pl
   exact ⟨o,e,hd⟩
  ·refine ⟨⟨o,I.kIn p o hk,hc⟩,fun a e=>?_⟩
   cases e
   exact ⟨o,I.kIn _ o hk,hd⟩
  ·have z:∃ o,s.heap.get? p=some o∧o.ExactDict:=by
    rcases hk with ⟨kvs,hk⟩ | ⟨kvs,hk⟩
    ·obtain ⟨_,_,_,_,o,_,_,e,ex,_⟩:=I.hok p _ hk
     exact ⟨o,e,ex⟩
    ·obtain ⟨_,_,_,_,o,_,_,e,ex,_⟩:=I.hok p _ hk
     exact ⟨o,e,ex⟩
   obtain ⟨o,e,ex⟩:=z
   refine ⟨⟨o,e,ex.1⟩,fun a e2=>?_⟩
   cases e2
   exact ⟨o,e,ex.2.1⟩
  ·obtain ⟨o,_,_,_,e,ex,_⟩:=I.hok p _ hk
   refine ⟨⟨o,e,ex.1⟩,fun a e2=>?_⟩
   cases e2
   exact ⟨o,e,ex.2.1⟩
 | _=>exact False.elim ty
def tBM (K:PySem.W.Frag) (T:String) (r:V→List V→Hp→VK→Prop) (to:TE) (t:TA):TE:=fun σ H Q=>to σ H fun x H1=>tyV K T x H1∧t σ H1 fun xs H2=>r x xs H2 Q
variable {o e:Expr} {es:List Expr} {to:TE} {t:TA} {name:Str} {apos cpos:Pos} {T id:String} {r:V→List V→Hp→VK→Prop}
theorem Cw (pa:PlainAttrs T) (slot:Slot T name id) (hty:typeOf (.builtin id)=pure (.type "method_descriptor")) (hm:MtR X id r) (ho:PE X o to) (ha:PA X (e :: es) t)
  (hbase:autoParam (attributeBase o name X.env (eval o X.env)=eval o X.env) Au.h1._auto_1)
  (hfew:autoParam (((backTo cpos (starEach (e :: es) X.env)).all (fun x=>!x.1) && (backToKw cpos (keywordEach [] X.env)).all (fun x=>x.1.isSome)
   && decide ((e :: es).length + ([]:List Keyword).length + (if ([]:List Keyword).isEmpty then 0 else 1) < 30))=true) Au.h1._auto_1)
  (hline:autoParam ((apos.endLine == cpos.line)=true) Au.h1._auto_1) (hs:autoParam (starEach (e :: es) X.env=(false,eval e X.env) :: starEach es X.env) Au.h1._auto_1) (hplain:autoParam ((backTo cpos (starEach es X.env)).any (·.1)=false) Au.h1._auto_1):
  PE X (.Call (.Attribute o name apos) (e :: es) [] cpos) (tBM X.K T r to t):=by
 intro pins s σ H Q I h
 refine wpAny_Call_method_late hbase hfew hline rfl (thn (ho pins s σ H _ I h) fun v s1 zq=>?_)
 obtain ⟨x,H1,I1,r1,ty,q1⟩:=zq
 obtain ⟨h1,h2⟩:=AA I1 r1 ty
 refine ⟨T,id,pa,slot,hty,h1,h2,?_⟩
 have hA:=ha cpos pins s1 σ H1 _ I1 q1
 rw [hs] at hA ⊢
 refine Calls.callWith_builtin (by show (false || (backTo cpos (starEach es X.env)).any (·.1))=false; rw [hplain] <;> rfl) (Calls.evalArgs_plain ?_)
 exact thn hA fun us s2 zq=>ex5 zq fun vs H2 I2 r2 q2=>hm pins s2 σ H2 x vs v us Q I2 r1 r2 q2
end
end L2
namespace L2
open PySem PySem.Spec PyProof.Rows
def MtM (X:Cx) (id:String) (r:V→List V→Hp→VK→Prop):Prop:=
 ∀ (pins:List (Addr × Obj)) (s:Shared) (σ:St) (H:Hp) (x:V) (xs:List V) (v:Value) (us:List Value) (Q:VK),Inv X pins σ H s→RelV x v→Vals xs us→r x xs H Q→
  wpAny (model X.prog X.w) X.A (call (.builtin id) (v :: us)) (EP X pins σ Q) X.xe s
theorem Vals.one:∀ {x:V} {us:List Value},Vals [x] us→∃ u,us=[u]∧RelV x u
 | _,_,.cons r .nil=>⟨_,rfl,r⟩
theorem Vals.rep {xs:List V} {us:List Value} (h:Vals xs us):∀ k:Nat,Vals (List.replicate k xs).flatten (List.replicate k us).flatten
 | 0=>.nil
 | k + 1=>by
  rw [List.replicate_succ,List.replicate_succ,List.flatten_cons,List.flatten_cons]
  exact Vals.append h (Vals.rep h k)
theorem foldl_rep (its:List Value):∀ (k:Nat) (acc:List Value),
  List.foldl (fun x1 x2=>x1 ++ x2) acc.toArray (List.replicate k its.toArray)=(acc ++ (List.replicate k its).flatten).toArray
 | 0,acc=>by simp
 | k + 1,acc=>by
  have e:acc.toArray ++ its.toArray=(acc ++ its).toArray:=by simp
  have e2:(acc ++ its) ++ (List.replicate k its).flatten=acc ++ (List.replicate (k + 1) its).flatten:=by
   rw [List.replicate_succ,List.flatten_cons,List.append_assoc]
  rw [← e2,← foldl_rep its k (acc ++ its),← e,List.replicate_succ,List.foldl_cons]
section
variable {X:Cx} {pins:List (Addr × Obj)} {σ:St} {H:Hp} {s:Shared} {l b:Addr} {xs ys zs:List V}
theorem Inv.lset {its its':List Value} {n:Nat} {f:Array Value→Array Value} {t':Nat} (I:Inv X pins σ H s) (hH:H l=some (.lst xs))
  (e:s.heap.get? l=some { cls:=.type "list",data:=.seq its.toArray n }) (hf:f its.toArray=its'.toArray) (hv:Vals ys its') (hz:ys.length≤sizeLine):
  Inv X pins σ (upd H l (.lst ys)) { s with heap:=s.heap.update l (Obj.mapSeq f),toks:=t' }:=by
 have q:=PySem.IsL.update e f
 rw [hf] at q
 refine I.write (x:=l) (e:=l) (by rw [hH]; exact trivial) (.inl rfl) (fun b' u hb hu=>(Heap.get?_update_other s.heap (Obj.mapSeq f) (Ne.symm hb)).trans hu) ⟨_,q⟩ ?_
 exact ⟨hz,its',_,hv,q⟩
theorem Inv.lnew {its:List Value} {t':Nat} (I:Inv X pins σ H s) (hv:Vals ys its) (hz:ys.length≤sizeLine):
  Inv X pins σ (upd H s.heap.objs.size (.lst ys)) { s with heap:=s.heap.push { cls:=.type "list",data:=.seq its.toArray },toks:=t' }:=
 I.laid (fun _ _ q=>Heap.get?_push_of_some _ q) (Nat.le_refl _) ⟨hz,its,0,hv,Heap.get?_push_size _ rfl⟩
theorem Inv.fresh (I:Inv X pins σ H s):H s.heap.objs.size=none:=I.hok.fresh (Nat.le_refl _)
theorem Inv.lstM (I:Inv X pins σ H s) (hH:H l=some (.lst xs)):xs.length≤sizeLine∧∃ (its:List Value) (n:Nat),Vals xs its∧xs.length=its.length∧s.heap.get? l=some { cls:=.type "list",data:=.seq its.toArray n }:=by
 obtain ⟨z,its,n,r,e⟩:=I.hok l _ hH
 exact ⟨z,its,n,r,r.length,e⟩
theorem vN {n:Nat} (h:n≤sizeLine):Builtin.List.listTooLong n=false:=by
 unfold Builtin.List.listTooLong
 exact decide_eq_false (by omega)
end
section
variable {X:Cx}
def x9:V→List V→Hp→VK→Prop:=fun x vs H Q=>∃ l xs y,x=.ref l∧vs=[y]∧H l=some (.lst xs)∧xs.length < sizeLine∧Q .non (upd H l (.lst (xs ++ [y])))
theorem ny:MtM X "list.append" x9:=by
 intro pins s σ H x vs v us Q I rx rv h
 obtain ⟨l,xs,y,rfl,rfl,hH,hz,q⟩:=h
 cases rx
 obtain ⟨u,rfl,ru⟩:=rv.one
 obtain ⟨z,its,n,r,hl,e⟩:=I.lstM hH
 refine call_meets F.slot_list_append ⟨_,e,rfl⟩ F.entry_list_append (F.args_list_append_2 _ _) (PySem.list_append l its.toArray n u (by rw [List.size_toArray]; omega)) ⟨e,?_⟩
 refine ⟨.non,_,I.lset (its':=its ++ [u]) hH e (by simp) (r.append (.cons ru .nil)) ?_,rfl,q⟩
 rw [List.length_append,List.length_singleton]
 omega
def Dh:R2:=fun x y H Q=>∃ l b xs zs,x=.ref l∧y=.ref b∧H l=some (.lst xs)∧H b=some (.lst zs)∧xs.length + zs.length≤sizeLine∧∀ p,H p=none→Q (.ref p) (upd H p (.lst (xs ++ zs)))
theorem AB:OpR X (binaryOp .Add) Dh:=by
 intro pins s σ H x y v u Q I rx ry h
 obtain ⟨l,b,xs,zs,rfl,rfl,hH,hB,hz,q⟩:=h
 cases rx
 cases ry
 obtain ⟨z,its,n,r,hl,e⟩:=I.lstM hH
 obtain ⟨z2,its2,n2,r2,hl2,e2⟩:=I.lstM hB
 refine PySem.P.add_list e e2 ?_ (by rw [List.size_toArray,List.size_toArray]; omega)
 have ea:its.toArray ++ its2.toArray=(its ++ its2).toArray:=by simp
 rw [ea]
 exact ⟨.ref _,_,I.lnew (t':=s.toks) (r.append r2) (by rw [List.length_append]; omega),rfl,q _ I.fresh⟩
def Di:R2:=fun x y H Q=>∃ l k xs,x=.ref l∧y=.int k∧H l=some (.lst xs)∧-(2 ^ 63)≤k∧k < 2 ^ 63∧xs.length * k.toNat≤sizeLine∧
 ∀ p,H p=none→Q (.ref p) (upd H p (.lst (List.replicate k.toNat xs).flatten))
theorem len_rep {α:Type} (xs:List α) (k:Nat):(List.replicate k xs).flatten.length=k * xs.length:=by
 induction k with
 | zero=>simp
 | succ k ih=>rw [List.replicate_succ,List.flatten_cons,List.length_append,ih,Nat.succ_mul,Nat.add_comm]
theorem AD:OpR X (binaryOp .Mult) Di:=by
 intro pins s σ H x y v u Q I rx ry h
 obtain ⟨l,k,xs,rfl,rfl,hH,h1,h2,hz,q⟩:=h
 cases rx
 obtain ⟨t,rfl⟩:=ry
 obtain ⟨z,its,n,r,hl,e⟩:=I.lstM hH
 have hlen:its.toArray.size * k.toNat≤sizeLine:=by rw [List.size_toArray,← hl]; exact hz
 have hcap:¬ its.toArray.size * k.toNat > (2 ^ 63 - 1) / 8:=by
  have:(sizeLine:Nat)≤(2 ^ 63 - 1) / 8:=by decide
  omega
 have hfit:¬ (!Builtin.List.listFitsIndex k)=true:=by
  rw [fitsIndex_both h1 h2]
  exact Bool.false_ne_true
 have hlong:¬ Builtin.List.listTooLong (its.toArray.size * k.toNat)=true:=by
  rw [vN hlen]
  exact Bool.false_ne_true
 have hnew:List.foldl (fun x1 x2=>x1 ++ x2) #[] (List.replicate (if its.toArray.isEmpty=true then 0 else k.toNat) its.toArray)=(List.replicate k.toNat its).flatten.toArray:=by
  have f0:∀ m:Nat,List.foldl (fun x1 x2=>x1 ++ x2) #[] (List.replicate m its.toArray)=(List.replicate m its).flatten.toArray:=fun m=>by
   have:=foldl_rep its m []
   rw [List.nil_append] at this
   exact this
  rw [f0]
  cases its with
  | nil=>simp
  | cons a r'=>rw [if_neg (by simp)]
 refine wpAny_binaryOp_repeat_ref (T:="list") (U:="int") (by decide) ⟨_,e,rfl⟩ (fun s'=>typeIs_int s' k t) noFill_list_mul F.fills_int_mul F.slot_int_rmul repeat_list F.slot_int_index.lookup
  (call_meets F.slot_int_rmul (typeIs_int s k t) F.entry_int_rmul (F.args_int_rmul_2 _ _) (int___rmul___int_list k t l its.toArray n)
   ⟨e,rfl,⟨_,e,rfl⟩,call_meets F.slot_list_mul ⟨_,e,rfl⟩ F.entry_list_mul (F.args_list_mul_2 _ _) (AutoListH.list___mul___list_int_3 l its.toArray n k t hfit hcap hlong) ⟨e,?_⟩⟩)
 rw [hnew]
 exact ⟨.ref _,_,I.lnew (t':=s.toks) (r.rep k.toNat) (by rw [len_rep,Nat.mul_comm]; exact hz),rfl,q _ I.fresh⟩
end
section
variable {prog:Program} {w:World} {A:Around} {E:Value→Shared→Prop} {s:Shared}
end
section
variable {X:Cx}
end
end L2
namespace L2
open PySem PySem.Spec PyProof.Rows
section
variable {κ:Type} [DecidableEq κ]
def gI (kvs:List (κ × V)) (k:κ):Option V:=(kvs.find? fun kv=>decide (kv.1=k)).map (·.2)
def putK (kvs:List (κ × V)) (k:κ) (v:V):List (κ × V):=
 if (kvs.any fun kv=>decide (kv.1=k))=true then kvs.map (fun kv=>if kv.1=k then (kv.1,v) else kv) else kvs ++ [(k,v)]
theorem lE {p:κ × V} {r:List (κ × V)} {k:κ} (e:p.1=k):gI (p :: r) k=some p.2:=by simp [gI,List.find?_cons,e]
theorem lF {p:κ × V} {r:List (κ × V)} {k:κ} (e:¬ p.1=k):gI (p :: r) k=gI r k:=by simp [gI,List.find?_cons,e]
theorem pW (k:κ):∀ kvs:List (κ × V),(kvs.any fun kv=>decide (kv.1=k))=(gI kvs k).isSome
 | []=>rfl
 | p :: r=>by
  rw [List.any_cons]
  by_cases e:p.1=k
  ·simp only [lE e,decide_eq_true e,Bool.true_or,Option.isSome_some]
  ·rw [lF e,decide_eq_false e,Bool.false_or]; exact pW k r
theorem iD (kvs:List (κ × V)) (k:κ) (v:V):(putK kvs k v).length≤kvs.length + 1:=by
 unfold putK
 split
 ·rw [List.length_map]; omega
 ·rw [List.length_append,List.length_cons,List.length_nil]; omega
theorem kf.isSome_eq {o:Option V} {u:Option Value} (r:kf o u):o.isSome=u.isSome:=by
 cases o with
 | none=>cases u with
  | none=>rfl
  | some _=>exact (show False from r).elim
 | some _=>cases u with
  | none=>exact (show False from r).elim
  | some _=>rfl
theorem kf.getD {o:Option V} {u:Option Value} {d:V} {d':Value} (r:kf o u) (rd:RelV d d'):RelV (o.getD d) (u.getD d'):=by
 cases o with
 | none=>cases u with
  | none=>exact rd
  | some _=>exact (show False from r).elim
 | some _=>cases u with
  | none=>exact (show False from r).elim
  | some _=>exact r
theorem KV.val {kvs:List (κ × V)} {vs:List (κ × Value)} (r:KV kvs vs) (k:κ):kf (gI kvs k) (valueAt vs k):=by
 unfold KV at r
 induction r with
 | nil=>exact True.intro
 | @cons p q ps qs h t ih=>
  obtain ⟨h1,h2⟩:=h
  by_cases e:p.1=k
  ·have e':q.1=k:=h1.symm.trans e
   have b:valueAt (q :: qs) k=some q.2:=by simp [valueAt,List.find?_cons,e']
   rw [lE e,b]; exact h2
  ·have e':¬ q.1=k:=fun z=>e (h1.trans z)
   have b:valueAt (q :: qs) k=valueAt qs k:=by simp [valueAt,List.find?_cons,e']
   rw [lF e,b]; exact ih
theorem KV.any {kvs:List (κ × V)} {vs:List (κ × Value)} (r:KV kvs vs) (k:κ):(kvs.any fun kv=>decide (kv.1=k))=vs.any fun kv=>decide (kv.1=k):=by
 unfold KV at r
 induction r with
 | nil=>rfl
 | cons h t ih=>rw [List.any_cons,List.any_cons,ih,h.1]
theorem KV.repl {kvs:List (κ × V)} {vs:List (κ × Value)} (r:KV kvs vs) (k:κ) {y:V} {u:Value} (ry:RelV y u):
  KV (kvs.map fun kv=>if kv.1=k then (kv.1,y) else kv) (vs.map fun kv=>if kv.1=k then (kv.1,u) else kv):=by
 unfold KV at r ⊢
 induction r with
 | nil=>exact .nil
 | @cons p q ps qs h t ih=>
  rw [List.map_cons,List.map_cons]
  refine .cons ?_ ih
  obtain ⟨h1,h2⟩:=h
  by_cases e:p.1=k
  ·rw [if_pos e,if_pos (h1.symm.trans e)]; exact ⟨h1,ry⟩
  ·rw [if_neg e,if_neg (fun z=>e (h1.trans z))]; exact ⟨h1,h2⟩
theorem KV.put {kvs:List (κ × V)} {vs:List (κ × Value)} (r:KV kvs vs) (k:κ) {y:V} {u:Value} (ry:RelV y u):KV (putK kvs k y) (stored vs k u):=by
 unfold putK stored
 rw [r.any k]
 by_cases e:(vs.any fun kv=>decide (kv.1=k))=true
 ·rw [if_pos e,if_pos e]; exact r.repl k ry
 ·rw [if_neg e,if_neg e]; exact Paired.snoc r ⟨rfl,ry⟩
theorem KV.keys {kvs:List (κ × V)} {vs:List (κ × Value)} (r:KV kvs vs):kvs.map (·.1)=vs.map (·.1):=by
 unfold KV at r
 induction r with
 | nil=>rfl
 | cons h t ih=>rw [List.map_cons,List.map_cons,ih,h.1]
theorem KV.length {kvs:List (κ × V)} {vs:List (κ × Value)} (r:KV kvs vs):kvs.length=vs.length:=Paired.length r
end
theorem jI {P:Program} {w:World} {k:Key} {u:Value} (r:RelV (kV k) u):(aP P w).is k u=true:=by
 cases k with
 | inl i=>obtain ⟨t,e⟩:=(show ∃ t,u=Value.int i t from r); subst e; exact pL P w i t
 | inr x=>obtain ⟨t,e⟩:=(show ∃ t,u=Value.str x t from r); subst e; exact pN P w x t
theorem nz {P:Program} {w:World}:∀ {ks:List Key} {us:List Value},Vals (ks.map kV) us→ItemsAre (aP P w) ks us
 | [],_,r=>by rw [List.map_nil] at r; cases r; exact .nil
 | k :: ks,_,r=>by
  rw [List.map_cons] at r
  cases r with
  | cons h t=>exact .cons (jI h) (nz t)
abbrev KT (H:Hp):List (List Key × V)→List (List Key × Addr × Value)→Prop:=Paired fun p q=>p.1=q.1∧H q.2.1=some (.tup (p.1.map kV))∧RelV p.2 q.2.2
theorem KT.val {H:Hp} {kvs:List (List Key × V)} {xs:List (List Key × Addr × Value)} (r:KT H kvs xs) (k:List Key):kf (gI kvs k) ((atKey xs k).map (·.2)):=by
 induction r with
 | nil=>exact True.intro
 | @cons p q ps qs h t ih=>
  obtain ⟨h1,_,h2⟩:=h
  by_cases e:p.1=k
  ·have e':q.1=k:=h1.symm.trans e
   have b:atKey (q :: qs) k=some q.2:=by simp [atKey,List.find?_cons,e']
   rw [lE e,b]; exact h2
  ·have e':¬ q.1=k:=fun z=>e (h1.trans z)
   have b:atKey (q :: qs) k=atKey qs k:=by simp [atKey,List.find?_cons,e']
   rw [lF e,b]; exact ih
theorem KT.repl {H:Hp} {kvs:List (List Key × V)} {xs:List (List Key × Addr × Value)} (r:KT H kvs xs) (k:List Key) {y:V} {u:Value} (ry:RelV y u):
  KT H (kvs.map fun kv=>if kv.1=k then (kv.1,y) else kv) (xs.map (putAt k u)):=by
 induction r with
 | nil=>exact .nil
 | @cons p q ps qs h t ih=>
  rw [List.map_cons,List.map_cons]
  refine .cons ?_ ih
  obtain ⟨h1,h2,h3⟩:=h
  unfold putAt
  by_cases e:p.1=k
  ·rw [if_pos e,if_pos (h1.symm.trans e)]; exact ⟨h1,h2,ry⟩
  ·rw [if_neg e,if_neg (fun z=>e (h1.trans z))]; exact ⟨h1,h2,h3⟩
theorem KT.put {H:Hp} {kvs:List (List Key × V)} {xs:List (List Key × Addr × Value)} (r:KT H kvs xs) (k:List Key) {b:Addr} {y:V} {u:Value} (hb:H b=some (.tup (k.map kV))) (ry:RelV y u):
  KT H (putK kvs k y) (storedH xs k b u):=by
 have e:(kvs.any fun kv=>decide (kv.1=k))=(atKey xs k).isSome:=by
  rw [pW,(r.val k).isSome_eq,Option.isSome_map]
 unfold putK storedH
 rw [e]
 by_cases q:(atKey xs k).isSome=true
 ·rw [if_pos q,if_pos q]; exact r.repl k ry
 ·rw [if_neg q,if_neg q]; exact Paired.snoc r ⟨rfl,hb,ry⟩
theorem KT.keeps {H H':Hp} {kvs:List (List Key × V)} {xs:List (List Key × Addr × Value)} (r:KT H kvs xs) (ht:∀ b ys,H b=some (.tup ys)→H' b=some (.tup ys)):KT H' kvs xs:=
 Paired.mapP r fun _ _ z=>⟨z.1,ht _ _ z.2.1,z.2.2⟩
section
variable {P:Program} {w:World} {H:Hp} {h:Heap} {a:Addr}
theorem zo {u:HO} (ok:HOk P w H h) (e:Rd H a u):bG P w H h a u:=e.ok ok
theorem iw {kvs:List (Key × V)} (ok:HOk P w H h) (e:Rd H a (.dK kvs)):kvs.length≤sizeLine∧(a == sysModules)=false∧∃ vs,KV kvs vs∧h.DictOf (aP P w) a vs:=
 show bG P w H h a (.dK kvs) from zo ok e
theorem zp {kvs:List (Key × V)} (ok:HOk P w H h) (e:H a=some (.dK kvs)):kvs.length≤sizeLine∧(a == sysModules)=false∧∃ vs,KV kvs vs∧h.DictOf (aP P w) a vs:=iw ok (.inl e)
theorem jt {ks:List Key} (ok:HOk P w H h) (e:H a=some (.tup (ks.map kV))):(tupleKind (aP P w)).is h ks a:=by
 obtain ⟨_,its,r,o,h1,h2,n,h3⟩:=(show bG P w H h a (.tup (ks.map kV)) from ok a _ e)
 exact ⟨o,its.toArray,n,h1,h2,h3,by simpa using nz r⟩
theorem kG {kvs:List (List Key × V)} (ok:HOk P w H h) (e:Rd H a (.dT kvs)):kvs.length≤sizeLine∧(a == sysModules)=false∧
  ∃ xs,KT H kvs xs∧h.DictOfH (tupleKind (aP P w)) a xs:=by
 obtain ⟨z,y,xs,r,o,es,ep,h1,h2,h3,h4,h5⟩:=(show bG P w H h a (.dT kvs) from zo ok e)
 refine ⟨z,y,xs,r,o,es,ep,h1,h2,h3,h4,fun x hx=>?_,h5⟩
 have all:∀ {l:List (List Key × V)} {m:List (List Key × Addr × Value)},KT H l m→∀ x ∈ m,(tupleKind (aP P w)).is h x.1 x.2.1:=by
  intro l m q
  induction q with
  | nil=>intro x hx; exact nomatch hx
  | @cons p q ps qs hq t ih=>
   intro x hx
   rcases List.mem_cons.mp hx with e | hx
   ·subst e
    exact jt ok (by rw [← hq.1]; exact hq.2.1)
   ·exact ih x hx
 exact all r x hx
theorem Cy {kvs:List (List Key × V)} (ok:HOk P w H h) (e:H a=some (.dT kvs)):kvs.length≤sizeLine∧(a == sysModules)=false∧
  ∃ xs,KT H kvs xs∧h.DictOfH (tupleKind (aP P w)) a xs:=kG ok (.inl e)
end
def ow (H:Hp) (a:Addr) (y:V) (r:Option V):Prop:=
 (∃ kvs k,Rd H a (.dK kvs)∧y=kV k∧r=gI kvs k) ∨ ∃ kvs k b,Rd H a (.dT kvs)∧y=.ref b∧H b=some (.tup (k.map kV))∧r=gI kvs k
def ya (H:Hp) (a:Addr) (y v:V) (H':Hp):Prop:=
 (∃ kvs k,H a=some (.dK kvs)∧y=kV k∧kvs.length < sizeLine∧H'=upd H a (.dK (putK kvs k v))) ∨
 ∃ kvs k b,H a=some (.dT kvs)∧y=.ref b∧H b=some (.tup (k.map kV))∧kvs.length < sizeLine∧H'=upd H a (.dT (putK kvs k v))
theorem ya.k {H:Hp} {a:Addr} {kvs:List (Key × V)} {k:Key} {v:V} (e:H a=some (.dK kvs)) (hl:kvs.length < sizeLine):ya H a (kV k) v (upd H a (.dK (putK kvs k v))):=.inl ⟨kvs,k,e,rfl,hl,rfl⟩
section
variable {X:Cx} {pins:List (Addr × Obj)} {σ:St} {H:Hp} {s:Shared} {a:Addr} {y v:V} {u r:Value} {o:Option V} {A:Around} {E:Value→Shared→Prop}
theorem Inv.big (I:Inv X pins σ H s):sysModules < s.heap.objs.size:=by
 have h:mainGlobals < s.heap.objs.size:=(I.mod.glob.keeps I.bk).lt
 exact Nat.lt_trans (by decide) h
theorem uD {Q:Value→Shared→Prop} (hu:A.units + 1 < cLine) (I:Inv X pins σ H s) (g:ow H a y (some v)) (ry:RelV y u) (h:∀ w' s',Inv X pins σ H s'→RelV v w'→Q w' s'):
  wpAny (model X.prog X.w) A (getItem (.ref a) u) Q E s:=by
 rcases g with ⟨kvs,k,e,ey,l⟩ | ⟨kvs,k,b,e,ey,eb,l⟩
 ·subst ey
  obtain ⟨z,hd,vs,rel,dd⟩:=iw I.hok e
  obtain ⟨w',hw,rw'⟩:=kf.some_of (v:=v) (o:=valueAt vs k) (by rw [l]; exact rel.val k)
  exact wpAny_getItem_of (jI ry) dd.mapOf hw (h w' _ (I.tok _) rw')
 ·subst ey
  cases (show u=Value.ref b from ry)
  obtain ⟨z,hd,xs,rel,dd⟩:=kG I.hok e
  obtain ⟨w',hw,rw'⟩:=kf.some_of (v:=v) (o:=(atKey xs k).map (·.2)) (by rw [l]; exact rel.val k)
  obtain ⟨p,hp,hp2⟩:=Option.map_eq_some_iff.mp hw
  refine wpAny_getItem_heap (tupleKind_room_in1 hu) (jt I.hok eb) dd hp ?_
  rw [hp2]
  exact h w' _ (I.tok _) rw'
theorem Dj {Q:Value→Shared→Prop} (hu:A.units + 1 < cLine) (I:Inv X pins σ H s) (g:ow H a y o) (ry:RelV y u) (h:∀ s',Inv X pins σ H s'→Q (.bool o.isSome) s'):
  wpAny (model X.prog X.w) A (compareOp .In u (.ref a)) Q E s:=by
 rcases g with ⟨kvs,k,e,ey,l⟩ | ⟨kvs,k,b,e,ey,eb,l⟩
 ·subst ey
  obtain ⟨z,hd,vs,rel,dd⟩:=iw I.hok e
  refine wpAny_in_of (jI ry) hd dd.mapOf ?_
  rw [← (rel.val k).isSome_eq,← l]
  exact h _ (I.tok _)
 ·subst ey
  cases (show u=Value.ref b from ry)
  obtain ⟨z,hd,xs,rel,dd⟩:=kG I.hok e
  refine wpAny_in_heap (tupleKind_room_in1 hu) (jt I.hok eb) hd dd ?_
  have q:=(rel.val k).isSome_eq
  rw [Option.isSome_map] at q
  rw [← q,← l]
  exact h _ (I.tok _)
theorem yb {Q:Value→Shared→Prop} (hu:A.units + 1 < cLine) (I:Inv X pins σ H s) (g:ow H a y o) (ry:RelV y u) (h:∀ s',Inv X pins σ H s'→Q (.bool (!o.isSome)) s'):
  wpAny (model X.prog X.w) A (compareOp .NotIn u (.ref a)) Q E s:=by
 rcases g with ⟨kvs,k,e,ey,l⟩ | ⟨kvs,k,b,e,ey,eb,l⟩
 ·subst ey
  obtain ⟨z,hd,vs,rel,dd⟩:=iw I.hok e
  refine wpAny_notIn_of (jI ry) hd dd.mapOf ?_
  rw [← (rel.val k).isSome_eq,← l]
  exact h _ (I.tok _)
 ·subst ey
  cases (show u=Value.ref b from ry)
  obtain ⟨z,hd,xs,rel,dd⟩:=kG I.hok e
  refine wpAny_notIn_heap (tupleKind_room_in1 hu) (jt I.hok eb) hd dd ?_
  have q:=(rel.val k).isSome_eq
  rw [Option.isSome_map] at q
  rw [← q,← l]
  exact h _ (I.tok _)
theorem oy {h':Heap} {t':Nat} {ob:HO} (I:Inv X pins σ H s) (mu:Mut (H a)) (hs:Heap.SameBut a s.heap h') (he:∃ q,h'.get? a=some q) (new:bG X.prog X.w (upd H a ob) h' a ob):
  Inv X pins σ (upd H a ob) { s with heap:=h',toks:=t' }:=
 I.write (x:=a) (e:=a) mu (.inl rfl) (fun b q hb z=>(hs.2 b hb).trans z) he new
theorem vO {P:Program} {w:World} {H':Hp} {h':Heap} {kvs:List (Key × V)} {vs:List (Key × Value)} (z:kvs.length≤sizeLine) (hd:(a == sysModules)=false) (rel:KV kvs vs) (dd:h'.DictOf (aP P w) a vs):
  bG P w H' h' a (.dK kvs):=⟨z,hd,vs,rel,dd⟩
theorem uF {H':Hp} {Q:Unit→Shared→Prop} (hu:A.units + 1 < cLine) (I:Inv X pins σ H s) (g:ya H a y v H') (ry:RelV y u) (rv:RelV v r) (h:∀ s',Inv X pins σ H' s'→Q () s'):
  wpAny (model X.prog X.w) A (setItem (.ref a) u r) Q E s:=by
 rcases g with ⟨kvs,k,e,ey,l,eH⟩ | ⟨kvs,k,b,e,ey,eb,l,eH⟩
 ·subst ey eH
  obtain ⟨z,hd,vs,rel,dd⟩:=zp I.hok e
  have hz:vs.length≤sizeLine:=by rw [← rel.length]; exact z
  have hl:(putK kvs k v).length≤sizeLine:=by have:=iD kvs k v; omega
  refine wpAny_setItem_pairs (hsz:=hz) (jI ry) dd fun h' dd' hs=>h _ ?_
  have he:∃ q,h'.get? a=some q:=let ⟨q,_,_,hq,_⟩:=dd'; ⟨q,hq⟩
  exact oy I (by rw [e]; exact True.intro) hs he (vO hl hd (rel.put k rv) dd')
 ·subst ey eH
  cases (show u=Value.ref b from ry)
  obtain ⟨z,hd,xs,rel,dd⟩:=Cy I.hok e
  have hz:xs.length≤sizeLine:=by rw [← Paired.length rel]; exact z
  have hl:(putK kvs k v).length≤sizeLine:=by have:=iD kvs k v; omega
  refine wpAny_setItem_heap (hsz:=hz) (tupleKind_room_in1 hu) (jt I.hok eb) dd fun h' dd' hs=>h _ ?_
  obtain ⟨q,es,ep,hq,h2,h3,h4,_,h5⟩:=dd'
  refine oy I (by rw [e]; exact True.intro) hs ⟨q,hq⟩ ⟨hl,hd,_,(rel.put k eb rv).keeps fun c ys ec=>?_,q,es,ep,hq,h2,h3,h4,h5⟩
  rw [aB (BR ec e (fun z=>nomatch z))]
  exact ec
end
section
variable {X:Cx} {pins:List (Addr × Obj)} {σ:St} {H:Hp} {s:Shared} {a:Addr} {kvs:List (Key × V)} {k:Key} {u:Value} {A:Around} {E:Value→Shared→Prop}
theorem Cz {Q:Value→Shared→Prop} (I:Inv X pins σ H s) (e:Rd H a (.dK kvs)) (h:∀ t s',Inv X pins σ H s'→Q (.int kvs.length t) s'):wpAny (model X.prog X.w) A (call (.builtin "len") [.ref a]) Q E s:=by
 obtain ⟨z,hd,vs,rel,dd⟩:=iw I.hok e
 refine call_len_dict hd dd (by rw [← rel.length]; rw [sizeLine_eq] at z; omega) ?_
 rw [← rel.length]
 exact h _ _ (I.tok _)
end
theorem pX {X:Cx} {pins:List (Addr × Obj)} {σ:St} {H:Hp} {s:Shared} {a:Addr} {y:V} {o:Option V} (I:Inv X pins σ H s) (g:ow H a y o):s.TypeIs (.ref a) "dict":=by
 rcases g with ⟨kvs,k,e,_,_⟩ | ⟨kvs,k,b,e,_,_,_⟩
 ·obtain ⟨_,_,vs,_,dd⟩:=iw I.hok e
  exact dd.typeIs
 ·obtain ⟨_,_,xs,_,dd⟩:=kG I.hok e
  exact dd.typeIs
section
variable {X:Cx} {o i e value:Expr} {pos pos' tpos:Pos} {td ty tv:TE}
end
theorem pY {P:Program} {w:World} {H:Hp} (h:Heap) (hb:sysModules < h.objs.size):bG P w H (h.push { cls:=.type "dict",data:=.dict #[] }) h.objs.size (.dK []):=
 ⟨Nat.zero_le _,beq_eq_false_iff_ne.mpr (Ne.symm (Nat.ne_of_lt hb)),[],.nil,Heap.DictOf.new h⟩
def AE:TE:=fun _ H Q=>∀ p,H p=none→Q (.ref p) (upd H p (.dK []))
section
variable {X:Cx} {pos:Pos}
theorem vP:PE X (.Dict [] [] pos) AE:=fun pins s σ H Q I h=>
 wpAny_Dict_empty ⟨.ref s.heap.objs.size,_,I.laid (a:=s.heap.objs.size) (o:=.dK []) (t':=s.toks) (fun _ _ q=>Heap.get?_push_of_some _ q) (Nat.le_refl _) (pY s.heap I.big),rfl,h _ (I.hok.fresh (Nat.le_refl _))⟩
end
def oz:List (TE × TE)→St→Hp→(List (V × V)→Hp→Prop)→Prop
 | [],_,H,Q=>Q [] H
 | (tk,tv) :: r,σ,H,Q=>tk σ H fun x H1=>tv σ H1 fun y H2=>oz r σ H2 fun ps H3=>Q ((x,y) :: ps) H3
abbrev VV:List (V × V)→List (Value × Value)→Prop:=Paired fun p q=>RelV p.1 q.1∧RelV p.2 q.2
def PPs (X:Cx) (pos:Pos) (keys:List (Option Expr)) (values:List Expr) (trs:List (TE × TE)):Prop:=
 ∀ (pins:List (Addr × Obj)) (s:Shared) (σ:St) (H:Hp) (Q:List (V × V)→Hp→Prop),Inv X pins σ H s→oz trs σ H Q→
  wpAny (model X.prog X.w) X.A (evalPairs (pairTrees keys values X.env pos)) (fun vs s'=>∃ ps H',Inv X pins σ H' s'∧VV ps vs∧Q ps H') X.xe s
theorem yc {X:Cx} {pos:Pos}:PPs X pos [] [] []:=fun pins s σ H Q I h=>pairTrees_nil_walk ⟨[],H,I,.nil,h⟩
theorem vQ {X:Cx} {pos:Pos} {k v:Expr} {ks:List (Option Expr)} {vs:List Expr} {tk tv:TE} {trs:List (TE × TE)} (hk:PE X k tk) (hv:PE X v tv) (hr:PPs X pos ks vs trs):
  PPs X pos (some k :: ks) (v :: vs) ((tk,tv) :: trs):=fun pins s σ H Q I h=>
 pairTrees_cons_walk (thn (hk pins s σ H _ I h) fun u s1 zq=>ex5 zq fun x H1 I1 rx q1=>thn (hv pins s1 σ H1 _ I1 q1) fun w2 s2 zq=>ex5 zq fun y H2 I2 ry q2=>
  thn (hr pins s2 σ H2 _ I2 q2) fun ws s3 zq=>ex5 zq fun ps H3 I3 rel q3=>⟨(x,y) :: ps,H3,I3,.cons ⟨rx,ry⟩ rel,q3⟩)
def fm (kvs more:List (Key × V)):List (Key × V):=more.foldl (fun acc kv=>putK acc kv.1 kv.2) kvs
theorem KV.merge:∀ {more:List (Key × V)} {rs:List (Key × Value)} {kvs:List (Key × V)} {vs:List (Key × Value)},KV more rs→KV kvs vs→KV (fm kvs more) (merged vs rs):=by
 intro more rs kvs vs r
 unfold KV at r
 induction r generalizing kvs vs with
 | nil=>intro q; exact q
 | @cons p q ps qs h t ih=>
  intro r0
  have e:KV (putK kvs p.1 p.2) (stored vs q.1 q.2):=by
   have:=r0.put p.1 h.2
   rw [← h.1]; exact this
  exact ih e
theorem jg:∀ (more kvs:List (Key × V)),(fm kvs more).length≤kvs.length + more.length
 | [],kvs=>by show kvs.length≤kvs.length + 0; omega
 | p :: r,kvs=>by
  have h1:=jg r (putK kvs p.1 p.2)
  have h2:=iD kvs p.1 p.2
  show (fm (putK kvs p.1 p.2) r).length≤_
  rw [List.length_cons]; omega
theorem lG {P:Program} {w:World}:∀ {kvs:List (Key × V)} {ws:List (Value × Value)},VV (kvs.map fun kv=>(kV kv.1,kv.2)) ws→∃ rs,Carries (aP P w) ws rs∧KV kvs rs
 | [],_,r=>by rw [List.map_nil] at r; cases r; exact ⟨[],True.intro,.nil⟩
 | p :: kvs,_,r=>by
  rw [List.map_cons] at r
  cases r with
  | @cons a b as bs h t=>
   obtain ⟨rs,c,q⟩:=lG (P:=P) (w:=w) t
   obtain ⟨b1,b2⟩:=b
   exact ⟨(p.1,b2) :: rs,⟨jI h.1,rfl,c⟩,.cons ⟨rfl,h.2⟩ q⟩
def zr (trs:List (TE × TE)):TE:=fun σ H Q=>∀ p,H p=none→oz trs σ (upd H p (.dK [])) fun ps H2=>H2 p=some (.dK [])∧∃ kvs:List (Key × V),ps=kvs.map (fun kv=>(kV kv.1,kv.2))∧kvs.length≤15∧Q (.ref p) (upd H2 p (.dK (fm [] kvs)))
theorem yd {X:Cx} {pos:Pos} {keys:List (Option Expr)} {values:List Expr} {trs:List (TE × TE)} (h:PPs X pos keys values trs) (hall:keys.all (·.isSome)=true) (hl:keys.length=values.length) (h0:keys ≠ [])
  (h15:keys.length≤15):PE X (.Dict keys values pos) (zr trs):=by
 intro pins s σ H Q I q
 have hn:=I.hok.fresh (Nat.le_refl s.heap.objs.size)
 have I1:=I.laid (a:=s.heap.objs.size) (o:=.dK []) (h':=s.heap.push { cls:=.type "dict",data:=.dict #[] }) (t':=s.toks) (fun _ _ q=>Heap.get?_push_of_some _ q) (Nat.le_refl _) (pY s.heap I.big)
 refine wpAny_Dict_walk (knd:=aP X.prog X.w) hall hl h0 h15 (thn (h pins _ σ _ _ I1 (q _ hn)) fun ws s2 zq=>?_)
 obtain ⟨ps,H2,I2,rel,e,kvs,ep,lk,q2⟩:=zq
 subst ep
 obtain ⟨rs,c,rk⟩:=lG (P:=X.prog) (w:=X.w) rel
 obtain ⟨z,hd,vs0,r0,dd⟩:=zp I2.hok e
 cases r0
 refine ⟨rs,c,dd,fun h' dd' hs=>⟨.ref s.heap.objs.size,_,?_,rfl,q2⟩⟩
 have hz:(fm [] kvs).length≤sizeLine:=by
  have h1:=jg kvs []
  rw [List.length_nil] at h1
  rw [sizeLine_eq]; omega
 have he:∃ q,h'.get? s.heap.objs.size=some q:=let ⟨q,_,_,hq,_⟩:=dd'; ⟨q,hq⟩
 exact oy I2 (by rw [e]; exact True.intro) hs he (vO hz hd (rk.merge .nil) dd')
structure M1 (X:Cx) (o:Expr) (m:Str) (apos:Pos) (e:Expr) (cpos:Pos):Prop where
 base:attributeBase o m X.env (eval o X.env)=eval o X.env
 few:((backTo cpos (starEach [e] X.env)).all (fun x=>!x.1) && (backToKw cpos (keywordEach [] X.env)).all (fun x=>x.1.isSome)
  && decide (([e]:List Expr).length + ([]:List Keyword).length + (if ([]:List Keyword).isEmpty then 0 else 1) < 30))=true
 line:(apos.endLine == cpos.line)=true
 trees:backTo cpos (starEach [e] X.env)=[(false,eval e X.env)]
structure M2 (X:Cx) (o:Expr) (m:Str) (apos:Pos) (e f:Expr) (cpos:Pos):Prop where
 base:attributeBase o m X.env (eval o X.env)=eval o X.env
 few:((backTo cpos (starEach [e,f] X.env)).all (fun x=>!x.1) && (backToKw cpos (keywordEach [] X.env)).all (fun x=>x.1.isSome)
  && decide (([e,f]:List Expr).length + ([]:List Keyword).length + (if ([]:List Keyword).isEmpty then 0 else 1) < 30))=true
 line:(apos.endLine == cpos.line)=true
 trees:backTo cpos (starEach [e,f] X.env)=[(false,eval e X.env),(false,eval f X.env)]
def IsD (H:Hp) (a:Addr):Prop:=(∃ kvs,Rd H a (.dK kvs)) ∨ ∃ kvs,Rd H a (.dT kvs)
theorem oA {X:Cx} {pins:List (Addr × Obj)} {σ:St} {H:Hp} {s:Shared} {a:Addr} (I:Inv X pins σ H s) (d:IsD H a):
  s.TypeIs (.ref a) "dict"∧(∀ b,Value.ref a=.ref b→∃ ob,s.heap.get? b=some ob∧ob.dict=none)∧(a == sysModules)=false:=by
 rcases d with ⟨kvs,e⟩ | ⟨kvs,e⟩
 ·obtain ⟨_,hd,vs,_,dd⟩:=iw I.hok e
  refine ⟨dd.typeIs,fun b q=>?_,hd⟩
  cases q
  obtain ⟨ob,_,_,h1,h2,_⟩:=dd
  exact ⟨ob,h1,h2.2.1⟩
 ·obtain ⟨_,hd,xs,_,dd⟩:=kG I.hok e
  refine ⟨dd.typeIs,fun b q=>?_,hd⟩
  cases q
  obtain ⟨ob,_,_,h1,h2,_⟩:=dd
  exact ⟨ob,h1,h2.2.1⟩
section
variable {X:Cx} {pins:List (Addr × Obj)} {σ:St} {H:Hp} {s:Shared} {a:Addr} {y d:V} {u r:Value} {o:Option V} {A:Around} {E:Value→Shared→Prop}
theorem AF {Q:Value→Shared→Prop} (hu:A.units + 1 < cLine) (I:Inv X pins σ H s) (g:ow H a y o) (ry:RelV y u) (h:∀ w' s',Inv X pins σ H s'→RelV (o.getD .non) w'→Q w' s'):
  wpAny (model X.prog X.w) A (call (.builtin "dict.get") [.ref a,u]) Q E s:=by
 rcases g with ⟨kvs,k,e,ey,l⟩ | ⟨kvs,k,b,e,ey,eb,l⟩
 ·subst ey
  obtain ⟨z,hd,vs,rel,dd⟩:=iw I.hok e
  refine call_meetsIn PySem.F.slot_dict_get dd.typeIs PySem.F.entry_dict_get (PySem.F.args_dict_get_2 _ _) (meets_dict_get (aP X.prog X.w) a (jI ry) hd) ⟨_,dd.mapOf,h _ _ (I.tok _) ?_⟩
  rw [l]
  exact (rel.val k).getD rfl
 ·subst ey
  cases (show u=Value.ref b from ry)
  obtain ⟨z,hd,xs,rel,dd⟩:=kG I.hok e
  refine call_meetsIn PySem.F.slot_dict_get dd.typeIs PySem.F.entry_dict_get (PySem.F.args_dict_get_2 _ _) (meetsH_dict_get (tupleKind (aP X.prog X.w)) a b hd) ⟨tupleKind_room_in1 hu,k,xs,jt I.hok eb,dd,h _ _ (I.tok _) ?_⟩
  rw [l]
  exact (rel.val k).getD rfl
theorem AG {Q:Value→Shared→Prop} (hu:A.units + 1 < cLine) (I:Inv X pins σ H s) (g:ow H a y o) (ry:RelV y u) (rd:RelV d r) (h:∀ w' s',Inv X pins σ H s'→RelV (o.getD d) w'→Q w' s'):
  wpAny (model X.prog X.w) A (call (.builtin "dict.get") [.ref a,u,r]) Q E s:=by
 rcases g with ⟨kvs,k,e,ey,l⟩ | ⟨kvs,k,b,e,ey,eb,l⟩
 ·subst ey
  obtain ⟨z,hd,vs,rel,dd⟩:=iw I.hok e
  refine call_meetsIn PySem.F.slot_dict_get dd.typeIs PySem.F.entry_dict_get (PySem.F.args_dict_get_3 _ _ _) (meets_dict_get_default (aP X.prog X.w) a (jI ry) hd r) ⟨_,dd.mapOf,h _ _ (I.tok _) ?_⟩
  rw [l]
  exact (rel.val k).getD rd
 ·subst ey
  cases (show u=Value.ref b from ry)
  obtain ⟨z,hd,xs,rel,dd⟩:=kG I.hok e
  refine call_meetsIn PySem.F.slot_dict_get dd.typeIs PySem.F.entry_dict_get (PySem.F.args_dict_get_3 _ _ _) (meetsH_dict_get_default (tupleKind (aP X.prog X.w)) a b hd r) ⟨tupleKind_room_in1 hu,k,xs,jt I.hok eb,dd,h _ _ (I.tok _) ?_⟩
  rw [l]
  exact (rel.val k).getD rd
end
def AH (td ty:TE):TE:=fun σ H Q=>td σ H fun x H1=>∃ a,x=.ref a∧IsD H1 a∧ty σ H1 fun y H2=>∃ o,ow H2 a y o∧Q (o.getD .non) H2
def AI (td ty tx:TE):TE:=fun σ H Q=>td σ H fun x H1=>∃ a,x=.ref a∧IsD H1 a∧ty σ H1 fun y H2=>tx σ H2 fun z H3=>∃ o,ow H3 a y o∧Q (o.getD z) H3
section
variable {X:Cx} {o e f:Expr} {apos cpos:Pos} {td ty tx:TE}
theorem vR (hu:X.A.units + 1 < cLine) (ho:PE X o td) (he:PE X e ty) (m:M1 X o "get" apos e cpos):PE X (.Call (.Attribute o "get" apos) [e] [] cpos) (AH td ty):=by
 intro pins s σ H Q I h
 refine wpAny_Call_method m.base m.few m.line PySem.F.plainAttrs_dict PySem.F.slot_dict_get PySem.F.type_dict_get (thn (ho pins s σ H _ I h) fun u s1 zq=>?_)
 obtain ⟨x,H1,I1,rx,a,ex,d,q1⟩:=zq
 subst ex
 obtain rfl:u=Value.ref a:=rx
 obtain ⟨t1,t2,_⟩:=oA I1 d
 refine ⟨t1,t2,?_⟩
 rw [m.trees]
 refine Calls.callWith_builtin rfl (Calls.evalArgs_plain (Calls.spliced_cons (thn (he pins s1 σ H1 _ I1 q1) fun iv s2 ⟨y,H2,I2,ry,ov,g,q2⟩=>Calls.spliced_nil ?_)))
 exact AF hu I2 g ry fun w' s3 I3 rw'=>⟨_,H2,I3,rw',q2⟩
theorem vS (hu:X.A.units + 1 < cLine) (ho:PE X o td) (he:PE X e ty) (hf:PE X f tx) (m:M2 X o "get" apos e f cpos):PE X (.Call (.Attribute o "get" apos) [e,f] [] cpos) (AI td ty tx):=by
 intro pins s σ H Q I h
 refine wpAny_Call_method m.base m.few m.line PySem.F.plainAttrs_dict PySem.F.slot_dict_get PySem.F.type_dict_get (thn (ho pins s σ H _ I h) fun u s1 zq=>?_)
 obtain ⟨x,H1,I1,rx,a,ex,d,q1⟩:=zq
 subst ex
 obtain rfl:u=Value.ref a:=rx
 obtain ⟨t1,t2,_⟩:=oA I1 d
 refine ⟨t1,t2,?_⟩
 rw [m.trees]
 refine Calls.callWith_builtin rfl (Calls.evalArgs_plain (Calls.spliced_cons (thn (he pins s1 σ H1 _ I1 q1) fun iv s2 zq=>ex5 zq fun y H2 I2 ry q2=>
  Calls.spliced_cons (thn (hf pins s2 σ H2 _ I2 q2) fun fv s3 ⟨z,H3,I3,rz,ov,g,q3⟩=>Calls.spliced_nil ?_))))
 exact AG hu I3 g ry rz fun w' s4 I4 rw'=>⟨_,H3,I4,rw',q3⟩
end
section
variable {X:Cx} {pins:List (Addr × Obj)} {σ:St} {H:Hp} {s:Shared} {a:Addr} {kvs:List (Key × V)} {A:Around} {E:Value→Shared→Prop}
end
section
variable {X:Cx} {pins:List (Addr × Obj)} {σ:St} {H:Hp} {s:Shared} {a:Addr} {y:V} {u:Value} {A:Around} {E:Value→Shared→Prop}
end
end L2
namespace Att
open PySem PySem.W PySem.Calls PyProof.Rows
theorem kS {P:Params} {h:Heap}:∀ (ns:List Int) (vs:List Value),WellAll P h vs (ns.map WData.int)→IntsAre vs ns:=by
 intro ns
 induction ns with
 | nil=>
  intro vs w
  rw [List.map_nil] at w
  cases w
  exact .nil
 | cons n ns ih=>
  intro vs w
  rw [List.map_cons] at w
  cases w with
  | cons a b=>
   cases a
   exact .cons _ _ (ih _ b)
theorem uH {l:OpenLaw} {n:Nat} (hn:l.most=some n) {P:Params} {h:Heap} {args:List WData} {vals:List Value}
  (hpre:l.row.toRowW.claim.pre args=true) (hwl:WellAll P h vals args):
  ∃ a vs ns,vals=[Value.ref a]∧args=[WData.list (ns.map WData.int)]∧h.get? a=some { cls:=.type "list",data:=.seq vs.toArray }∧IntsAre vs ns∧ns.length≤n:=by
 have hsh:WShape.hasAll [] args [.list .int]=true:=(pre_splitW hpre).1
 have hc:l.pre.holds [] { args:=args }=true:=(pre_splitW hpre).2
 obtain ⟨d,r,rfl,h1,h2⟩:=hasAllW_cons hsh
 obtain rfl:=hasAllW_nil h2
 obtain ⟨xs,rfl,h3⟩:=hasW_list h1
 obtain ⟨ns,rfl⟩:=items_int h3
 have hlen:ns.length≤n:=by
  unfold OpenLaw.pre at hc
  have h4:(WTm.not (.lt (.lit (.int (n:Int))) (.len (.arg 0)))).holds [] { args:=[.list (ns.map .int)] }=true:=by
   have h4:=(holds_andW hc).1
   rw [hn] at h4
   exact h4
  have h5:=condW_of h4 (w_not (w_lt w_lit (w_len_list (w_arg rfl))))
  rw [List.length_map] at h5
  refine Nat.le_of_not_lt fun q=>?_
  have q':(n:Int) < ((ns.length:Nat):Int):=by omega
  first
   | (rw [decide_eq_true q'] at h5; exact absurd h5 (by decide))
   | (simp at h5; omega)
 cases hwl with
 | cons w1 w2=>
  cases w2
  cases w1 with
  | list ho hall=>exact ⟨_,_,ns,rfl,rfl,ho,kS ns _ hall,hlen⟩
theorem uJ (l:OpenLaw) (args:List WData):l.row.toRowW.claim.post args (.bool true) args=true:=
 postW_of (r:=l.row.toRowW) (X:=(true == true))
  (show WShape.has [] (.bool true) .bool=true by first | rfl | decide | simp [WShape.has,WShape.arms,WShape.armsAll])
  (show (WTm.eq .res (.lit (.bool true))).value [] { args:=args,res:=some (.bool true),after:=args }=some (.bool (true == true)) from w_eq_bool (w_res rfl) w_lit) rfl
theorem attach_call {l:OpenLaw} {n:Nat} {q:Program} {loose:List Str} {XP:(Str→Option Value)→Heap→Prop} {YP:World→Heap→Prop} {d:DefRec}
  (hn:l.most=some n) (hdf:d.params.defaults=[])
  (call:∀ (w:World) (s₀ s₁:Shared) (mg mb:Str→Option Value) (fa:Addr) (o:Obj) (pm cd doc:Value) (a:Addr) (vs:List Value) (ns:List Int),
   Ground q loose [] XP w s₀ mg mb s₁.heap→YP w s₁.heap→
   s₁.heap.get? fa=some o→o.data=.func (docDef d.name d.params d.body d.scope pm cd doc)→s₁.heap.CodeRec cd d.name→mg d.name=some (.ref fa)→
   s₁.heap.get? a=some { cls:=.type "list",data:=.seq vs.toArray }→IntsAre vs ns→ns.length≤n→s₁.gens = #[]→
   codeAny (model l.prog w) callerA (.call (.ref fa) ⟨[.ref a],[]⟩) (fun r s'=>r=.ok (.ret (.bool true))∧OldK s₁.heap s'.heap∧s'.os=s₁.os∧AllBare s'.gens) s₁):
  WalkO q loose XP YP l.row.toRowW d [] (fun f vs=>PySem.call f vs):=by
 intro w s₀ s₁ mg mb G Y fa o pm cd doc dV kV ho hd hcd hD hmg hg args vals as hpre hlay hrd hwl hlo
 obtain rfl:dV=.none:=Dflts.none hD hdf
 obtain rfl:kV=.none:=Dflts.noKw hD
 obtain ⟨a,vs,ns,rfl,rfl,hobj,hints,hlen⟩:=uH hn hpre hwl
 refine enter_call (codeAny_mono (call w s₀ s₁ mg mb fa o pm cd doc a vs ns G Y ho (fd_plain hd) hcd hmg hobj hints hlen hg) fun r s' hq=>?_)
 obtain ⟨rfl,h2,h3,h4⟩:=hq
 exact ⟨.inl ⟨.bool true,.bool true,[],rfl,fun _=>rfl,.bool true,uJ l _,fun _=>⟨List.Pairwise.nil,fun _ hm=>(nomatch hm)⟩⟩,h2,h3,h4⟩
section
variable {prog:Program} {w:World} {A:Around} {E:Value→Shared→Prop} {s:Shared} {K:Frag}
end
end Att
namespace L2
open PySem PySem.Spec PyProof.Rows
theorem nA:∀ {vs:List Value} {ns:List Int},IntsAre vs ns→Vals (ns.map V.int) vs
 | _,_,.nil=>.nil
 | _,_,.cons n t h=>.cons ⟨t,rfl⟩ (nA h)
def vT (H:Hp):Prop:=∀ b,H b=none ∨ ∃ o xs,H b=some (.frz o (.lst xs))
theorem vU {P:Program} {w:World} {K:PySem.W.Frag} {mg mb:Str→Option Value} {CX:CXT} {k:Nat} {fa a:Addr} {fd:FuncData} {x:Str} {sp:Sp} {s₁:Shared} {vs:List Value} {ns:List Int}
  (KX:K.In s₁.heap) (hns:s₁.heap.Ns mainGlobals mg) (hb:s₁.heap.Ns builtinsNs mb) (hbb:∀ x:Str,x ≠ "__name__"→mb x=bootBuiltins x) (hlim:s₁.heap.NoLimit) (hg:s₁.gens = #[])
  (ha:s₁.heap.get? a=some { cls:=.type "list",data:=.seq vs.toArray }) (hi:IntsAre vs ns) (hl:ns.length≤sizeLine) (hr:Room k callerA)
  (F:∀ base:Heap,K.In base→base.Ns mainGlobals mg→FnOk P w K mg base CX k fa fd [x] sp) (hbind:∀ (s:Shared) (u:Value),BindsTo s fd ⟨[u],[]⟩ [(x,u)])
  (hsp:∀ H:Hp,vT H→SqL K H a (ns.map V.int)→sp [.ref a] H (fun v _=>v=.bl true) fun _ _ _=>False)
  (hCX:∀ H e s',CX [] H s₁ (fun _ _ _=>False) e s'→False):
  codeAny (model P w) callerA (.call (.ref fa) ⟨[.ref a],[]⟩) (fun r s'=>r=.ok (.ret (.bool true))∧OldK s₁.heap s'.heap∧s'.os=s₁.os∧AllBare s'.gens) s₁:=by
 have rv:=nA hi
 have lenV:=hi.length
 -- from an abstract heap in which nothing but the script may be tracked
 have core:∀ H:Hp,vT H→SqL K H a (ns.map V.int)→HOk P w H s₁.heap→(∀ b,H b ≠ none→b=a)→(H a ≠ none→K.lookup a=none)→
   codeAny (model P w) callerA (.call (.ref fa) ⟨[.ref a],[]⟩) (fun r s'=>r=.ok (.ret (.bool true))∧OldK s₁.heap s'.heap∧s'.os=s₁.os∧AllBare s'.gens) s₁:=by
  intro H hO hS hok hA hK
  have base_of:∀ {b:Addr} {o:Obj},s₁.heap.get? b=some o→H b=none→(oh s₁.heap H).get? b=some o:=fun e n=>vu e n
  have noA:∀ {b:Addr} {o:Obj} {es:Array DictEntry} {ep:Nat},s₁.heap.get? b=some o→o.data=.dict es ep→H b=none:=fun {b o es ep} e d=>by
   cases q:H b with
   | none=>rfl
   | some u=>
    have e':b=a:=hA b (by rw [q]; simp)
    subst e'
    rw [ha] at e; cases e
    have d':Data.seq vs.toArray _=Data.dict es ep:=d
    cases d'
  have nsK:∀ {b:Addr} {m:Str→Option Value},s₁.heap.Ns b m→(oh s₁.heap H).Ns b m:=fun {b m} ⟨o,es,ep,e,d,r⟩=>⟨o,es,ep,base_of e (noA e d),d,r⟩
  have hKb:K.In (oh s₁.heap H):=fun b o e=>base_of (KX b o e) (by
   cases q:H b with
   | none=>rfl
   | some u=>
    have e':b=a:=hA b (by rw [q]; simp)
    subst e'
    rw [hK (by rw [q]; simp)] at e; cases e)
  have hM:Mod K mg (oh s₁.heap H):=⟨hKb,nsK hns,⟨mb,nsK hb,hbb⟩,let ⟨mc,h1,h2⟩:=hlim; ⟨mc,nsK h1,h2⟩⟩
  have e0:Env0 P w K mg (oh s₁.heap H) callerA [] s₁ H:=⟨rfl,hM,fun b o e=>xD e,Nat.le_of_eq (ui _ _),trivial,fun b hb=>absurd (show b ∈ ([]:List Addr) from hb) (by simp),hok,.of_eq hg⟩
  refine codeAny_mono ((F _ hKb (nsK hns)).run callerA [] s₁ H ⟨[.ref a],[]⟩ [.ref a] [.ref a] _ _ hr e0 (hbind s₁ (.ref a)) (.cons rfl .nil) (hsp H hO hS)) fun r s' h=>?_
  cases r with
  | error e=>exact (hCX H e s' h).elim
  | ok fl=>
   cases fl with
   | next=>exact False.elim h
   | brk=>exact False.elim h
   | cont=>exact False.elim h
   | ret u=>
    obtain ⟨v,H',os,bare,un,hok',r',q⟩:=h
    have q':v=.bl true:=q
    subst q'
    obtain rfl:u=Value.bool true:=r'
    refine ⟨rfl,OldK.of_keep fun b o e=>?_,os,bare⟩
    cases q:H b with
    | none=>exact un.keep b o e q (by intro z; exact absurd (show b ∈ ([]:List Addr) from z) (by simp)) (by simp)
    | some u=>
     rcases hO b with z | ⟨ob,xs,z⟩
     ·rw [q] at z; cases z
     ·have z2:=un.frzs b ob _ z
      obtain ⟨e1,_⟩:=hok b _ z
      obtain ⟨e2,_⟩:=hok' b _ z2
      rw [e] at e1; cases e1
      exact e2
 cases hk:K.lookup a with
 | some o=>
  -- the script is one of the module's own objects
  have e:=KX a o hk
  rw [ha] at e
  cases e
  refine core (fun _=>none) (fun _=>.inl rfl) (.inr ⟨_,vs.toArray,_,hk,rfl,rfl,rfl,by rw [List.size_toArray,lenV]; exact hl,by simpa using rv⟩) (fun b u z=>by have z':(none:Option HO)=some u:=z; cases z') (fun b z=>absurd rfl z) fun z=>absurd rfl z
 | none=>
  refine core (fun b=>if b=a then some (.frz { cls:=.type "list",data:=.seq vs.toArray } (.lst (ns.map V.int))) else none) (fun b=>?_) (.inl (.inr ⟨{ cls:=.type "list",data:=.seq vs.toArray },if_pos rfl⟩)) (fun b u z=>?_) (fun b z=>?_) fun _=>hk
  ·by_cases hb:b=a
   ·exact .inr ⟨_,_,if_pos hb⟩
   ·exact .inl (if_neg hb)
  ·by_cases hb:b=a
   ·have z':=(if_pos hb).symm.trans z
    cases z'
    subst hb
    exact ⟨ha,by rw [List.length_map]; exact hl,vs,_,rv,ha⟩
   ·have z':=(if_neg hb).symm.trans z
    cases z'
  ·by_cases hb:b=a
   ·exact hb
   ·exact absurd (if_neg hb) z
end L2
namespace L2
open PySem PySem.Spec PyProof.Rows
theorem ye {l:PySem.W.OpenLaw} {n k:Nat} {q:Program} {loose:List Str} {XP:(Str→Option Value)→Heap→Prop} {YP:World→Heap→Prop} {d:DefRec} {K:Params→PySem.W.Frag} {CX:World→CXT} {sp:World→Sp} {x:Str}
  (hn:l.most=some n) (hn2:n≤sizeLine) (hdf:d.params.defaults=[]) (hr:Room k callerA)
  (hY:∀ (w:World) (h:Heap),YP w h→(K w.params).In h)
  (F:∀ (w:World) (mg:Str→Option Value) (fa:Addr) (h:Heap),(K w.params).In h→h.Ns mainGlobals mg→mg d.name=some (.ref fa)→
   ∃ fd:FuncData,(∀ (s:Shared) (u:Value),BindsTo s fd ⟨[u],[]⟩ [(x,u)])∧
    ∀ base:Heap,(K w.params).In base→base.Ns mainGlobals mg→FnOk l.prog w (K w.params) mg base (CX w) k fa fd [x] (sp w))
  (hsp:∀ (w:World) (H:Hp) (a:Addr) (ns:List Int),ns.length≤n→vT H→SqL (K w.params) H a (ns.map V.int)→sp w [.ref a] H (fun v _=>v=.bl true) fun _ _ _=>False)
  (hCX:∀ (w:World) (H:Hp) (s:Shared) (e:Value) (s':Shared),CX w [] H s (fun _ _ _=>False) e s'→False):
  PySem.W.WalkO q loose XP YP l.row.toRowW d [] (fun f vs=>PySem.call f vs):=by
 refine Att.attach_call hn hdf fun w s₀ s₁ mg mb fa o pm cd doc a vs ns G Y ho hd hcd hmg hobj hints hlen hg=>?_
 have KX:=hY w _ Y
 obtain ⟨fd,hb,hF⟩:=F w mg fa _ KX G.T.g hmg
 exact vU KX G.T.g G.T.b G.T.builtins G.T.nolimit hg hobj hints (Nat.le_trans hlen hn2) hr hF hb (fun H hO hS=>hsp w H a ns hlen hO hS) fun H e s'=>hCX w H s₁ e s'
end L2
namespace L2
open PySem PySem.Spec PyProof.Rows
def defArgs (s:Stmt):Arguments:=match s with
 | .FunctionDef _ a _ _ _ _ _ _ _ _=>a
 | _=>{ posonlyargs:=[],args:=[],vararg:=none,kwonlyargs:=[],kw_defaults:=[],kwarg:=none,defaults:=[] }
def defBody (s:Stmt):List Stmt:=match s with
 | .FunctionDef _ _ b _ _ _ _ _ _ _=>b
 | _=>[]
def defScope (s:Stmt):Scope:=match s with
 | .FunctionDef _ _ _ _ _ _ sc _ _ _=>sc
 | _=>{ kind:=.function,names:=[],isGenerator:=false,isCoroutine:=false }
abbrev E0:XK:=fun _ _ _=>False
structure Fun (K:PySem.W.Frag) (x qual:Str) (st:Stmt) (f:Addr) (fd:FuncData):Prop where
 ex:∃ (oc:Value) (od:Option Addr) (kV doc pm:Value) (an:Option Addr) (cdv ct:Value) (osl:Array (Option Value)),
  fd=PySem.W.fnOf x qual (defArgs st) (defBody st) (defScope st) .none kV doc pm an cdv ct∧K.lookup f=some ⟨oc,od,.func fd,osl⟩∧PySem.W.codeIn K cdv qual=true
 kp:PySem.W.keepIn K (.ref f)=true
section
variable {P:Program} {w:World} {K:PySem.W.Frag} {mg:Str→Option Value} {base:Heap}
theorem Fun.binds {x qual:Str} {st:Stmt} {f:Addr} {fd:FuncData} {ps:List Str} (F:Fun K x qual st f fd)
  (h:∀ (kV doc pm:Value) (an:Option Addr) (cdv ct:Value) (us:List Value),us.length=ps.length→bindArgs (PySem.W.fnOf x qual (defArgs st) (defBody st) (defScope st) .none kV doc pm an cdv ct) ⟨us,[]⟩=pure (ps.zip us)):Binds K fd ps []:=by
 obtain ⟨oc,od,kV,doc,pm,an,cdv,ct,osl,rfl,lk,hcd⟩:=F.ex
 exact .all (h kV doc pm an cdv ct)
theorem aM {x qual:Str} {st:Stmt} {f:Addr} {oc:Value} {od an:Option Addr} {osl:Array (Option Value)} {kV doc pm cdv ct:Value} (l:K.lookup f=some ⟨oc,od,.func (PySem.W.fnOf x qual (defArgs st) (defBody st) (defScope st) .none kV doc pm an cdv ct),osl⟩)
  (c:PySem.W.codeIn K cdv qual=true) (k:PySem.W.keepIn K (.ref f)=true):Fun K x qual st f (PySem.W.fnOf x qual (defArgs st) (defBody st) (defScope st) .none kV doc pm an cdv ct):=⟨⟨oc,od,kV,doc,pm,an,cdv,ct,osl,rfl,l,c⟩,k⟩
end
section
variable {X:Cx}
theorem pv (i:Nat) {x:Str} {pos:Pos} (hN:autoParam (X.N[i]?=some x) Au.h1._auto_1) (hv:Vis X.env.scope x) (hd:autoParam ((x == ("__debug__":Str))=false) Au.h2._auto_1)
  (hcd:autoParam ((x == ("__classdict__":Str))=false) Au.h2._auto_1):PE X (.Name x pos) (BS i):=zO hN hv hd hcd
end
theorem oB {A B:Prop} (h:B):if false=true then A else B:=by
 rw [if_neg Bool.false_ne_true]
 exact h
theorem oC {A B:Prop} (h:A):if true=true then A else B:=by
 rw [if_pos rfl]
 exact h
end L2
namespace L2
open PySem PySem.Spec PyProof.Rows
section
variable {X:Cx}
theorem nB:bL X (.builtin "len") (fun xs H Q=>∃ a kvs,xs=[V.ref a]∧H a=some (.dK kvs)∧Q (.int kvs.length) H):=by
 intro pins s σ H xs us Q I r h
 obtain ⟨a,kvs,rfl,ha,q⟩:=h
 obtain ⟨u,rfl,ru⟩:=vals1 r
 cases ru
 exact Cz I (.inl ha) fun t s' I'=>⟨.int kvs.length,H,I',⟨t,rfl⟩,q⟩
end
section
variable {κ:Type} [DecidableEq κ]
end
end L2
end
set_option autoImplicit false
namespace PD
open PySem
inductive D where
 | non | bl (b:Bool) | int (i:Int) | str (x:Str)
 | tup (xs:List D) | lst (xs:List D) | fz (xs:List D) | dic (kvs:List (Sum Int Str × D)) | ref (n:Nat) | ty (n:String)
 /-- a caught exception of an own class; an own class -/
 | exc (c:Str) | cls (c:Str)
 deriving Inhabited
inductive SO where
 | lst (xs:List D) | dic (kvs:List (Sum Int Str × D)) | ins (c:Str) (fs:List (Str × D))
 /-- a dict that has been walked: read,changed no more -/
 | fdic (kvs:List (Sum Int Str × D))
 /-- a list that has been walked: read,changed no more -/
 | flst (xs:List D)
 deriving Inhabited
abbrev Sto:=List SO
set_option genInjectivity false in
structure XD where
 cls:Str
 arg:D
 deriving Inhabited
inductive R (A:Type) where
 | ok (a:A) (S:Sto) | err (x:XD) (S:Sto) | bad
def R.bind {A B:Type} (r:R A) (f:A→Sto→R B):R B:=match r with
 | .ok a S=>f a S | .err x S=>.err x S | .bad=>.bad
theorem R.bind_ok {A B:Type} (a:A) (S:Sto) (f:A→Sto→R B):(R.ok a S).bind f=f a S:=rfl
theorem R.bind_err {A B:Type} (x:XD) (S:Sto) (f:A→Sto→R B):(R.err (A:=A) x S).bind f=.err x S:=rfl
theorem R.bind_bad {A B:Type} (f:A→Sto→R B):(R.bad (A:=A)).bind f=.bad:=rfl
def R.of {A:Type} (S:Sto):Option A→R A
 | some a=>.ok a S | none=>.bad
theorem R.of_some {A:Type} (S:Sto) (a:A):R.of S (some a)=.ok a S:=rfl
abbrev Rho:=List (Option D)
abbrev EM:=Rho→Sto→R D
abbrev TM:=Rho→Sto→R Bool
abbrev AM:=Rho→Sto→R (List D)
set_option genInjectivity false in
inductive F where
 | nx (r:Rho) | rt (d:D) | bk (r:Rho) | ct (r:Rho)
abbrev SM:=Rho→Sto→R F
abbrev FM:=List D→Sto→R D
def ae (i:Nat):EM:=fun r S=>match r[i]? with
 | some (some d)=>.ok d S
 | _=>.bad
def eC (d:D):EM:=fun _ S=>.ok d S
def eUn (f:Sto→D→Option D) (a:EM):EM:=fun r S=>(a r S).bind fun x S1=>R.of S1 (f S1 x)
def eOp (f:Sto→D→D→Option D) (a b:EM):EM:=fun r S=>(a r S).bind fun x S1=>(b r S1).bind fun y S2=>R.of S2 (f S2 x y)
def lH (f g:Sto→D→D→Option D) (a b c:EM):EM:=fun r S=>(a r S).bind fun x S1=>(b r S1).bind fun y S2=>match f S2 x y with
 | some (.bl true)=>(c r S2).bind fun z S3=>R.of S3 (g S3 y z)
 | some (.bl false)=>.ok (.bl false) S2
 | _=>.bad
def iy (a b:EM):EM:=fun r S=>(a r S).bind fun x S1=>match x with
 | .bl true=>b r S1
 | .bl false=>.ok (.bl false) S1
 | _=>.bad
def eOr (a b:EM):EM:=fun r S=>(a r S).bind fun x S1=>match x with
 | .bl true=>.ok (.bl true) S1
 | .bl false=>b r S1
 | _=>.bad
def AJ (a:EM):EM:=fun r S=>(a r S).bind fun x S1=>match x with
 | .bl b=>.ok (.bl (!b)) S1
 | _=>.bad
def eIf (t:TM) (a b:EM):EM:=fun r S=>(t r S).bind fun c S1=>if c=true then a r S1 else b r S1
def ak:AM:=fun _ S=>.ok [] S
def ab (a:EM) (t:AM):AM:=fun r S=>(a r S).bind fun x S1=>(t r S1).bind fun xs S2=>.ok (x :: xs) S2
def gz (t:AM):EM:=fun r S=>(t r S).bind fun xs S1=>if xs.length≤sizeLine then .ok (.tup xs) S1 else .bad
def gJ (t:AM):EM:=fun r S=>(t r S).bind fun xs S1=>if xs.length≤sizeLine then .ok (.lst xs) S1 else .bad
def eNew (t:AM):EM:=fun r S=>(t r S).bind fun xs S1=>if xs.length≤sizeLine then .ok (.ref S1.length) (S1 ++ [.lst xs]) else .bad
def au (f:FM) (t:AM):EM:=fun r S=>(t r S).bind fun xs S1=>f xs S1
def eB (f:Sto→List D→Option D) (t:AM):EM:=fun r S=>(t r S).bind fun xs S1=>R.of S1 (f S1 xs)
def eBN (f:Sto→List D→Option SO) (t:AM):EM:=fun r S=>(t r S).bind fun xs S1=>match f S1 xs with
 | some o=>.ok (.ref S1.length) (S1 ++ [o])
 | none=>.bad
def tV (a:EM):TM:=fun r S=>(a r S).bind fun x S1=>match x with
 | .bl b=>.ok b S1
 | _=>.bad
def oi (a b:TM):TM:=fun r S=>(a r S).bind fun c S1=>if c=true then b r S1 else .ok false S1
def tOr (a b:TM):TM:=fun r S=>(a r S).bind fun c S1=>if c=true then .ok true S1 else b r S1
def dG (a:TM):TM:=fun r S=>(a r S).bind fun c S1=>.ok (!c) S1
def R.nx {A:Type}:R A→R A
 | .err _ _=>.bad
 | r=>r
def eNx (a:EM):EM:=fun r S=>(a r S).nx
def tNx (a:TM):TM:=fun r S=>(a r S).nx
def aNx (a:AM):AM:=fun r S=>(a r S).nx
def aV:SM:=fun r S=>.ok (.nx r) S
def vV:SM:=fun _ _=>.bad
def aA (a b:SM):SM:=fun r S=>(a r S).bind fun f S1=>match f with
 | .nx r1=>b r1 S1
 | g=>.ok g S1
def aO (a:EM):SM:=fun r S=>(a r S).bind fun x S1=>.ok (.rt x) S1
def Dx:SM:=fun _ S=>.ok (.rt .non) S
def bE (a:EM):SM:=fun r S=>(a r S).bind fun _ S1=>.ok (.nx r) S1
def sIf (t:TM) (a b:SM):SM:=fun r S=>(t r S).bind fun c S1=>if c=true then a r S1 else b r S1
def Dk:SM:=fun r S=>.ok (.bk r) S
def Dy:SM:=fun r S=>.ok (.ct r) S
set_option genInjectivity false in
inductive G where
 | nm (i:Nat) | tp (gs:List G)
mutual
def G.put:G→D→Rho→Option Rho
 | .nm i,d,r=>some (r.set i (some d))
 | .tp gs,d,r=>match d with
  | .tup xs=>G.puts gs xs r
  | _=>none
def G.puts:List G→List D→Rho→Option Rho
 | [],[],r=>some r
 | g :: gs,x :: xs,r=>match G.put g x r with
  | some r1=>G.puts gs xs r1
  | none=>none
 | _,_,_=>none
end
def aQ (i:Nat) (a:EM):SM:=fun r S=>(a r S).bind fun x S1=>.ok (.nx (r.set i (some x))) S1
def uK (g:G) (a:EM):SM:=fun r S=>(a r S).bind fun x S1=>match g.put x r with
 | some r1=>.ok (.nx r1) S1
 | none=>.bad
def vW (i j:Nat) (t:AM):SM:=fun r S=>(t r S).bind fun xs S1=>match xs with
 | [x,y]=>.ok (.nx ((r.set i (some x)).set j (some y))) S1
 | _=>.bad
def pZ (f:Sto→D→D→D→Option Sto) (e o i:EM):SM:=fun r S=>(e r S).bind fun v S1=>(o r S1).bind fun x S2=>(i r S2).bind fun y S3=>match f S3 x y v with
 | some S4=>.ok (.nx r) S4
 | none=>.bad
def Dz (f:Sto→D→List D→Option Sto) (o:EM) (t:AM):SM:=fun r S=>(o r S).bind fun x S1=>(t r S1).bind fun ys S2=>match f S2 x ys with
 | some S3=>.ok (.nx r) S3
 | none=>.bad
def sNx (a:SM):SM:=fun r S=>(a r S).nx
def Dl (c:Str) (t:AM):SM:=fun r S=>(t r S).bind fun xs S1=>if xs.length≤sizeLine then .err ⟨c,.tup xs⟩ S1 else .bad
def DA (cs:List Str) (i n:Nat) (b h:SM):SM:=fun r S=>match b r S with
 | .err x S1=>if cs.contains x.cls=true then (h ((List.replicate n none).set i (some (.exc x.cls))) S1).nx.bind fun f S2=>match f with
   | .rt d=>.ok (.rt d) S2
   | _=>.bad
  else .bad
 | .ok f S1=>.ok f S1
 | .bad=>.bad
def forL (g:G) (b:SM):List D→SM
 | []=>fun r S=>.ok (.nx r) S
 | x :: xs=>fun r S=>match g.put x r with
  | none=>.bad
  | some r1=>(b r1 S).bind fun f S1=>match f with
   | .nx r2=>forL g b xs r2 S1
   | .ct r2=>forL g b xs r2 S1
   | .bk r2=>.ok (.nx r2) S1
   | .rt d=>.ok (.rt d) S1
def fJ (it:AM) (g:G) (b:SM):SM:=fun r S=>(it r S).bind fun xs S1=>forL g b xs r S1
def cD (t:TM) (b:SM):Nat→SM
 | 0=>fun _ _=>.bad
 | n + 1=>fun r S=>(t r S).bind fun c S1=>if c=true then (b r S1).bind fun f S2=>match f with
   | .nx r2=>cD t b n r2 S2
   | .ct r2=>cD t b n r2 S2
   | .bk r2=>.ok (.nx r2) S2
   | .rt d=>.ok (.rt d) S2
  else .ok (.nx r) S1
def fN (k:Nat) (caps:List Nat) (r:Rho):Rho:=List.replicate k none ++ caps.map fun i=>(r[i]?).join
def eV (g:G) (t:TM) (e:EM):List D→Rho→Sto→R (List D)
 | [],_,S=>.ok [] S
 | x :: xs,r,S=>match g.put x r with
  | none=>.bad
  | some r1=>(t r1 S).bind fun c S1=>if c=true then (e r1 S1).bind fun y S2=>(eV g t e xs r1 S2).bind fun ys S3=>.ok (y :: ys) S3
    else eV g t e xs r1 S1
def bF (it:AM) (k:Nat) (caps:List Nat) (g:G) (t:TM) (e:EM):EM:=fun r S=>(it r S).bind fun xs S1=>
 if xs.length≤sizeLine then (eV g t e xs (fN k caps r) S1).bind fun ys S2=>.ok (.lst ys) S2 else .bad
def cA:TM:=fun _ S=>.ok true S
def fnM (n:Nat) (b:SM):FM:=fun ds S=>(b (ds.map some ++ List.replicate (n - ds.length) none) S).bind fun f S1=>match f with
 | .rt d=>.ok d S1
 | .nx _=>.ok .non S1
 | _=>.bad
end PD
namespace PD
open PySem PySem.Spec PyProof.Rows L2
set_option genInjectivity false in
structure Wd where
 st:List Addr
 hid:List Addr
def Wd.no (w:Wd) (a:Addr):Prop:=a ∉ w.st∧a ∉ w.hid
def Wd.add (w:Wd) (p:Addr):Wd:=⟨w.st ++ [p],w.hid⟩
def Wd.hide (w:Wd) (p:Addr):Wd:=⟨w.st,p :: w.hid⟩
def At (w:Wd) (H:Hp) (a:Addr) (o:HO):Prop:=H a=some o∧w.no a
def oD (K:PySem.W.Frag) (a:Addr) (vs:List V):Prop:=
 ∃ (o:Obj) (its:Array Value) (n:Nat),K.lookup a=some o∧o.cls=.type "tuple"∧o.data=.seq its n∧its.size≤sizeLine∧Vals vs its.toList
def Dm (K:PySem.W.Frag) (a:Addr) (vs:List V):Prop:=
 ∃ (o:Obj) (its:Array Value) (n:Nat),K.lookup a=some o∧o.cls=.type "list"∧o.dict=none∧o.data=.seq its n∧its.size≤sizeLine∧Vals vs its.toList
def rM (K:PySem.W.Frag) (w:Wd) (H:Hp) (a:Addr) (vs:List V):Prop:=(∃ o,At w H a (.frz o (.lst vs))) ∨ Dm K a vs
theorem rM.sq {K:PySem.W.Frag} {w:Wd} {H:Hp} {a:Addr} {vs:List V} (h:rM K w H a vs):SqL K H a vs:=h.elim (fun ⟨o,z⟩=>.inl (.inr ⟨o,z.1⟩)) .inr
def ExcAt (a:Addr) (C:Value):Heap→Prop:=fun h=>∃ o,h.get? a=some o∧o.cls=C
mutual
def RD (K:PySem.W.Frag) (w:Wd) (H:Hp):D→V→Prop
 | .non,v=>v=.non
 | .bl b,v=>v=.bl b
 | .int i,v=>v=.int i
 | .str x,v=>v=.str x
 | .tup ds,v=>∃ a vs,v=.ref a∧(At w H a (.tup vs) ∨ oD K a vs)∧RDs K w H ds vs
 | .lst ds,v=>∃ a vs,v=.ref a∧At w H a (.lst vs)∧RDs K w H ds vs
 | .fz ds,v=>∃ a vs,v=.ref a∧rM K w H a vs∧RDs K w H ds vs
 | .dic kvs,v=>∃ a us,v=.ref a∧At w H a (.dK us)∧RDk K w H kvs us
 | .ref n,v=>∃ a,v=.ref a∧w.st[n]?=some a
 | .ty n,v=>v=.ty n
 | .exc c,v=>∃ a C o,v=.ref a∧PySem.W.nsIn K mainGlobals c=some (some C)∧At w H a (.frz o (.ext (ExcAt a C)))
 | .cls c,v=>∃ C,PySem.W.nsIn K mainGlobals c=some (some (.ref C))∧v=.ref C
def RDs (K:PySem.W.Frag) (w:Wd) (H:Hp):List D→List V→Prop
 | [],vs=>vs=[]
 | d :: ds,vs=>∃ v r,vs=v :: r∧RD K w H d v∧RDs K w H ds r
def RDk (K:PySem.W.Frag) (w:Wd) (H:Hp):List (Sum Int Str × D)→List (Key × V)→Prop
 | [],us=>us=[]
 | (k,d) :: ds,us=>∃ v r,us=(k,v) :: r∧RD K w H d v∧RDk K w H ds r
end
structure Ext (w:Wd) (H:Hp) (w':Wd) (H':Hp):Prop where
 keep:∀ a o,H a=some o→a ∉ w.st→H' a=some o
 sub:∃ l,w'.st=w.st ++ l∧∀ a ∈ l,H a=none
 hid:∀ a,a ∈ w.hid→a ∈ w'.hid
 hnew:∀ a,a ∈ w'.hid→a ∈ w.hid ∨ H a=none
 frz:∀ a o u,H a=some (.frz o u)→H' a=some (.frz o u)
theorem Ext.refl (w:Wd) (H:Hp):Ext w H w H:=⟨fun _ _ h _=>h,⟨[],by simp,fun _ h=>nomatch h⟩,fun _ h=>h,fun _ h=>.inl h,fun _ _ _ h=>h⟩
theorem Ext.out {w w':Wd} {H H':Hp} (x:Ext w H w' H') {a:Addr} {o:HO} (h:H a=some o) (n:a ∉ w.st):a ∉ w'.st:=by
 obtain ⟨l,e,f⟩:=x.sub
 rw [e]
 intro z
 rcases List.mem_append.mp z with z | z
 ·exact n z
 ·rw [f a z] at h; cases h
theorem Ext.at {w w':Wd} {H H':Hp} (x:Ext w H w' H') {a:Addr} {o:HO} (h:At w H a o):At w' H' a o:=⟨x.keep a o h.1 h.2.1,x.out h.1 h.2.1,fun z=>(x.hnew a z).elim h.2.2 fun e=>by rw [h.1] at e; cases e⟩
theorem Ext.get {w w':Wd} {H H':Hp} (x:Ext w H w' H') {n:Nat} {a:Addr} (h:w.st[n]?=some a):w'.st[n]?=some a:=by
 obtain ⟨l,e,f⟩:=x.sub
 rw [e,List.getElem?_append_left (List.getElem?_eq_some_iff.mp h).1]
 exact h
theorem Ext.trans {w w1 w2:Wd} {H H1 H2:Hp} (x:Ext w H w1 H1) (y:Ext w1 H1 w2 H2) (fr:∀ a ∈ w.st,∃ o,H a=some o∧∃ o',H1 a=some o'):Ext w H w2 H2:=by
 have hno:∀ a,H1 a=none→H a=none:=fun a z=>by
  cases e:H a with
  | none=>rfl
  | some o=>
   by_cases hw:a ∈ w.st
   ·obtain ⟨_,_,o',e'⟩:=fr a hw
    rw [z] at e'; cases e'
   ·have:=x.keep a o e hw
    rw [z] at this; cases this
 refine ⟨fun a o h n=>y.keep a o (x.keep a o h n) (x.out h n),?_,fun a h=>y.hid a (x.hid a h),fun a h=>(y.hnew a h).elim (x.hnew a) fun z=>.inr (hno a z),fun a o u h=>y.frz a o u (x.frz a o u h)⟩
 obtain ⟨l,e1,f⟩:=x.sub
 obtain ⟨l2,e2,f2⟩:=y.sub
 refine ⟨l ++ l2,by rw [e2,e1]; simp,fun a ha=>?_⟩
 rcases List.mem_append.mp ha with z | z
 ·exact f a z
 ·exact hno a (f2 a z)
section
variable {K:PySem.W.Frag} {w w':Wd} {H H':Hp}
mutual
theorem RD.ext (x:Ext w H w' H'):∀ (d:D) (v:V),RD K w H d v→RD K w' H' d v
 | .non,_,h=>h
 | .bl _,_,h=>h
 | .int _,_,h=>h
 | .str _,_,h=>h
 | .tup ds,v,h=>by
  unfold RD at h ⊢
  obtain ⟨a,vs,e,p,r⟩:=h
  exact ⟨a,vs,e,p.imp x.at id,RDs.ext x ds vs r⟩
 | .lst ds,v,h=>by
  unfold RD at h ⊢
  obtain ⟨a,vs,e,p,r⟩:=h
  exact ⟨a,vs,e,x.at p,RDs.ext x ds vs r⟩
 | .fz ds,v,h=>by
  unfold RD at h ⊢
  obtain ⟨a,vs,e,p,r⟩:=h
  exact ⟨a,vs,e,p.imp (fun ⟨o,z⟩=>⟨o,x.at z⟩) id,RDs.ext x ds vs r⟩
 | .dic kvs,v,h=>by
  unfold RD at h ⊢
  obtain ⟨a,us,e,p,r⟩:=h
  exact ⟨a,us,e,x.at p,RDk.ext x kvs us r⟩
 | .ref n,v,h=>by
  unfold RD at h ⊢
  obtain ⟨a,e,p⟩:=h
  exact ⟨a,e,x.get p⟩
 | .ty _,_,h=>h
 | .exc c,v,h=>by
  unfold RD at h ⊢
  obtain ⟨a,C,o,e,q,p⟩:=h
  exact ⟨a,C,o,e,q,x.at p⟩
 | .cls _,_,h=>h
theorem RDs.ext (x:Ext w H w' H'):∀ (ds:List D) (vs:List V),RDs K w H ds vs→RDs K w' H' ds vs
 | [],_,h=>h
 | d :: ds,vs,h=>by
  unfold RDs at h ⊢
  obtain ⟨v,r,e,p,q⟩:=h
  exact ⟨v,r,e,RD.ext x d v p,RDs.ext x ds r q⟩
theorem RDk.ext (x:Ext w H w' H'):∀ (ds:List (Sum Int Str × D)) (vs:List (Key × V)),RDk K w H ds vs→RDk K w' H' ds vs
 | [],_,h=>h
 | (k,d) :: ds,vs,h=>by
  unfold RDk at h ⊢
  obtain ⟨v,r,e,p,q⟩:=h
  exact ⟨v,r,e,RD.ext x d v p,RDk.ext x ds r q⟩
end
end
def RDf (K:PySem.W.Frag) (w:Wd) (H:Hp) (fs:List (Str × D)) (us:List (Str × V)):Prop:=fs.map (·.1)=us.map (·.1)∧RDs K w H (fs.map (·.2)) (us.map (·.2))
def RO (K:PySem.W.Frag) (w:Wd) (H:Hp) (a:Addr):SO→Prop
 | .lst ds=>∃ vs,H a=some (.lst vs)∧RDs K w H ds vs
 | .dic kvs=>∃ us,H a=some (.dK us)∧RDk K w H kvs us
 | .fdic kvs=>∃ o us,H a=some (.frz o (.dK us))∧RDk K w H kvs us
 | .ins c fs=>∃ C dx us,PySem.W.nsIn K mainGlobals c=some (some (.ref C))∧H a=some (.ins C dx us)∧RDf K w H fs us
 | .flst ds=>∃ o vs,H a=some (.frz o (.lst vs))∧RDs K w H ds vs
structure RS (K:PySem.W.Frag) (w:Wd) (H:Hp) (S:Sto):Prop where
 nd:w.st.Nodup
 len:w.st.length=S.length
 obj:∀ (n:Nat) (o:SO),S[n]?=some o→∃ a:Addr,w.st[n]?=some a∧RO K w H a o
 hid:∀ a ∈ w.hid,a ∉ w.st∧∃ o,H a=some o
section
variable {K:PySem.W.Frag} {w w':Wd} {H H':Hp} {S:Sto}
theorem RS.there (s:RS K w H S) {a:Addr} (ha:a ∈ w.st):∃ o,H a=some o:=by
 obtain ⟨n,hn⟩:=List.mem_iff_getElem?.mp ha
 have hl:n < S.length:=by rw [← s.len]; exact (List.getElem?_eq_some_iff.mp hn).1
 obtain ⟨b,hb,r⟩:=s.obj n S[n] (List.getElem?_eq_getElem hl)
 rw [hn] at hb; cases hb
 revert r
 cases S[n] with
 | lst ds=>rintro ⟨vs,e,_⟩; exact ⟨_,e⟩
 | dic kvs=>rintro ⟨vs,e,_⟩; exact ⟨_,e⟩
 | fdic kvs=>rintro ⟨o,vs,e,_⟩; exact ⟨_,e⟩
 | ins c fs=>rintro ⟨C,dx,us,_,e,_⟩; exact ⟨_,e⟩
 | flst ds=>rintro ⟨o,vs,e,_⟩; exact ⟨_,e⟩
theorem RS.freshS (s:RS K w H S) {a:Addr} (h:H a=none):a ∉ w.st:=fun z=>by
 obtain ⟨o,e⟩:=s.there z
 rw [h] at e; cases e
theorem RS.fresh (s:RS K w H S) {a:Addr} (h:H a=none):w.no a:=⟨s.freshS h,fun z=>by
 obtain ⟨_,o,e⟩:=s.hid a z
 rw [h] at e; cases e⟩
theorem Ext.trans' {w1 w2:Wd} {H1 H2:Hp} {S1:Sto} (x:Ext w H w1 H1) (y:Ext w1 H1 w2 H2) (s:RS K w H S) (s1:RS K w1 H1 S1):Ext w H w2 H2:=
 x.trans y fun a ha=>by
  obtain ⟨o,e⟩:=s.there ha
  obtain ⟨l,el,_⟩:=x.sub
  obtain ⟨o',e'⟩:=s1.there (a:=a) (by rw [el]; exact List.mem_append_left _ ha)
  exact ⟨o,e,o',e'⟩
theorem Ext.new {p:Addr} {o:HO} (hp:H p=none):Ext w H w (upd H p o):=
 ⟨fun a u e _=>by rw [aB (aL e hp)]; exact e,⟨[],by simp,fun _ z=>nomatch z⟩,fun _ h=>h,fun _ h=>.inl h,fun a o u e=>by rw [aB (aL e hp)]; exact e⟩
theorem RO.ext (x:Ext w H w' H') {a:Addr} {o:SO} (hk:∀ u,H a=some u→H' a=some u) (r:RO K w H a o):RO K w' H' a o:=by
 cases o with
 | lst ds=>obtain ⟨vs,e,q⟩:=r; exact ⟨vs,hk _ e,RDs.ext x _ _ q⟩
 | dic kvs=>obtain ⟨vs,e,q⟩:=r; exact ⟨vs,hk _ e,RDk.ext x _ _ q⟩
 | fdic kvs=>obtain ⟨o,vs,e,q⟩:=r; exact ⟨o,vs,hk _ e,RDk.ext x _ _ q⟩
 | ins c fs=>obtain ⟨C,dx,us,n,e,q1,q2⟩:=r; exact ⟨C,dx,us,n,hk _ e,q1,RDs.ext x _ _ q2⟩
 | flst ds=>obtain ⟨o,vs,e,q⟩:=r; exact ⟨o,vs,hk _ e,RDs.ext x _ _ q⟩
theorem RS.new {p:Addr} {o:HO} (s:RS K w H S) (hp:H p=none):RS K w (upd H p o) S:=
  ⟨s.nd,s.len,fun n so e=>by
    obtain ⟨a,ha,r⟩:=s.obj n so e
    exact ⟨a,ha,r.ext (Ext.new hp) fun u q=>by rw [aB (aL q hp)]; exact q⟩,
   fun a ha=>by
    obtain ⟨h1,u,e⟩:=s.hid a ha
    exact ⟨h1,u,by rw [aB (aL e hp)]; exact e⟩⟩
theorem Ext.alloc {p:Addr} {o:HO} (hp:H p=none):Ext w H (w.add p) (upd H p o):=
 ⟨fun a u e _=>by rw [aB (aL e hp)]; exact e,⟨[p],rfl,fun a ha=>by
  have:a=p:=by simpa using ha
  subst this; exact hp⟩,fun _ h=>h,fun _ h=>.inl h,fun a o u e=>by rw [aB (aL e hp)]; exact e⟩
theorem RS.alloc {p:Addr} {o:HO} {so:SO} (s:RS K w H S) (hp:H p=none) (r:RO K (w.add p) (upd H p o) p so):RS K (w.add p) (upd H p o) (S ++ [so]):=by
 have np:=s.freshS hp
 refine ⟨?_,by simp [Wd.add,s.len],fun n so' e=>?_,fun a ha=>?_⟩
 ·show (w.st ++ [p]).Nodup
  rw [List.nodup_append]
  exact ⟨s.nd,by simp,fun a ha b hb=>by
   have:b=p:=by simpa using hb
   subst this
   rintro rfl
   exact np ha⟩
 ·by_cases hn:n < S.length
  ·rw [List.getElem?_append_left hn] at e
   obtain ⟨a,ha,q⟩:=s.obj n so' e
   exact ⟨a,(Ext.alloc (o:=o) hp).get ha,q.ext (Ext.alloc hp) fun u z=>by rw [aB (aL z hp)]; exact z⟩
  ·have hn':n=S.length:=by
    have:=(List.getElem?_eq_some_iff.mp e).1
    simp at this; omega
   subst hn'
   simp at e; subst e
   exact ⟨p,by show (w.st ++ [p])[S.length]?=some p; rw [← s.len]; simp,r⟩
 ·obtain ⟨h1,u,e⟩:=s.hid a ha
  refine ⟨?_,u,by rw [aB (aL e hp)]; exact e⟩
  show a ∉ w.st ++ [p]
  intro z
  rcases List.mem_append.mp z with z | z
  ·exact h1 z
  ·have:a=p:=by simpa using z
   subst this
   rw [hp] at e; cases e
theorem Ext.mut {p:Addr} {o u0:HO} (hp:p ∈ w.st) (h0:H p=some u0) (hu:autoParam (∀ o u,u0 ≠ .frz o u) Au.h8._auto_1):Ext w H w (upd H p o):=
 ⟨fun a u e n=>by rw [aB (fun z:a=p=>n (z ▸ hp))]; exact e,⟨[],by simp,fun _ z=>nomatch z⟩,fun _ h=>h,fun _ h=>.inl h,fun a o u e=>by
  rw [aB (fun z:a=p=>by rw [z,h0] at e; exact hu o u (Option.some.inj e))]; exact e⟩
theorem RS.mut {p:Addr} {o:HO} {so:SO} {n:Nat} (s:RS K w H S) (hp:w.st[n]?=some p) {u0:HO} (h0:H p=some u0) (r:RO K w (upd H p o) p so) (hu:autoParam (∀ o u,u0 ≠ .frz o u) Au.h8._auto_1):RS K w (upd H p o) (S.set n so):=by
 have hm:p ∈ w.st:=List.mem_of_getElem? hp
 refine ⟨s.nd,by simp [s.len],fun m so' e=>?_,fun a ha=>?_⟩
 ·by_cases hn:m=n
  ·subst hn
   have hl:m < S.length:=by rw [← s.len]; exact (List.getElem?_eq_some_iff.mp hp).1
   rw [List.getElem?_set_self hl] at e
   cases e
   exact ⟨p,hp,r⟩
  ·rw [List.getElem?_set_ne (Ne.symm hn)] at e
   obtain ⟨a,ha,q⟩:=s.obj m so' e
   refine ⟨a,ha,q.ext (Ext.mut hm h0 hu) fun u z=>?_⟩
   have:a ≠ p:=fun z=>by
    subst z
    obtain ⟨h1,e1⟩:=List.getElem?_eq_some_iff.mp ha
    obtain ⟨h2,e2⟩:=List.getElem?_eq_some_iff.mp hp
    exact hn ((List.getElem_inj s.nd).mp (e1.trans e2.symm))
   rw [aB this]; exact z
 ·obtain ⟨h1,u,e⟩:=s.hid a ha
  exact ⟨h1,u,by rw [aB (fun z:a=p=>h1 (z ▸ hm))]; exact e⟩
end
def RSt (K:PySem.W.Frag) (w:Wd) (H:Hp) (r:Rho) (s:L2.St):Prop:=
 s.length=r.length∧∀ (i:Nat) (d:D),r[i]?=some (some d)→∃ v,s[i]?=some (some v)∧RD K w H d v
theorem RSt.ext {K:PySem.W.Frag} {w w':Wd} {H H':Hp} {r:Rho} {s:L2.St} (h:RSt K w H r s) (x:Ext w H w' H'):RSt K w' H' r s:=
 ⟨h.1,fun i d e=>let ⟨v,e1,q⟩:=h.2 i d e; ⟨v,e1,RD.ext x d v q⟩⟩
theorem RSt.set {K:PySem.W.Frag} {w:Wd} {H:Hp} {r:Rho} {s:L2.St} (h:RSt K w H r s) (i:Nat) {d:D} {v:V} (q:RD K w H d v):RSt K w H (r.set i (some d)) (s.set i (some v)):=by
 refine ⟨by simp [h.1],fun j d' e=>?_⟩
 by_cases hj:j=i
 ·subst hj
  have hl:j < r.length:=by
   have:=(List.getElem?_eq_some_iff.mp e).1
   simpa using this
  rw [List.getElem?_set_self hl] at e
  cases e
  exact ⟨v,List.getElem?_set_self (by rw [h.1]; exact hl),q⟩
 ·rw [List.getElem?_set_ne (Ne.symm hj)] at e
  obtain ⟨v',e',q'⟩:=h.2 j d' e
  exact ⟨v',by rw [List.getElem?_set_ne (Ne.symm hj)]; exact e',q'⟩
section
variable {K:PySem.W.Frag} {w:Wd} {H:Hp}
theorem RDs.nil:RDs K w H [] []:=by unfold RDs; rfl
theorem RDs.cons {d:D} {v:V} {ds:List D} {vs:List V} (r:RD K w H d v) (q:RDs K w H ds vs):RDs K w H (d :: ds) (v :: vs):=by unfold RDs; exact ⟨v,vs,rfl,r,q⟩
theorem RDs.nil_inv {vs:List V} (h:RDs K w H [] vs):vs=[]:=by unfold RDs at h; exact h
theorem RDs.cons_inv {d:D} {ds:List D} {vs:List V} (h:RDs K w H (d :: ds) vs):∃ v r,vs=v :: r∧RD K w H d v∧RDs K w H ds r:=by unfold RDs at h; exact h
theorem RDs.one_inv {d:D} {vs:List V} (h:RDs K w H [d] vs):∃ v,vs=[v]∧RD K w H d v:=by
 obtain ⟨v,r,rfl,h1,h2⟩:=h.cons_inv
 rw [h2.nil_inv]
 exact ⟨v,rfl,h1⟩
theorem RDs.two_inv {d e:D} {vs:List V} (h:RDs K w H [d,e] vs):∃ v u,vs=[v,u]∧RD K w H d v∧RD K w H e u:=by
 obtain ⟨v,r,rfl,h1,h2⟩:=h.cons_inv
 obtain ⟨u,rfl,h3⟩:=h2.one_inv
 exact ⟨v,u,rfl,h1,h3⟩
theorem RDs.length:∀ {ds:List D} {vs:List V},RDs K w H ds vs→vs.length=ds.length
 | [],_,h=>by rw [h.nil_inv]; rfl
 | _ :: _,_,h=>by
  obtain ⟨v,r,rfl,_,q⟩:=h.cons_inv
  simp [q.length]
theorem RDs.get:∀ {ds:List D} {vs:List V} {i:Nat} {d:D},RDs K w H ds vs→ds[i]?=some d→∃ v,vs[i]?=some v∧RD K w H d v
 | [],_,_,_,_,e=>by simp at e
 | _ :: _,_,0,_,h,e=>by
  obtain ⟨v,r,rfl,p,_⟩:=h.cons_inv
  simp at e; subst e
  exact ⟨v,rfl,p⟩
 | _ :: ds,_,i + 1,d,h,e=>by
  obtain ⟨v,r,rfl,_,q⟩:=h.cons_inv
  obtain ⟨u,e1,q1⟩:=q.get (i:=i) (d:=d) (by simpa using e)
  exact ⟨u,by simpa using e1,q1⟩
theorem RDs.append:∀ {ds es:List D} {vs us:List V},RDs K w H ds vs→RDs K w H es us→RDs K w H (ds ++ es) (vs ++ us)
 | [],_,_,_,h,q=>by rw [h.nil_inv]; exact q
 | _ :: _,_,_,_,h,q=>by
  obtain ⟨v,r,rfl,p,t⟩:=h.cons_inv
  exact .cons p (t.append q)
theorem RDs.set {d:D} {v:V} (r:RD K w H d v):∀ {ds:List D} {vs:List V} (i:Nat),RDs K w H ds vs→RDs K w H (ds.set i d) (vs.set i v)
 | [],_,_,h=>by rw [h.nil_inv]; exact .nil
 | _ :: _,_,0,h=>by
  obtain ⟨_,_,rfl,_,t⟩:=h.cons_inv
  exact .cons r t
 | _ :: _,_,i + 1,h=>by
  obtain ⟨_,_,rfl,p,t⟩:=h.cons_inv
  exact .cons p (RDs.set r i t)
end
end PD
namespace PD
open PySem PySem.Spec PyProof.Rows L2
def RX (K:PySem.W.Frag) (w:Wd) (H:Hp) (x:XD) (c:Value) (da:Option Addr):Prop:=PySem.W.nsIn K mainGlobals x.cls=some (some c)
def aE {A B:Type} (K:PySem.W.Frag) (E:XK) (rel:Wd→Hp→A→B→Prop) (w:Wd) (H:Hp) (r:R A) (Q:B→Hp→Prop):Prop:=match r with
 | .ok a S'=>∀ w' H' b,Ext w H w' H'→rel w' H' a b→RS K w' H' S'→Q b H'
 | .err x S'=>∀ w' H' c da,Ext w H w' H'→RS K w' H' S'→RX K w' H' x c da→E c da H'
 | .bad=>False
section
variable {A B A2 B2:Type} {K:PySem.W.Frag} {E:XK} {rel:Wd→Hp→A→B→Prop} {rel2:Wd→Hp→A2→B2→Prop} {w w1:Wd} {H H1:Hp} {S S1:Sto}
theorem aE.ext {r:R A} {Q:B→Hp→Prop} (h:aE K E rel w H r Q) (x:Ext w H w1 H1) (s:RS K w H S) (s1:RS K w1 H1 S1):aE K E rel w1 H1 r Q:=by
 cases r with
 | ok a S'=>exact fun w' H' b y q t=>h w' H' b (x.trans' y s s1) q t
 | err e S'=>exact fun w' H' c da y t q=>h w' H' c da (x.trans' y s s1) t q
 | bad=>exact h
theorem aE.bind {r:R A} {f:A→Sto→R A2} {Q':B→Hp→Prop} {Q:B2→Hp→Prop} (h:aE K E rel2 w H (r.bind f) Q) (s:RS K w H S)
  (k:∀ a S1 w1 H1 b,Ext w H w1 H1→rel w1 H1 a b→RS K w1 H1 S1→aE K E rel2 w1 H1 (f a S1) Q→Q' b H1):aE K E rel w H r Q':=by
 cases r with
 | ok a S'=>exact fun w1 H1 b x q s1=>k a S' w1 H1 b x q s1 (aE.ext (r:=f a S') h x s s1)
 | err e S'=>exact h
 | bad=>exact h
theorem aE.bindAt {w0:Wd} {H0:Hp} {S0:Sto} {r:R A} {f:A→Sto→R A2} {Q':B→Hp→Prop} {Q:B2→Hp→Prop} (h:aE K E rel2 w0 H0 (r.bind f) Q) (x:Ext w0 H0 w H) (s0:RS K w0 H0 S0) (s:RS K w H S)
  (k:∀ a S1 w1 H1 b,Ext w H w1 H1→rel w1 H1 a b→RS K w1 H1 S1→aE K E rel2 w0 H0 (f a S1) Q→Q' b H1):aE K E rel w H r Q':=by
 cases r with
 | ok a S'=>exact fun w1 H1 b y q s1=>k a S' w1 H1 b y q s1 h
 | err e S'=>exact fun w' H' c da y t q=>h w' H' c da (x.trans' y s0 s) t q
 | bad=>exact h
theorem aE.ret {a:A} {b:B} {Q:B→Hp→Prop} (h:aE K E rel w H (.ok a S) Q) (q:rel w H a b) (s:RS K w H S):Q b H:=h w H b (Ext.refl w H) q s
theorem aE.at {a:A} {b:B} {Q:B→Hp→Prop} (h:aE K E rel w H (.ok a S) Q) (x:Ext w H w1 H1) (q:rel w1 H1 a b) (s:RS K w1 H1 S):Q b H1:=h w1 H1 b x q s
theorem aE.of {o:Option A} {Q:B→Hp→Prop} (h:aE K E rel w H (R.of S o) Q):∃ a,o=some a∧aE K E rel w H (.ok a S) Q:=by
 cases o with
 | some a=>exact ⟨a,rfl,h⟩
 | none=>exact h.elim
end
set_option genInjectivity false in
inductive FV where
 | nx (s:L2.St) | rt (v:V) | bk (s:L2.St) | ct (s:L2.St)
def FV.to (D:Ends):FV→Hp→Prop
 | .nx s,H=>D.nx s H
 | .rt v,H=>D.rt v H
 | .bk s,H=>D.bk s H
 | .ct s,H=>D.ct s H
def RF (K:PySem.W.Frag) (w:Wd) (H:Hp):F→FV→Prop
 | .nx r,f=>∃ s,f=.nx s∧RSt K w H r s
 | .rt d,f=>∃ v,f=.rt v∧RD K w H d v
 | .bk r,f=>∃ s,f=.bk s∧RSt K w H r s
 | .ct r,f=>∃ s,f=.ct s∧RSt K w H r s
def RB (w:Wd) (H:Hp) (a b:Bool):Prop:=b=a
def uE (K:PySem.W.Frag) (E:XK) (m:EM):TE:=fun s H Q=>∃ w r S,RSt K w H r s∧RS K w H S∧aE K E (RD K) w H (m r S) Q
def uT (K:PySem.W.Frag) (E:XK) (m:TM):TT:=fun s H Q=>∃ w r S,RSt K w H r s∧RS K w H S∧aE K E RB w H (m r S) Q
def uA (K:PySem.W.Frag) (E:XK) (m:AM):TA:=fun s H Q=>∃ w r S,RSt K w H r s∧RS K w H S∧aE K E (RDs K) w H (m r S) Q
def uS (K:PySem.W.Frag) (E:XK) (m:SM):TS:=fun D s H=>∃ w r S,RSt K w H r s∧RS K w H S∧aE K E (RF K) w H (m r S) (FV.to D)
theorem ex6 {K:PySem.W.Frag} {H:Hp} {s:L2.St} {c:Wd→Rho→Sto→Prop} {P:Prop} (z:∃ w r S,RSt K w H r s∧RS K w H S∧c w r S) (f:∀ w r S,RSt K w H r s→RS K w H S→c w r S→P):P:=by
 obtain ⟨w,r,S,x,y,z⟩:=z
 exact f w r S x y z
theorem ex8.{u} {α:Type u} {a:Wd→Rho→Prop} {b:Wd→Rho→α→Rho→Prop} {c:Wd→Rho→α→Rho→Prop} {d:Wd→Rho→α→Rho→Prop} {P:Prop} (z:∃ w r e r',a w r∧b w r e r'∧c w r e r'∧d w r e r') (f:∀ w r e r',a w r→b w r e r'→c w r e r'→d w r e r'→P):P:=by
 obtain ⟨w,r,e,r',x,y,z,t⟩:=z
 exact f w r e r' x y z t
structure Bx (p:Prop):Prop where
 out:p
abbrev SE (X:Cx) (E:XK) (e:Expr) (m:EM):Prop:=Bx (PE X e (uE X.K E m))
abbrev ST (X:Cx) (E:XK) (e:Expr) (m:TM):Prop:=Bx (PT X e (uT X.K E m))
abbrev SW (X:Cx) (E:XK) (e:Expr) (m:TM):Prop:=Bx (PW X e (uT X.K E m))
abbrev SA (X:Cx) (E:XK) (es:List Expr) (m:AM):Prop:=Bx (PA X es (uA X.K E m))
abbrev SS (X:Cx) (E:XK) (st:Stmt) (m:SM):Prop:=Bx (PS X st (uS X.K E m))
abbrev SSs (X:Cx) (E:XK) (st:List Stmt) (m:SM):Prop:=Bx (PSs X st (uS X.K E m))
theorem bc {X:Cx} {e:Expr} {t t':TE} (h:PE X e t) (k:∀ s H Q,t' s H Q→t s H Q):PE X e t':=fun pins s σ H Q I q=>h pins s σ H Q I (k σ H Q q)
theorem oE {X:Cx} {e:Expr} {t t':TT} (h:PT X e t) (k:∀ s H Q,t' s H Q→t s H Q):PT X e t':=fun pins s σ H Q I q=>h pins s σ H Q I (k σ H Q q)
theorem sQ {X:Cx} {e:Expr} {t t':TT} (h:PW X e t) (k:∀ s H Q,t' s H Q→t s H Q):PW X e t':=fun wh pins s σ H Q I q=>h wh pins s σ H Q I (k σ H Q q)
theorem sR {X:Cx} {e:List Expr} {t t':TA} (h:PA X e t) (k:∀ s H Q,t' s H Q→t s H Q):PA X e t':=fun p pins s σ H Q I q=>h p pins s σ H Q I (k σ H Q q)
theorem fD {X:Cx} {e:Stmt} {t t':TS} (h:PS X e t) (k:∀ D s H,t' D s H→t D s H):PS X e t':=fun pins s σ H Q I q=>h pins s σ H Q I (k Q σ H q)
theorem p7 {X:Cx} {e:List Stmt} {t t':TS} (h:PSs X e t) (k:∀ D s H,t' D s H→t D s H):PSs X e t':=fun pins s σ H Q I q=>h pins s σ H Q I (k Q σ H q)
section
variable {X:Cx} {E:XK} {a b c:Expr} {ma mb mc:EM} {pos:Pos}
theorem vX (i:Nat) {x:Str} {pos:Pos} (hN:autoParam (X.N[i]?=some x) Au.h0._auto_1) (hv:Vis X.env.scope x) (hd:autoParam ((x == ("__debug__":Str))=false) Au.h3._auto_1)
  (hcd:autoParam ((x == ("__classdict__":Str))=false) Au.h3._auto_1):SE X E (.Name x pos) (ae i):=⟨
 bc (pv i hN hv hd hcd) fun s H Q zq=>ex6 zq fun w r S hr hS hp=>by
  unfold ae at hp
  split at hp
  ·rename_i d e
   obtain ⟨v,e',q⟩:=hr.2 i d e
   exact ⟨v,e',hp.ret q hS⟩
  ·exact hp.elim⟩
theorem uL {e:Expr} {v:V} {d:D} (h:PE X e (tC v)) (q:∀ w H,RD X.K w H d v):SE X E e (eC d):=⟨
 bc h fun s H Q zq=>ex6 zq fun w r S hr hS hp=>hp.ret (q w H) hS⟩
theorem ar {i j pos}:SE X E (.Constant (.int i) j pos) (eC (.int i)):=uL zP fun _ _=>by unfold RD; rfl
theorem dY {i j pos}:SE X E (.Constant (.bool i) j pos) (eC (.bl i)):=uL BU fun _ _=>by unfold RD; rfl
theorem dm {j pos}:SE X E (.Constant .none j pos) (eC .non):=uL zQ fun _ _=>by unfold RD; rfl
theorem yf {x:Str} {i:Int} {t:Tok} {pos:Pos} (hg:Gl X x) (hm:X.mg x=some (.int i t)) (hd:autoParam ((x == ("__debug__":Str))=false) Au.h3._auto_1):SE X E (.Name x pos) (eC (.int i)):=
 uL (sH hg hm (v:=.int i) ⟨t,rfl⟩ hd) fun _ _=>by unfold RD; rfl
theorem nC {x:Str} {T:String} {pos:Pos} (hg:Gl X x) (hm:X.mg x=none) (hv:bootBuiltins x=some (.type T)) (hn:autoParam (x ≠ "__name__") Au.h3._auto_1) (hd:autoParam ((x == ("__debug__":Str))=false) Au.h3._auto_1):SE X E (.Name x pos) (eC (.ty T)):=
 uL (xE hg hm hv (v:=.ty T) rfl hn hd) fun _ _=>by unfold RD; rfl
def xO (K:PySem.W.Frag) (E:XK) (f:Sto→D→D→Option D):R2:=fun x y H Q=>∃ w S d e,RS K w H S∧RD K w H d x∧RD K w H e y∧aE K E (RD K) w H (R.of S (f S d e)) Q
def xU (K:PySem.W.Frag) (E:XK) (f:Sto→D→Option D):V→Hp→VK→Prop:=fun x H Q=>∃ w S d,RS K w H S∧RD K w H d x∧aE K E (RD K) w H (R.of S (f S d)) Q
def xC (K:PySem.W.Frag) (E:XK) (f:Sto→List D→Option D):List V→Hp→VK→Prop:=fun xs H Q=>∃ w S ds,RS K w H S∧RDs K w H ds xs∧aE K E (RD K) w H (R.of S (f S ds)) Q
theorem aI {op:Operator} {f:Sto→D→D→Option D} (ho:OpR X (binaryOp op) (xO X.K E f)) (ha:SE X E a ma) (hb:SE X E b mb):SE X E (.BinOp a op b pos) (eOp f ma mb):=⟨
 bc (B8 ho ha.out hb.out) fun s H Q zq=>ex6 zq fun w r S hr hS hp=>⟨w,r,S,hr,hS,hp.bind hS fun d S1 w1 H1 v x1 q1 s1 p1=>
  ⟨w1,r,S1,hr.ext x1,s1,p1.bind s1 fun e S2 w2 H2 u x2 q2 s2 p2=>⟨w2,S2,d,e,s2,RD.ext x2 d v q1,q2,p2⟩⟩⟩⟩
theorem nD {op:UnaryOp} {f:Sto→D→Option D} (ho:UnR X (unaryOp op) (xU X.K E f)) (ha:SE X E a ma):SE X E (.UnaryOp op a pos) (eUn f ma):=⟨
 bc (B9 ho ha.out) fun s H Q zq=>ex6 zq fun w r S hr hS hp=>⟨w,r,S,hr,hS,hp.bind hS fun d S1 w1 H1 v x1 q1 s1 p1=>⟨w1,S1,d,s1,q1,p1⟩⟩⟩
theorem cE {op:CmpOp} {f:Sto→D→D→Option D} (ho:OpR X (compareOp op) (xO X.K E f)) (ha:SE X E a ma) (hb:SE X E b mb) (hm:autoParam (behindInMarks op b=false) Au.h9._auto_1):
  SE X E (.Compare a [op] [b] pos) (eOp f ma mb):=⟨
 bc (xT ho ha.out hb.out hm) fun s H Q zq=>ex6 zq fun w r S hr hS hp=>⟨w,r,S,hr,hS,hp.bind hS fun d S1 w1 H1 v x1 q1 s1 p1=>
  ⟨w1,r,S1,hr.ext x1,s1,p1.bind s1 fun e S2 w2 H2 u x2 q2 s2 p2=>⟨w2,S2,d,e,s2,RD.ext x2 d v q1,q2,p2⟩⟩⟩⟩
theorem vY {op op':CmpOp} {f g:Sto→D→D→Option D} (ho:OpR X (compareOp op) (xO X.K E f)) (ho':OpR X (compareOp op') (xO X.K E g)) (ha:SE X E a ma) (hb:SE X E b mb) (hc:SE X E c mc)
  (hm:autoParam (lastMarks [op,op'] [b,c]=false) Au.h0._auto_1):SE X E (.Compare a [op,op'] [b,c] pos) (lH f g ma mb mc):=⟨
 bc (vH ho ho' ha.out hb.out hc.out hm) fun s H Q zq=>ex6 zq fun w r S hr hS hp=>⟨w,r,S,hr,hS,hp.bind hS fun d S1 w1 H1 v x1 q1 s1 p1=>
  ⟨w1,r,S1,hr.ext x1,s1,p1.bind s1 fun e S2 w2 H2 u x2 q2 s2 p2=>by
   refine ⟨w2,S2,d,e,s2,RD.ext x2 d v q1,q2,?_⟩
   cases hf:f S2 d e with
   | none=>rw [hf] at p2; exact p2.elim
   | some z=>
    rw [hf] at p2
    intro w3 H3 z' x3 q3 s3
    cases z with
    | bl k=>
     unfold RD at q3
     subst q3
     refine ⟨k,rfl,?_⟩
     cases k with
     | true=>
      refine oC ⟨w3,r,S2,((hr.ext x1).ext x2).ext x3,s3,?_⟩
      have p3:=aE.ext p2 x3 s2 s3
      refine p3.bind s3 fun t S4 w4 H4 u' x4 q4 s4 p4=>⟨w4,S4,e,t,s4,RD.ext x4 e u (RD.ext x3 e u q2),q4,p4⟩
     | false=>exact oB (aE.at p2 x3 (by unfold RD; rfl) s3)
    | _=>exact p2.elim⟩⟩⟩
theorem gA {op} (h:SE X E a ma):SE X E (.BoolOp op [a] pos) ma:=⟨zV h.out⟩
theorem gB {rest:List Expr} (ha:SE X E a ma) (hb:SE X E (.BoolOp .And (b :: rest) pos) mb):SE X E (.BoolOp .And (a :: b :: rest) pos) (iy ma mb):=⟨
 bc (zW ha.out hb.out) fun s H Q zq=>ex6 zq fun w r S hr hS hp=>⟨w,r,S,hr,hS,hp.bind hS fun d S1 w1 H1 v x1 q1 s1 p1=>by
  cases d with
  | bl k=>
   unfold RD at q1
   subst q1
   refine ⟨k,rfl,?_⟩
   cases k with
   | true=>exact oC ⟨w1,r,S1,hr.ext x1,s1,p1⟩
   | false=>exact oB (aE.ret p1 (by unfold RD; rfl) s1)
  | _=>exact p1.elim⟩⟩
theorem CA {rest:List Expr} (ha:SE X E a ma) (hb:SE X E (.BoolOp .Or (b :: rest) pos) mb):SE X E (.BoolOp .Or (a :: b :: rest) pos) (eOr ma mb):=⟨
 bc (BY ha.out hb.out) fun s H Q zq=>ex6 zq fun w r S hr hS hp=>⟨w,r,S,hr,hS,hp.bind hS fun d S1 w1 H1 v x1 q1 s1 p1=>by
  cases d with
  | bl k=>
   unfold RD at q1
   subst q1
   refine ⟨k,rfl,?_⟩
   cases k with
   | false=>exact oB ⟨w1,r,S1,hr.ext x1,s1,p1⟩
   | true=>exact oC (aE.ret p1 (by unfold RD; rfl) s1)
  | _=>exact p1.elim⟩⟩
theorem AK (ha:SE X E a ma):SE X E (.UnaryOp .Not a pos) (AJ ma):=⟨
 bc (zX ha.out) fun s H Q zq=>ex6 zq fun w r S hr hS hp=>⟨w,r,S,hr,hS,hp.bind hS fun d S1 w1 H1 v x1 q1 s1 p1=>by
  cases d with
  | bl k=>
   unfold RD at q1
   subst q1
   exact ⟨k,rfl,aE.ret p1 (by unfold RD; rfl) s1⟩
  | _=>exact p1.elim⟩⟩
theorem zt {mt:TM} (hc:ST X E c mt) (ha:SE X E a ma) (hb:SE X E b mb):SE X E (.IfExp c a b pos) (eIf mt ma mb):=⟨
 bc (vx hc.out ha.out hb.out) fun s H Q zq=>ex6 zq fun w r S hr hS hp=>⟨w,r,S,hr,hS,hp.bind hS fun k S1 w1 H1 v x1 q1 s1 p1=>by
  have e:v=k:=q1
  subst e
  cases v with
  | true=>exact oC ⟨w1,r,S1,hr.ext x1,s1,p1⟩
  | false=>exact oB ⟨w1,r,S1,hr.ext x1,s1,p1⟩⟩⟩
theorem zu {s:L2.St} {H:Hp} {Q:Bool→Hp→Prop} (h:uT X.K E (tV ma) s H Q):uE X.K E ma s H fun x H1=>∃ k,x=.bl k∧Q k H1:=by
 obtain ⟨w,r,S,hr,hS,hp⟩:=h
 exact ⟨w,r,S,hr,hS,hp.bind hS fun d S1 w1 H1 v x1 q1 s1 p1=>by
  cases d with
  | bl k=>
   unfold RD at q1
   exact ⟨k,q1,aE.ret p1 rfl s1⟩
  | _=>exact p1.elim⟩
theorem dS (h:SE X E a ma) (he:autoParam (∀ whole,isTrue a X.env whole=(do let v ← whole; standAt a.pos; holding [v] (truthy v))) Au.h4._auto_1):ST X E a (tV ma):=⟨
 oE (zR h.out he) fun s H Q q=>zu q⟩
theorem ba {op:CmpOp} {f:Sto→D→D→Option D} (ho:OpR X (compareOp op) (xO X.K E f)) (ha:SE X E a ma) (hb:SE X E b mb) (hm:autoParam (behindInMarks op b=false) Au.h9._auto_1):
  ST X E (.Compare a [op] [b] pos) (tV (eOp f ma mb)):=⟨
 oE (xV ho ha.out hb.out hm) fun s H Q q=>by
  obtain ⟨w,r,S,hr,hS,hp⟩:=zu q
  exact ⟨w,r,S,hr,hS,hp.bind hS fun d S1 w1 H1 v x1 q1 s1 p1=>
   ⟨w1,r,S1,hr.ext x1,s1,p1.bind s1 fun e S2 w2 H2 u x2 q2 s2 p2=>⟨w2,S2,d,e,s2,RD.ext x2 d v q1,q2,p2⟩⟩⟩⟩
theorem yg {mt:TM} (ha:ST X E a mt):SW X E (.BoolOp .And [a] pos) mt:=⟨xF ha.out⟩
theorem gC {mt:TM} (ha:ST X E a mt):SW X E (.BoolOp .Or [a] pos) mt:=⟨zS ha.out⟩
theorem AL {mt mu:TM} {rest:List Expr} (ha:ST X E a mt) (hb:SW X E (.BoolOp .And (b :: rest) pos) mu):SW X E (.BoolOp .And (a :: b :: rest) pos) (PD.oi mt mu):=⟨
 sQ (zT ha.out hb.out) fun s H Q zq=>ex6 zq fun w r S hr hS hp=>⟨w,r,S,hr,hS,hp.bind hS fun k S1 w1 H1 v x1 q1 s1 p1=>by
  have e:v=k:=q1
  subst e
  cases v with
  | true=>exact oC ⟨w1,r,S1,hr.ext x1,s1,p1⟩
  | false=>exact oB (aE.ret p1 rfl s1)⟩⟩
theorem iE {mt mu:TM} {rest:List Expr} (ha:ST X E a mt) (hb:SW X E (.BoolOp .Or (b :: rest) pos) mu):SW X E (.BoolOp .Or (a :: b :: rest) pos) (PD.tOr mt mu):=⟨
 sQ (BV ha.out hb.out) fun s H Q zq=>ex6 zq fun w r S hr hS hp=>⟨w,r,S,hr,hS,hp.bind hS fun k S1 w1 H1 v x1 q1 s1 p1=>by
  have e:v=k:=q1
  subst e
  cases v with
  | false=>exact oB ⟨w1,r,S1,hr.ext x1,s1,p1⟩
  | true=>exact oC (aE.ret p1 rfl s1)⟩⟩
theorem iF {mt:TM} (h:SW X E a mt):ST X E a mt:=⟨PW.pt h.out⟩
theorem dU {mt:TM} (ha:ST X E a mt):ST X E (.UnaryOp .Not a pos) (PD.dG mt):=⟨
 oE (zU ha.out) fun s H Q zq=>ex6 zq fun w r S hr hS hp=>⟨w,r,S,hr,hS,hp.bind hS fun k S1 w1 H1 v x1 q1 s1 p1=>by
  have e:v=k:=q1
  subst e
  exact aE.ret p1 rfl s1⟩⟩
theorem ai:SA X E [] ak:=⟨sR vJ fun s H Q zq=>ex6 zq fun w r S hr hS hp=>aE.ret hp RDs.nil hS⟩
theorem aa {es:List Expr} {ms:AM} (ha:SE X E a ma) (hrr:SA X E es ms) (hs:autoParam (starEach (a :: es) X.env=(false,eval a X.env) :: starEach es X.env) Au.h0._auto_1):SA X E (a :: es) (ab ma ms):=⟨
 sR (sN ha.out hrr.out hs) fun s H Q zq=>ex6 zq fun w r S hr hS hp=>⟨w,r,S,hr,hS,hp.bind hS fun d S1 w1 H1 v x1 q1 s1 p1=>
  ⟨w1,r,S1,hr.ext x1,s1,p1.bind s1 fun e S2 w2 H2 u x2 q2 s2 p2=>aE.ret p2 (RDs.cons (RD.ext x2 d v q1) q2) s2⟩⟩⟩
theorem iG {es:List Expr} {ms:AM} {k} (h:SA X E es ms):SE X E (.Tuple es k pos) (gz ms):=⟨
 bc (Av h.out) fun s H Q zq=>ex6 zq fun w r S hr hS hp=>⟨w,r,S,hr,hS,hp.bind hS fun ds S1 w1 H1 vs x1 q1 s1 p1=>by
  by_cases hl:ds.length≤sizeLine
  ·rw [if_pos hl] at p1
   refine ⟨by rw [q1.length]; exact hl,fun p hp=>?_⟩
   exact aE.at p1 (Ext.new hp) (by unfold RD; exact ⟨p,vs,rfl,.inl ⟨aH,s1.fresh hp⟩,RDs.ext (Ext.new hp) _ _ q1⟩) (s1.new hp)
  ·rw [if_neg hl] at p1; exact p1.elim⟩⟩
theorem gY {es:List Expr} {ms:AM} (h:SA X E es ms):SE X E (.List es pos) (gJ ms):=⟨
 bc (vK h.out) fun s H Q zq=>ex6 zq fun w r S hr hS hp=>⟨w,r,S,hr,hS,hp.bind hS fun ds S1 w1 H1 vs x1 q1 s1 p1=>by
  by_cases hl:ds.length≤sizeLine
  ·rw [if_pos hl] at p1
   refine ⟨by rw [q1.length]; exact hl,fun p hp=>?_⟩
   exact aE.at p1 (Ext.new hp) (by unfold RD; exact ⟨p,vs,rfl,⟨aH,s1.fresh hp⟩,RDs.ext (Ext.new hp) _ _ q1⟩) (s1.new hp)
  ·rw [if_neg hl] at p1; exact p1.elim⟩⟩
theorem RS.lastRef {K:PySem.W.Frag} {w:Wd} {H:Hp} {S:Sto} (s:RS K w H S) {p:Addr} {H':Hp}:RD K (w.add p) H' (.ref S.length) (.ref p):=by
 unfold RD
 exact ⟨p,rfl,by show (w.st ++ [p])[S.length]?=some p; rw [← s.len]; simp⟩
theorem kh {es:List Expr} {ms:AM} (h:SA X E es ms):SE X E (.List es pos) (eNew ms):=⟨
 bc (vK h.out) fun s H Q zq=>ex6 zq fun w r S hr hS hp=>⟨w,r,S,hr,hS,hp.bind hS fun ds S1 w1 H1 vs x1 q1 s1 p1=>by
  by_cases hl:ds.length≤sizeLine
  ·rw [if_pos hl] at p1
   refine ⟨by rw [q1.length]; exact hl,fun p hp=>?_⟩
   exact aE.at p1 (Ext.alloc hp) s1.lastRef (s1.alloc hp ⟨vs,aH,RDs.ext (Ext.alloc hp) _ _ q1⟩)
  ·rw [if_neg hl] at p1; exact p1.elim⟩⟩
def spM (K:PySem.W.Frag) (n:Nat) (f:FM):Sp:=fun vs H Q E=>vs.length=n∧∃ w S ds,RS K w H S∧RDs K w H ds vs∧aE K E (RD K) w H (f ds S) Q
variable {CX:CXT} {k n:Nat} {fa:Addr} {fd:FuncData} {ps:List Str} {f:FM} {x:Str} {p:Pos} {es:List Expr} {ms:AM}
theorem aD {id:String} {f:Sto→List D→Option D} (hc:bL X (.builtin id) (xC X.K E f)) (hg:Gl X x) (hm:X.mg x=none) (hv:bootBuiltins x=some (.builtin id)) (ha:SA X E (a :: es) ms) (hn:autoParam (x ≠ "__name__") Au.h3._auto_1) (hdb:autoParam ((x == ("__debug__":Str))=false) Au.h3._auto_1)
  (he:autoParam (starEach (a :: es) X.env=(false,eval a X.env) :: starEach es X.env) Au.h0._auto_1) (hpl:autoParam ((backTo pos (starEach es X.env)).any (·.1)=false) Au.h0._auto_1):SE X E (.Call (.Name x p) (a :: es) [] pos) (eB f ms):=⟨
 bc (pV hc hg hm hv ha.out hn hdb he hpl) fun s H Q zq=>ex6 zq fun w r S hr hS hp=>⟨w,r,S,hr,hS,hp.bind hS fun ds S1 w1 H1 vs x1 q1 s1 p1=>⟨w1,S1,ds,s1,q1,p1⟩⟩⟩
theorem i0 {T:String} {f:Sto→List D→Option D} (hc:bL X (.type T) (xC X.K E f)) (hg:Gl X x) (hm:X.mg x=none) (hv:bootBuiltins x=some (.type T)) (ha:SA X E (a :: es) ms) (hn:autoParam (x ≠ "__name__") Au.h3._auto_1) (hdb:autoParam ((x == ("__debug__":Str))=false) Au.h3._auto_1)
  (he:autoParam (starEach (a :: es) X.env=(false,eval a X.env) :: starEach es X.env) Au.h0._auto_1) (hpl:autoParam ((backTo pos (starEach es X.env)).any (·.1)=false) Au.h0._auto_1):SE X E (.Call (.Name x p) (a :: es) [] pos) (eB f ms):=⟨
 bc (nv hc hg hm hv ha.out hn hdb he hpl) fun s H Q zq=>ex6 zq fun w r S hr hS hp=>⟨w,r,S,hr,hS,hp.bind hS fun ds S1 w1 H1 vs x1 q1 s1 p1=>⟨w1,S1,ds,s1,q1,p1⟩⟩⟩
variable {st:Stmt} {rest:List Stmt} {m m':SM}
theorem bz:SSs X E [] aV:=⟨p7 xG fun D s H zq=>ex6 zq fun w r S hr hS hp=>aE.ret (b:=FV.nx s) hp ⟨s,rfl,hr⟩ hS⟩
theorem aq (h1:SS X E st m) (h2:SSs X E rest m'):SSs X E (st :: rest) (aA m m'):=⟨
 p7 (vA h1.out h2.out) fun D s H zq=>ex6 zq fun w r S hr hS hp=>⟨w,r,S,hr,hS,hp.bind hS fun f S1 w1 H1 fv x1 q1 s1 p1=>by
  cases f with
  | nx r1=>obtain ⟨s',rfl,q⟩:=q1; exact ⟨w1,r1,S1,q,s1,p1⟩
  | rt d=>obtain ⟨v,rfl,q⟩:=q1; have z:=aE.ret (Q:=FV.to D) (rel:=RF X.K) (a:=F.rt d) (b:=FV.rt v) p1 ⟨v,rfl,q⟩ s1; exact z
  | bk r1=>obtain ⟨s',rfl,q⟩:=q1; have z:=aE.ret (Q:=FV.to D) (rel:=RF X.K) (a:=F.bk r1) (b:=FV.bk s') p1 ⟨s',rfl,q⟩ s1; exact z
  | ct r1=>obtain ⟨s',rfl,q⟩:=q1; have z:=aE.ret (Q:=FV.to D) (rel:=RF X.K) (a:=F.ct r1) (b:=FV.ct s') p1 ⟨s',rfl,q⟩ s1; exact z⟩⟩
theorem ay (h1:SS X E st m):SSs X E [st] m:=⟨xH h1.out⟩
theorem jJ:SS X E st vV:=⟨fD vB fun D s H zq=>ex6 zq fun w r S hr hS hp=>hp.elim⟩
theorem br (ha:SE X E a ma) (hs:autoParam (swapsWith a none pos.line X.env=pure false) Au.h0._auto_1):SS X E (.Expr a pos) (bE ma):=⟨
 fD (xI ha.out hs) fun D s H zq=>ex6 zq fun w r S hr hS hp=>⟨w,r,S,hr,hS,hp.bind hS fun d S1 w1 H1 v x1 q1 s1 p1=>aE.ret (b:=FV.nx s) p1 ⟨s,rfl,hr.ext x1⟩ s1⟩⟩
theorem aC (ha:SE X E a ma):SS X E (.Return (some a) pos) (aO ma):=⟨
 fD (zY ha.out) fun D s H zq=>ex6 zq fun w r S hr hS hp=>⟨w,r,S,hr,hS,hp.bind hS fun d S1 w1 H1 v x1 q1 s1 p1=>aE.ret (b:=FV.rt v) p1 ⟨v,rfl,q1⟩ s1⟩⟩
theorem cw {mt:TM} {sa sb:List Stmt} (hc:ST X E c mt) (ha:SSs X E sa m) (hb:SSs X E sb m'):SS X E (.If c sa sb pos) (sIf mt m m'):=⟨
 fD (B1 hc.out ha.out hb.out) fun D s H zq=>ex6 zq fun w r S hr hS hp=>⟨w,r,S,hr,hS,hp.bind hS fun k S1 w1 H1 v x1 q1 s1 p1=>by
  have e:v=k:=q1
  subst e
  cases v with
  | true=>exact oC ⟨w1,r,S1,hr.ext x1,s1,p1⟩
  | false=>exact oB ⟨w1,r,S1,hr.ext x1,s1,p1⟩⟩⟩
theorem aN {i:Nat} {x:Str} {pos':Pos} (hN:X.N.Nodup) (hi:X.N[i]?=some x) (hx:Loc X.env.scope x) (ha:SE X E a ma) (hs:autoParam (swapsWith a (some (.Name x pos')) pos.line X.env=pure false) Au.h0._auto_1) (hf:autoParam (X.fn x=true ∨ X.env.scope.names.lookup x=some .local) Au.h7._auto_1):
  SS X E (.Assign [.Name x pos'] a pos) (aQ i ma):=⟨
 fD (Aa hN hi hx ha.out hs hf) fun D s H zq=>ex6 zq fun w r S hr hS hp=>⟨w,r,S,hr,hS,hp.bind hS fun d S1 w1 H1 v x1 q1 s1 p1=>
  aE.ret (b:=FV.nx (s.set i (some v))) p1 ⟨_,rfl,(hr.ext x1).set i q1⟩ s1⟩⟩
end
end PD
namespace PD
open PySem PySem.Spec PyProof.Rows L2
def uG (K:PySem.W.Frag) (g:G):TG:=fun v s H Q=>∃ w r d r',RSt K w H r s∧RD K w H d v∧g.put d r=some r'∧∀ s',RSt K w H r' s'→Q s' H
def uGs (K:PySem.W.Frag) (gs:List G):TGs:=fun vs s H Q=>∃ w r ds r',RSt K w H r s∧RDs K w H ds vs∧G.puts gs ds r=some r'∧∀ s',RSt K w H r' s'→Q s' H
abbrev SG (X:Cx) (e:Expr) (g:G):Prop:=Bx (PG X e (uG X.K g))
abbrev SGs (X:Cx) (es:List Expr) (gs:List G):Prop:=Bx (PGs X es (uGs X.K gs))
theorem sS {X:Cx} {e:Expr} {t t':TG} (h:PG X e t) (k:∀ v s H Q,t' v s H Q→t v s H Q):PG X e t':=fun pins s σ H v u Q I r q=>h pins s σ H v u Q I r (k v σ H Q q)
theorem p8 {X:Cx} {e:List Expr} {t t':TGs} (h:PGs X e t) (k:∀ v s H Q,t' v s H Q→t v s H Q):PGs X e t':=fun pins s σ H v u Q I r q=>h pins s σ H v u Q I r (k v σ H Q q)
theorem iH:∀ {gs:List G} {ds:List D} {r r':Rho},G.puts gs ds r=some r'→ds.length=gs.length
 | [],[],_,_,_=>rfl
 | [],_ :: _,_,_,h=>by simp [G.puts] at h
 | _ :: _,[],_,_,h=>by simp [G.puts] at h
 | g :: gs,d :: ds,r,r',h=>by
  unfold G.puts at h
  cases e:G.put g d r with
  | none=>rw [e] at h; cases h
  | some r1=>
   rw [e] at h
   have:=iH h
   simp [this]
section
variable {X:Cx} {E:XK} {a b c:Expr} {ma mb mc:EM} {pos:Pos}
theorem aJ {i:Nat} {x:Str} (hN:X.N.Nodup) (hi:X.N[i]?=some x) (hx:Loc X.env.scope x) (hf:autoParam (X.fn x=true ∨ X.env.scope.names.lookup x=some .local) Au.h7._auto_1):SG X (.Name x pos) (.nm i):=⟨
 sS (xK hN hi hx hf) fun v s H Q zq=>ex8 zq fun w r d r' hr q e k=>by
  unfold G.put at e
  cases e
  exact k _ (hr.set i q)⟩
theorem i4:SGs X [] []:=⟨
 p8 xN fun v s H Q zq=>ex8 zq fun w r ds r' hr q e k=>by
  cases ds with
  | nil=>
   unfold G.puts at e
   cases e
   exact ⟨q.nil_inv,k s hr⟩
  | cons d ds=>simp [G.puts] at e⟩
theorem cT {e:Expr} {es:List Expr} {g:G} {gs:List G} (h1:SG X e g) (h2:SGs X es gs)
  (hs:autoParam ((assignEach (e :: es) X.env).map (·.2)=assign e X.env :: (assignEach es X.env).map (·.2)) Au.h0._auto_1):SGs X (e :: es) (g :: gs):=⟨
 p8 (vD h1.out h2.out hs) fun v s H Q zq=>ex8 zq fun w r ds r' hr q e k=>by
  cases ds with
  | nil=>simp [G.puts] at e
  | cons d ds=>
   obtain ⟨v1,vs,rfl,q1,q2⟩:=q.cons_inv
   unfold G.puts at e
   cases e1:G.put g d r with
   | none=>rw [e1] at e; cases e
   | some r1=>
    rw [e1] at e
    exact ⟨v1,vs,rfl,w,r,d,r1,hr,q1,e1,fun s' hs'=>⟨w,r1,ds,r',hs',q2,e,k⟩⟩⟩
theorem cR {K:PySem.W.Frag} {w:Wd} {H:Hp} {p:Addr} {vs:List V} (h:At w H p (.tup vs) ∨ oD K p vs):SqT K H p vs:=h.elim (fun z=>SqT.of z.1) .inr
theorem ki {es:List Expr} {k:Nat} {gs:List G} (hc:X.calm=true) (h:SGs X es gs)
  (hn:autoParam ((assignEach es X.env).length=gs.length) Au.h0._auto_1) (hst:autoParam ((assignEach es X.env).findIdx? (·.1)=none) Au.h0._auto_1):SG X (.Tuple es k pos) (.tp gs):=⟨
 sS (z6 hc h.out hn hst) fun v s H Q zq=>ex8 zq fun w r d r' hr q e k=>by
  cases d with
  | tup ds=>
   unfold RD at q
   obtain ⟨p,vs,rfl,h1,q1⟩:=q
   unfold G.put at e
   exact ⟨p,vs,rfl,cR h1,by rw [q1.length]; exact iH e,w,r,ds,r',hr,q1,e,k⟩
  | _=>simp [G.put] at e⟩
theorem vZ {tg:Expr} {g:G} (ha:SE X E a ma) (hg:SG X tg g) (hs:autoParam (swapsWithSole [tg] a pos.line X.env=pure false) Au.h0._auto_1) (hw:autoParam (swappedStores [tg] a X.env=pure none) Au.h0._auto_1)
  (h1:autoParam ((assignEach [tg] X.env).map (·.2)=[assign tg X.env]) Au.h0._auto_1):SS X E (.Assign [tg] a pos) (uK g ma):=⟨
 fD (vE ha.out hg.out hs hw h1) fun D s H zq=>ex6 zq fun w r S hr hS hp=>⟨w,r,S,hr,hS,hp.bind hS fun d S1 w1 H1 v x1 q1 s1 p1=>by
  cases e:g.put d r with
  | none=>rw [e] at p1; exact p1.elim
  | some r'=>
   rw [e] at p1
   exact ⟨w1,r,d,r',hr.ext x1,q1,e,fun s' hs'=>aE.ret (b:=FV.nx s') p1 ⟨s',rfl,hs'⟩ s1⟩⟩⟩
theorem v5 {i j:Nat} {x y:Str} {ms:AM} {px py pt:Pos} {kt k2 pt2} (hc:X.calm=true) (hN:X.N.Nodup) (hi:X.N[i]?=some x) (hj:X.N[j]?=some y) (hij:i ≠ j)
  (hx:X.env.scope.names.lookup x=some .local) (hy:X.env.scope.names.lookup y=some .local) (ha:SA X E [a,b] ms)
  (hw:autoParam (swappedStores [.Tuple [.Name x px,.Name y py] kt pt] (.Tuple [a,b] k2 pt2) X.env=pure (some [x,y])) Au.h0._auto_1)
  (hs:autoParam (swapsWithSole [.Tuple [.Name x px,.Name y py] kt pt] (.Tuple [a,b] k2 pt2) pos.line X.env=pure false) Au.h0._auto_1):
  SS X E (.Assign [.Tuple [.Name x px,.Name y py] kt pt] (.Tuple [a,b] k2 pt2) pos) (vW i j ms):=⟨
 fD (Ab hc hN hi hj hij hx hy ha.out hw hs) fun D s H zq=>ex6 zq fun w r S hr hS hp=>⟨w,r,S,hr,hS,hp.bind hS fun ds S1 w1 H1 vs x1 q1 s1 p1=>by
  match ds,q1,p1 with
  | [d,e],q1,p1=>
   obtain ⟨v,u,rfl,q2,q3⟩:=q1.two_inv
   exact ⟨v,u,rfl,aE.ret (b:=FV.nx _) p1 ⟨_,rfl,((hr.ext x1).set i q2).set j q3⟩ s1⟩
  | [],_,p1=>exact p1.elim
  | [_],_,p1=>exact p1.elim
  | _ :: _ :: _ :: _,_,p1=>exact p1.elim⟩⟩
def xS (K:PySem.W.Frag) (f:Sto→D→D→D→Option Sto):xJ:=fun o i v H Q=>∃ w S x y z S',RS K w H S∧RD K w H x o∧RD K w H y i∧RD K w H z v∧f S x y z=some S'∧∀ w' H',Ext w H w' H'→RS K w' H' S'→Q H'
theorem v7 {f:Sto→D→D→D→Option Sto} {tpos:Pos} (hf:oj X (xS X.K f)) (ha:SE X E a ma) (ho:SE X E b mb) (hi:SE X E c mc) (hs:autoParam (swapsWithSole [.Subscript b c tpos] a pos.line X.env=pure false) Au.h0._auto_1) (hw:autoParam (swappedStores [.Subscript b c tpos] a X.env=pure none) Au.h0._auto_1)
  (h1:autoParam ((assignEach [.Subscript b c tpos] X.env).map (·.2)=[assign (.Subscript b c tpos) X.env]) Au.h0._auto_1)
  (hz:autoParam (∀ v,assign (.Subscript b c tpos) X.env v=(do
   let ov ← holding [v] (eval b X.env)
   let iv ← holding [v,ov] (eval c X.env)
   standAt tpos
   holding [v,ov,iv] (setItem ov iv v)
   release [v,ov,iv] [])) Au.h4._auto_1):SS X E (.Assign [.Subscript b c tpos] a pos) (pZ f ma mb mc):=⟨
 fD (vE ha.out (z8 ho.out hi.out hf hz) hs hw h1) fun D s H zq=>ex6 zq fun w r S hr hS hp=>⟨w,r,S,hr,hS,hp.bind hS fun d S1 w1 H1 v x1 q1 s1 p1=>
  ⟨w1,r,S1,hr.ext x1,s1,p1.bind s1 fun e S2 w2 H2 u x2 q2 s2 p2=>⟨w2,r,S2,(hr.ext x1).ext x2,s2,p2.bind s2 fun t S3 w3 H3 y x3 q3 s3 p3=>by
   cases hf:f S3 e t d with
   | none=>rw [hf] at p3; exact p3.elim
   | some S4=>
    rw [hf] at p3
    exact ⟨w3,S3,e,t,d,S4,s3,RD.ext x3 _ _ q2,q3,RD.ext x3 _ _ (RD.ext x2 _ _ q1),hf,fun w' H' x4 s4=>aE.at (b:=FV.nx s) p3 x4 ⟨s,rfl,(((hr.ext x1).ext x2).ext x3).ext x4⟩ s4⟩⟩⟩⟩⟩
def RI (K:PySem.W.Frag) (w:Wd) (H:Hp) (ds:List D) (J:It):Prop:=∀ (i:Nat) (w':Wd) (H':Hp),Ext w H w' H'→
 (i < ds.length→J.go i H'∧∀ x H'',J.yld i H' x H''→(H''=H' ∨ ∃ p o,H' p=none∧H''=upd H' p o)∧∀ S,RS K w' H' S→∃ d,ds[i]?=some d∧RD K w' H'' d x)∧(ds.length≤i→J.stop i H')
def uI (K:PySem.W.Frag) (E:XK) (m:AM):TI:=fun s H Q=>∃ w r S,RSt K w H r s∧RS K w H S∧aE K E (RI K) w H (m r S) Q
abbrev SIb (qb:Bool) (X:Cx) (E:XK) (tg iter:Expr) (m:AM):Prop:=Bx (PIb qb X tg iter (uI X.K E m))
abbrev SI (X:Cx) (E:XK) (tg iter:Expr) (m:AM):Prop:=Bx (PI X tg iter (uI X.K E m))
theorem p9 {K:PySem.W.Frag} {w:Wd} {H H':Hp} {S:Sto} (h:H'=H ∨ ∃ p o,H p=none∧H'=upd H p o) (s:RS K w H S):Ext w H w H'∧RS K w H' S:=by
 rcases h with rfl | ⟨p,o,hp,rfl⟩
 ·exact ⟨Ext.refl _ _,s⟩
 ·exact ⟨Ext.new hp,s.new hp⟩
theorem eh {tg iter:Expr} {body:List Stmt} {it:AM} {g:G} {m:SM} (hp:PassesOwn (model X.prog X.w) X.A X.env X.xe) (hc:X.calm=true) (hi:SI X E tg iter it) (hg:SG X tg g) (hb:SSs X E body m)
  (hs:autoParam (∀ x,foldedSetIterable iter X.env x=pure x) Au.h4._auto_1):SS X E (.For tg iter body [] pos) (fJ it g m):=⟨
 fD (Af hp hc hi.out hg.out hb.out hs) fun D s H zq=>ex6 zq fun w r S hr hS hp=>⟨w,r,S,hr,hS,hp.bind hS fun ds S1 w1 H1 J x1 q1 s1 p1=>by
  refine ⟨fun i n s' H'=>n=ds.length - i∧i≤ds.length∧∃ w' r' S',Ext w1 H1 w' H'∧RSt X.K w' H' r' s'∧RS X.K w' H' S'∧aE X.K E (RF X.K) w' H' (forL g m (ds.drop i) r' S') (FV.to D),
   ⟨ds.length,by simp,Nat.zero_le _,w1,r,S1,Ext.refl _ _,hr.ext x1,s1,p1⟩,?_⟩
  rintro i n s2 H2 ⟨rfl,hi.out,w2,r2,S2,x2,hr2,hS2,hp2⟩
  by_cases hlt:i < ds.length
  ·obtain ⟨go,yld⟩:=(q1 i w2 H2 x2).1 hlt
   refine .inr ⟨go,fun s' H'=>∃ w' r' S',Ext w1 H1 w' H'∧RSt X.K w' H' r' s'∧RS X.K w' H' S'∧aE X.K E (RF X.K) w' H' (forL g m (ds.drop (i + 1)) r' S') (FV.to D),
    fun s' H' hN=>⟨ds.length - (i + 1),by omega,rfl,hlt,hN⟩,fun x H3 hy=>?_⟩
   obtain ⟨gr,rd⟩:=yld x H3 hy
   obtain ⟨d,ed,qd⟩:=rd S2 hS2
   obtain ⟨x3,s3⟩:=p9 gr hS2
   have x13:Ext w1 H1 w2 H3:=x2.trans' x3 s1 hS2
   have hdrop:ds.drop i=d :: ds.drop (i + 1):=by
    rw [List.drop_eq_getElem_cons hlt]
    rw [List.getElem?_eq_getElem hlt] at ed
    cases ed; rfl
   rw [hdrop] at hp2
   have hp3:=aE.ext hp2 x3 hS2 s3
   unfold forL at hp3
   cases e:g.put d r2 with
   | none=>rw [e] at hp3; exact hp3.elim
   | some r3=>
    rw [e] at hp3
    refine ⟨w2,r2,d,r3,hr2.ext x3,qd,e,fun s4 hr4=>⟨w2,r3,S2,hr4,s3,?_⟩⟩
    refine aE.bind (rel:=RF X.K) hp3 s3 fun f S5 w5 H5 fv x5 q5 s5 p5=>?_
    cases f with
    | nx r6=>obtain ⟨s6,rfl,q6⟩:=q5; exact ⟨w5,r6,S5,x13.trans' x5 s1 s3,q6,s5,p5⟩
    | ct r6=>obtain ⟨s6,rfl,q6⟩:=q5; exact ⟨w5,r6,S5,x13.trans' x5 s1 s3,q6,s5,p5⟩
    | bk r6=>obtain ⟨s6,rfl,q6⟩:=q5; have z:=aE.ret (Q:=FV.to D) (rel:=RF X.K) (a:=F.nx r6) (b:=FV.nx s6) p5 ⟨s6,rfl,q6⟩ s5; exact z
    | rt d6=>obtain ⟨v6,rfl,q6⟩:=q5; have z:=aE.ret (Q:=FV.to D) (rel:=RF X.K) (a:=F.rt d6) (b:=FV.rt v6) p5 ⟨v6,rfl,q6⟩ s5; exact z
  ·have e:i=ds.length:=by omega
   subst e
   rw [List.drop_length] at hp2
   exact .inl ⟨(q1 _ w2 H2 x2).2 (Nat.le_refl _),aE.ret (b:=FV.nx s2) hp2 ⟨s2,rfl,hr2⟩ hS2⟩⟩⟩
def cz (m:EM) (f:Sto→D→Option (List D)):AM:=fun r S=>(m r S).bind fun d S1=>R.of S1 (f S1 d)
def CB:Sto→D→Option (List D)
 | _,.tup ds=>some ds
 | _,_=>none
def CC:Sto→D→Option (List D)
 | _,.lst ds=>some ds
 | _,.fz ds=>some ds
 | _,_=>none
def dH (t:AM):AM:=fun r S=>(t r S).bind fun xs S1=>match xs with
 | [.int n]=>if n < 2 ^ 62∧-(2 ^ 62)≤n then .ok ((List.range n.toNat).map fun (i:Nat)=>D.int i) S1 else .bad
 | _=>.bad
theorem eW {qb:Bool} {X:Cx} {tg e:Expr} {t t':TI} (h:PIb qb X tg e t) (k:∀ s H Q,t' s H Q→t s H Q):PIb qb X tg e t':=fun pins s σ H Q I q=>h pins s σ H Q I (k σ H Q q)
theorem AN {tg:Expr} (ha:SE X E a ma):SI X E tg a (cz ma CB):=⟨
 eW (Ae ha.out) fun s H Q zq=>ex6 zq fun w r S hr hS hp=>⟨w,r,S,hr,hS,hp.bind hS fun d S1 w1 H1 v x1 q1 s1 p1=>by
  cases d with
  | tup ds=>
   unfold RD at q1
   obtain ⟨p,vs,rfl,h1,q⟩:=q1
   refine ⟨p,rfl,⟨vs,cR h1⟩,aE.ret p1 ?_ s1⟩
   intro i w' H' x'
   have h1':At w' H' p (.tup vs) ∨ oD X.K p vs:=h1.imp x'.at id
   have q':=RDs.ext x' _ _ q
   refine ⟨fun hi=>⟨⟨vs,vs[i]'(by rw [q.length]; exact hi),cR h1',List.getElem?_eq_getElem _⟩,fun x H'' y=>?_⟩,fun hi=>⟨vs,cR h1',by rw [q.length]; exact hi⟩⟩
   obtain ⟨rfl,y⟩:=y
   refine ⟨.inl rfl,fun S _=>⟨ds[i],List.getElem?_eq_getElem hi,?_⟩⟩
   obtain ⟨v,e,rv⟩:=q'.get (List.getElem?_eq_getElem hi)
   rw [y vs (cR h1')] at e
   cases e
   exact rv
  | _=>exact p1.elim⟩⟩
theorem AO {tg:Expr} (ha:SE X E a ma):SI X E tg a (cz ma CC):=⟨
 eW (xP ha.out) fun s H Q zq=>ex6 zq fun w r S hr hS hp=>⟨w,r,S,hr,hS,hp.bind hS fun d S1 w1 H1 v x1 q1 s1 p1=>by
  have main:∀ (ds:List D) (p:Addr) (vs:List V),RDs X.K w1 H1 ds vs→(∀ w' H',Ext w1 H1 w' H'→SqL X.K H' p vs)→RI X.K w1 H1 ds (Itl X.K p):=by
   intro ds p vs q sq i w' H' x'
   have q':=RDs.ext x' _ _ q
   refine ⟨fun hi=>⟨⟨vs,vs[i]'(by rw [q.length]; exact hi),sq _ _ x',List.getElem?_eq_getElem _⟩,fun x H'' y=>?_⟩,fun hi=>⟨vs,sq _ _ x',by rw [q.length]; exact hi⟩⟩
   obtain ⟨rfl,y⟩:=y
   refine ⟨.inl rfl,fun S _=>⟨ds[i],List.getElem?_eq_getElem hi,?_⟩⟩
   obtain ⟨v,e,rv⟩:=q'.get (List.getElem?_eq_getElem hi)
   rw [y vs (sq _ _ x')] at e
   cases e
   exact rv
  cases d with
  | lst ds=>
   unfold RD at q1
   obtain ⟨p,vs,rfl,h1,q⟩:=q1
   exact ⟨p,rfl,⟨vs,SqL.of h1.1⟩,aE.ret p1 (main ds p vs q fun w' H' x'=>SqL.of (x'.at h1).1) s1⟩
  | fz ds=>
   unfold RD at q1
   obtain ⟨p,vs,rfl,h1,q⟩:=q1
   exact ⟨p,rfl,⟨vs,h1.sq⟩,aE.ret p1 (main ds p vs q fun w' H' x'=>rM.sq (w:=w') (h1.imp (fun ⟨o,z⟩=>⟨o,x'.at z⟩) id)) s1⟩
  | _=>exact p1.elim⟩⟩
def bJ:Sto→D→Option (List D)
 | _,.tup ds=>some ds
 | _,.lst ds=>some ds
 | _,.fz ds=>some ds
 | _,_=>none
theorem CD {tg e:Expr} {t u:TI} (h1:PI X tg e t) (h2:PI X tg e u):PI X tg e (fun s H Q=>t s H Q ∨ u s H Q):=fun pins s σ H Q I q=>q.elim (h1 pins s σ H Q I) (h2 pins s σ H Q I)
theorem dW {tg:Expr} (ha:SE X E a ma):SI X E tg a (cz ma bJ):=⟨
 eW (CD (AN ha).out (AO ha).out) fun s H Q zq=>ex6 zq fun w r S hr hS hp=>by
  unfold cz at hp
  cases e:ma r S with
  | bad=>rw [e] at hp; exact hp.elim
  | err y S'=>rw [e] at hp; exact .inl ⟨w,r,S,hr,hS,by unfold cz; rw [e]; exact hp⟩
  | ok d S'=>
   rw [e] at hp
   cases d with
   | tup ds=>exact .inl ⟨w,r,S,hr,hS,by unfold cz; rw [e]; exact hp⟩
   | lst ds=>exact .inr ⟨w,r,S,hr,hS,by unfold cz; rw [e]; exact hp⟩
   | fz ds=>exact .inr ⟨w,r,S,hr,hS,by unfold cz; rw [e]; exact hp⟩
   | _=>exact hp.elim⟩
theorem gK {qb:Bool} {tg:Expr} {ms:AM} {p:Pos} (hg:Gl X "range") (hm:X.mg "range" = none) (ha:SA X E [a] ms) (hs:autoParam (starEach [a] X.env=[(false,eval a X.env)]) Au.h0._auto_1):SIb qb X E tg (.Call (.Name "range" p) [a] [] pos) (dH ms):=⟨
 eW (um hg hm ha.out hs) fun s H Q zq=>ex6 zq fun w r S hr hS hp=>⟨w,r,S,hr,hS,hp.bind hS fun ds S1 w1 H1 vs x1 q1 s1 p1=>by
  rcases ds with _ | ⟨d,_ | ⟨d',ds⟩⟩
  ·exact p1.elim
  ·cases d with
   | int n=>
    obtain ⟨v,rfl,q2⟩:=q1.one_inv
    unfold RD at q2
    subst q2
    by_cases hn:n < 2 ^ 62∧-(2 ^ 62)≤n
    ·have p2:aE X.K E (RI X.K) w1 H1 (if n < 2 ^ 62∧-(2 ^ 62)≤n then R.ok ((List.range n.toNat).map fun (i:Nat)=>D.int i) S1 else R.bad) Q:=p1
     rw [if_pos hn] at p2
     refine ⟨n,rfl,hn.2,hn.1,aE.ret p2 ?_ s1⟩
     intro i w' H' x'
     refine ⟨fun hi=>⟨show i < n.toNat by simpa using hi,fun x H'' y=>?_⟩,fun hi=>show n.toNat≤i by simpa using hi⟩
     obtain ⟨rfl,rfl⟩:=y
     refine ⟨.inl rfl,fun S _=>⟨.int i,?_,?_⟩⟩
     ·have:i < n.toNat:=by simpa using hi
      simp [this]
     ·unfold RD; simp
    ·have p2:aE X.K E (RI X.K) w1 H1 (if n < 2 ^ 62∧-(2 ^ 62)≤n then R.ok ((List.range n.toNat).map fun (i:Nat)=>D.int i) S1 else R.bad) Q:=p1
     rw [if_neg hn] at p2
     exact p2.elim
   | _=>exact p1.elim
  ·cases d <;> exact p1.elim⟩⟩
end
section
variable {P:Program} {w:World} {K:PySem.W.Frag} {mg:Str→Option Value} {base:Heap}
theorem uM {K:PySem.W.Frag} {w:Wd} {H:Hp} {N:List Str} {ds:List D} {vs:List V} (q:RDs K w H ds vs):RSt K w H (ds.map some ++ List.replicate (N.length - ds.length) none) (L2.start N vs):=by
 unfold L2.start
 refine ⟨by simp [q.length],fun i d e=>?_⟩
 by_cases hi:i < ds.length
 ·rw [List.getElem?_append_left (by simpa using hi),List.getElem?_map] at e
  rw [List.getElem?_append_left (by rw [List.length_map,q.length]; exact hi),List.getElem?_map]
  cases e1:ds[i]? with
  | none=>rw [e1] at e; cases e
  | some d'=>
   rw [e1] at e; cases e
   obtain ⟨v,ev,rv⟩:=q.get e1
   exact ⟨v,by rw [ev]; rfl,rv⟩
 ·rw [List.getElem?_append_right (by simpa using hi),List.getElem?_replicate] at e
  split at e <;> cases e
end
end PD
namespace PD
open PySem PySem.Spec PyProof.Rows L2
section
variable {prog:Program} {w:World} {A:Around} {R:Result→Shared→Prop} {s:Shared}
theorem oF {elt target iter:Expr} {ifs:List Expr} {scope:Scope} {pos:Pos} {it acc:Value} {env:Env} (I:Nat→Shared→Prop)
  (turn:∀ n s,I n s→wpAny (model prog w) A (pyNext it) (fun r s1=>match r with
   | none=>R (.ok .next) s1
   | some v=>wpAny (model prog w) A (letOwnedTupleGo target it v) (fun _ s1'=>wpAny (model prog w) A (assign target env v) (fun _ s2=>
     wpAny (model prog w) A (forIn ifs true fun c r=>if r=true then do let ok ← isTrue c env (eval c env); pure (ForInStep.yield ok) else pure (ForInStep.yield r)) (fun ok s3=>
      if ok=true then wpAny (model prog w) A (eval elt env) (fun x s4=>
       wpAny (model prog w) A (call (.builtin "list.append") [acc,x]) (fun _ s5=>∃ m,m < n∧I m s5) (fun _ _=>False) s4) (fun _ _=>False) s3
      else ∃ m,m < n∧I m s3) (fun _ _=>False) s2) (fun _ _=>False) s1') (fun _ _=>False) s1) (fun _ _=>False) s)
  (n:Nat) (h:I n s):
  codeAny (model prog w) A (.compLoop (.ListComp elt [⟨target,iter,ifs,0⟩] scope pos) 0 it acc env) R s:=by
 refine codeAny_loop rfl I (fun n s hI=>?_) n h
 show wpAny _ A ((compTurn (.ListComp elt [⟨target,iter,ifs,0⟩] scope pos) 0 it acc env).onRaise (fun x=>do noteFrame x env; theTreesLotGoes x)) _ _ s
 refine wpAny_noted ?_
 rw [compTurn_list]
 refine wpAny_bind (wpAny_standAt (wpAny_bind (wpAny_mono (turn n s hI) (fun r s1 h1=>?_) fun _ _ h'=>h'.elim)))
 cases r with
 | none=>exact wpAny_pure h1
 | some v=>
  refine wpAny_bind (wpAny_mono h1 (fun _ s1' h1'=>?_) fun _ _ h'=>h'.elim)
  refine wpAny_bind (wpAny_mono h1' (fun _ s2 h2=>wpAny_bind (wpAny_mono h2 (fun ok s3 h3=>?_) fun _ _ h'=>h'.elim)) fun _ _ h'=>h'.elim)
  cases ok with
  | false=>exact wpAny_pure ⟨rfl,h3⟩
  | true=>
   exact wpAny_bind (wpAny_bind (wpAny_mono h3 (fun x s4 h4=>wpAny_bind (wpAny_mono h4 (fun _ s5 h5=>wpAny_pure (wpAny_pure ⟨rfl,h5⟩)) fun _ _ h'=>h'.elim)) fun _ _ h'=>h'.elim))
end
def yh (X:Cx) (ifs:List Expr) (t:TT):Prop:=
 ∀ (pins:List (Addr × Obj)) (s:Shared) (σ:L2.St) (H:Hp) (Q:Bool→Hp→Prop),Inv X pins σ H s→t σ H Q→
  wpAny (model X.prog X.w) X.A (forIn ifs true fun c r=>if r=true then do let ok ← isTrue c X.env (eval c X.env); pure (ForInStep.yield ok) else pure (ForInStep.yield r)) (TP X pins σ Q) X.xe s
theorem v8 {X:Cx}:yh X [] (fun _ H Q=>Q true H):=fun pins s σ H Q I h=>wpAny_tests_nil ⟨H,I,h⟩
theorem v9 {X:Cx} {c:Expr} {t:TT} (h:PT X c t):yh X [c] t:=fun pins s σ H Q I q=>wpAny_tests_one (h pins s σ H Q I q)
def cxC (X:Cx) (N:List Str) (scope:Scope) (cl:List (Str × Addr)) (s0:Shared) (H0:Hp) (ex:List Addr):Cx:=
 { X with N:=N,s₀:=s0,H₀:=H0,env:=compEnvC scope cl s0.heap.objs.size X.env,outer:=X.stack,ex:=ex,fn:=fun _=>false }
def lI (k:Nat) (caps:List Nat) (s:L2.St):L2.St:=List.replicate k none ++ caps.map fun i=>(s[i]?).join
structure CompScope (X:Cx) (N:List Str) (k:Nat) (caps:List Nat) (scope:Scope):Prop where
 kind:scope.kind=.function
 nocell:∀ x ∈ scope.names,x.2 ≠ .cell
 names:∀ x ∈ scope.names,x.2=.local→scope.names.lookup x.1=some .local
 free:∀ x ∈ scope.names,x.2=.free→X.env.kindOf x.1=some .cell ∨ X.env.kindOf x.1=some .free
 len:N.length=k + caps.length
 cap:∀ t i,caps[t]?=some i→∃ x,X.N[i]?=some x∧N[k + t]?=some x∧scope.names.lookup x=some .free
theorem eX {A B:Type} [BEq A] [LawfulBEq A]:∀ {l:List (A × B)} {x:A} {b:B},l.lookup x=some b→(x,b) ∈ l
 | [],_,_,h=>by simp at h
 | (y,c) :: r,x,b,h=>by
  rw [List.lookup_cons] at h
  cases e:x == y with
  | true=>
   rw [e] at h
   have:=eq_of_beq e
   subst this
   cases h
   exact List.mem_cons_self
  | false=>
   rw [e] at h
   exact List.mem_cons_of_mem _ (eX h)
theorem ju {env:Env}:∀ (names:List (Str × NameKind)) (cs:List (Str × Addr)),(∀ x ∈ names,x.2=.free→∃ c,env.cells.lookup x.1=some c)→
  ∃ cl,(forIn names cs fun (x:Str × NameKind) (r:List (Str × Addr))=>(if x.2 == NameKind.free then do let a ← cellOf env x.1; pure (ForInStep.yield ((x.1,a) :: r)) else pure (ForInStep.yield r):Sem (ForInStep (List (Str × Addr)))))=pure cl∧
   (∀ p ∈ cl,p ∈ cs ∨ env.cells.lookup p.1=some p.2)∧(∀ p ∈ cs,p ∈ cl)∧∀ x ∈ names,x.2=.free→∃ c,(x.1,c) ∈ cl
 | [],cs,_=>⟨cs,rfl,fun p h=>.inl h,fun p h=>h,fun x h=>nomatch h⟩
 | (n,k) :: r,cs,h=>by
  by_cases hk:k=.free
  ·subst hk
   obtain ⟨c,hc⟩:=h (n,.free) List.mem_cons_self rfl
   obtain ⟨cl,e,h1,h2,h3⟩:=ju r ((n,c) :: cs) fun x hx=>h x (List.mem_cons_of_mem _ hx)
   refine ⟨cl,?_,fun p hp=>?_,fun p hp=>h2 p (List.mem_cons_of_mem _ hp),fun x hx hf=>?_⟩
   ·rw [List.forIn_cons]
    have hco:cellOf env n=pure c:=by unfold cellOf; rw [hc]
    simp only [beq_self_eq_true,if_true,hco,pure_bind]
    exact e
   ·rcases h1 p hp with z | z
    ·rcases List.mem_cons.mp z with z | z
     ·subst z; exact .inr hc
     ·exact .inl z
    ·exact .inr z
   ·rcases List.mem_cons.mp hx with z | z
    ·subst z; exact ⟨c,h2 _ List.mem_cons_self⟩
    ·exact h3 x z hf
  ·obtain ⟨cl,e,h1,h2,h3⟩:=ju r cs fun x hx=>h x (List.mem_cons_of_mem _ hx)
   have hb:(k == NameKind.free)=false:=by simpa using hk
   refine ⟨cl,?_,h1,h2,fun x hx hf=>?_⟩
   ·rw [List.forIn_cons]
    simp only [hb,Bool.false_eq_true,if_false,pure_bind]
    exact e
   ·rcases List.mem_cons.mp hx with z | z
    ·subst z; exact absurd hf hk
    ·exact h3 x z hf
theorem qa {scope:Scope} {env:Env} (h:∀ x ∈ scope.names,x.2=.free→∃ c,env.cells.lookup x.1=some c):
  ∃ cl,closureFor scope env=pure cl∧(∀ x c,cl.lookup x=some c→env.cells.lookup x=some c)∧∀ x ∈ scope.names,x.2=.free→∃ c,cl.lookup x.1=some c:=by
 obtain ⟨cl,e,h1,h2,h3⟩:=ju (env:=env) scope.names [] h
 refine ⟨cl,?_,fun x c hx=>?_,fun x hx hf=>?_⟩
 ·unfold closureFor
  show ((forIn scope.names [] fun (x:Str × NameKind) (r:List (Str × Addr))=>(if x.2 == NameKind.free then do let a ← cellOf env x.1; pure (ForInStep.yield ((x.1,a) :: r)) else pure (ForInStep.yield r):Sem (ForInStep (List (Str × Addr))))) >>= fun l=>pure l)=pure cl
  rw [e,pure_bind]
 ·rcases h1 _ (eX hx) with z | z
  ·exact nomatch z
  ·exact z
 ·obtain ⟨c,hc⟩:=h3 x hx hf
  cases e2:cl.lookup x.1 with
  | some c'=>exact ⟨c',rfl⟩
  | none=>
   rw [List.lookup_eq_none_iff] at e2
   have:=e2 _ hc
   simp at this
theorem qc {scope:Scope} {env:Env} {x:Str} {k:NameKind} (h:(relabel scope env).names.lookup x=some k):(x,k) ∈ scope.names ∨ (k=.cell∧(x,NameKind.free) ∈ scope.names):=by
 have m:=eX h
 obtain ⟨⟨n,j⟩,hn,e⟩:=List.mem_map.mp m
 dsimp only at e
 split at e
 ·rename_i hc
  cases e
  have:j=NameKind.free:=by
   have:=(Bool.and_eq_true _ _ |>.mp (Bool.and_eq_true _ _ |>.mp hc).1).1
   simpa using this
  subst this
  exact .inr ⟨rfl,hn⟩
 ·cases e
  exact .inl hn
theorem jK {scope:Scope} {env:Env} {x:Str}:∀ {names:List (Str × NameKind)},names.lookup x=some .free→
  ((names.map fun (n,k)=>if (k == NameKind.free && env.scope.kind == .function && env.kindOf n == some .cell) then (n,NameKind.cell) else (n,k)).lookup x=some .cell) ∨
  ((names.map fun (n,k)=>if (k == NameKind.free && env.scope.kind == .function && env.kindOf n == some .cell) then (n,NameKind.cell) else (n,k)).lookup x=some .free)
 | [],h=>by simp at h
 | (n,k) :: r,h=>by
  have ih:=@jK scope env x r
  simp only [List.map_cons]
  cases hx:x == n with
  | true=>
   simp only [List.lookup_cons,hx] at h
   cases h
   by_cases hc:(NameKind.free == NameKind.free && env.scope.kind == .function && env.kindOf n == some .cell)=true
   ·left; rw [if_pos hc]; simp [List.lookup_cons,hx]
   ·right; rw [if_neg hc]; simp [List.lookup_cons,hx]
  | false=>
   simp only [List.lookup_cons,hx] at h
   by_cases hc:(k == NameKind.free && env.scope.kind == .function && env.kindOf n == some .cell)=true
   ·rw [if_pos hc]; simp only [List.lookup_cons,hx]; exact ih h
   ·rw [if_neg hc]; simp only [List.lookup_cons,hx]; exact ih h
section
variable {X:Cx} {pins:List (Addr × Obj)} {σ:L2.St} {H:Hp} {s:Shared}
theorem rN {N:List Str} {k:Nat} {caps:List Nat} {scope:Scope} {cl:List (Str × Addr)} {fp:List Addr} {h':Heap} {m:Str→Option Value} {t:Nat} (I:Inv X pins σ H s) (C:CompScope X N k caps scope)
  (hcl:∀ x c,cl.lookup x=some c→X.env.cells.lookup x=some c) (hcf:∀ x ∈ scope.names,x.2=.free→∃ c,cl.lookup x.1=some c)
  (hfp:∀ b ∈ fp,FpOk X pins H b∧b < s.heap.objs.size) (hn:h'.Ns s.heap.objs.size m) (hk:∀ b o,s.heap.get? b=some o→h'.get? b=some o):
  Inv (cxC X N scope cl s H fp) pins (lI k caps σ) H { s with heap:=h',toks:=t }:=by
 have hfs:∀ b,b ∈ frs X.stack→b < s.heap.objs.size:=fun b hb=>by
  obtain ⟨_,o,ho,_⟩:=I.stack.mem hb
  exact Heap.lt_size ho
 refine ⟨⟨I.ok.mod,C.kind,I.ok.glob,I.ok.blt,Nat.le_refl _,fun x y c h1 h2=>I.ok.inj x y c (hcl x c h1) (hcl y c h2),fun x hx=>?_,(fun x c h=>nomatch h),I.ok.hd,I.ok.frames,.inl rfl,fun b hb=>?_,fun b o e=>?_,?_,fun b o e hb=>?_,fun b hb=>?_,I.stack,fun b hb=>I.stkFree b hb⟩,
  rfl,I.bare,Un.kept hk,?_,fun x c e=>?_,I.hok.fresh (Nat.le_refl _),fun x c e=>I.freeC x c (hcl x c e),fun p hp=>?_,I.hok.kept hk,?_⟩
 ·-- has
  have key:∀ kk,(kk=NameKind.cell ∨ kk=NameKind.free)→(relabel scope X.env).names.lookup x=some kk→∃ c,cl.lookup x=some c:=fun kk hkk hl=>by
   rcases qc hl with z | ⟨_,z⟩
   ·rcases hkk with q | q
    ·subst q; exact absurd rfl (C.nocell _ z)
    ·subst q; exact hcf _ z rfl
   ·exact hcf _ z rfl
  rcases hx with z | z
  ·exact key _ (.inl rfl) z
  ·exact key _ (.inr rfl) z
 ·obtain ⟨f,lt⟩:=hfp b hb
  exact ⟨Nat.ne_of_lt lt,fun x c e=>f.2.2.2.2.1 x c (hcl x c e)⟩
 ·exact I.bs b o e
 ·exact Nat.le_trans I.ok.bsz I.sz
 ·obtain ⟨f,lt⟩:=hfp b hb
  rcases f.2.2.2.1 with z | z
  ·exact I.ok.noex b o e z
  ·exact absurd (Nat.lt_of_lt_of_le (Heap.lt_size e) (Nat.le_trans I.ok.bsz z)) (Nat.lt_irrefl _)
 ·obtain ⟨f,lt⟩:=hfp b hb
  intro z
  rcases List.mem_cons.mp (I.stkSub b z) with q | q
  ·exact f.2.1 q
  ·exact f.2.2.1 q
 ·obtain ⟨m0,hn0,hl0⟩:=I.loc
  refine ⟨m,hn,fun i x v e1 e2 e3=>?_⟩
  unfold lI at e2
  by_cases hi:i < k
  ·rw [List.getElem?_append_left (by simpa using hi),List.getElem?_replicate] at e2
   split at e2 <;> cases e2
  ·rw [List.getElem?_append_right (by simpa using hi),List.getElem?_map,List.length_replicate] at e2
   cases ec:caps[i - k]? with
   | none=>rw [ec] at e2; cases e2
   | some j=>
    rw [ec] at e2
    have e2':(σ[j]?).join=some v:=Option.some.inj e2
    obtain ⟨y,hy1,hy2,hy3⟩:=C.cap _ _ ec
    have e1':N[i]?=some x:=e1
    rw [show k + (i - k)=i by omega] at hy2
    rw [hy2] at e1'
    have exy:y=x:=Option.some.inj e1'
    subst exy
    have hfr:(y,NameKind.free) ∈ scope.names:=eX hy3
    have hsj:σ[j]?=some (some v):=by
     cases q:σ[j]? with
     | none=>rw [q] at e2'; cases e2'
     | some o=>rw [q] at e2'; rw [show o=some v from e2']
    have kinds:=C.free _ hfr rfl
    have hvis:Vis X.env.scope y:=by
     rcases kinds with z | z
     ·exact .inr (.inl z)
     ·exact .inr (.inr z)
    obtain ⟨u,ru,lk⟩:=hl0 j y v hy1 hsj hvis
    refine ⟨u,ru,?_⟩
    rcases lk with ⟨z,_⟩ | ⟨_,c,hc,hcell⟩
    ·rcases kinds with q | q <;> (rw [q] at z; cases z)
    ·obtain ⟨c',hc'⟩:=hcf _ hfr rfl
     have:=hcl _ _ hc'
     rw [hc] at this
     cases this
     refine .inr ⟨?_,c,hc',hcell.keeps hk⟩
     exact jK (scope:=scope) (env:=X.env) hy3
 ·obtain ⟨v,z⟩:=I.cell x c (hcl x c e)
  exact ⟨v,z.keeps hk⟩
 ·obtain ⟨e,n,ne,nf,d⟩:=I.pin p hp
  refine ⟨hk _ _ e,n,Nat.ne_of_lt (Heap.lt_size e),fun z=>?_,d⟩
  rcases List.mem_cons.mp (I.stkSub _ z) with q | q
  ·exact ne q
  ·exact nf q
 ·unfold lI
  show _=N.length
  rw [C.len]
  simp
end
def CF (wi:TI) (k:Nat) (caps:List Nat) (g:TG) (tt:TT) (te:TE):TE:=fun σ H Q=>wi σ H fun J H1=>∀ p,H1 p=none→∃ W:Nat→Nat→L2.St→Hp→Prop,(∃ m,W 0 m (lI k caps σ) (upd H1 p (.lst [])))∧∀ i m σ' H',W i m σ' H'→
 (J.stop i H'∧Q (.ref p) H') ∨ (J.go i H'∧∃ N:L2.St→Hp→Prop,(∀ σ2 H2,N σ2 H2→∃ m',m' < m∧W (i + 1) m' σ2 H2)∧
  ∀ x H3,J.yld i H' x H3→g x σ' H3 fun σ4 H4=>tt σ4 H4 fun b H5=>if b=true then te σ4 H5 fun y H6=>∃ ys,H6 p=some (.lst ys)∧ys.length < sizeLine∧N σ4 (upd H6 p (.lst (ys ++ [y]))) else N σ4 H5)
theorem wa {qb:Bool} {X:Cx} {elt tg iter:Expr} {ifs:List Expr} {scope:Scope} {pos:Pos} {N:List Str} {k:Nat} {caps:List Nat} {wi:TI} {g:TG} {tt:TT} {te:TE} (hX:Cd qb X) (hxe:∀ e s,¬ X.xe e s) (C:CompScope X N k caps scope)
  (hi:PIb qb X tg iter wi) (hg:∀ cl s0 H0 ex,Cd qb (cxC X N scope cl s0 H0 ex)→PG (cxC X N scope cl s0 H0 ex) tg g) (ht:∀ cl s0 H0 ex,Cd qb (cxC X N scope cl s0 H0 ex)→yh (cxC X N scope cl s0 H0 ex) ifs tt) (he:∀ cl s0 H0 ex,Cd qb (cxC X N scope cl s0 H0 ex)→PE (cxC X N scope cl s0 H0 ex) elt te)
  (hs:autoParam (∀ x,foldedSetIterable iter X.env x=pure x) Au.h4._auto_1):PE X (.ListComp elt [⟨tg,iter,ifs,0⟩] scope pos) (CF wi k caps g tt te):=by
 intro pins s σ H Q I h
 have noX:∀ {α:Type} {t:Sem α} {Q':α→Shared→Prop} {s':Shared},wpAny (model X.prog X.w) X.A t Q' X.xe s'→wpAny (model X.prog X.w) X.A t Q' (fun _ _=>False) s':=fun h=>wpAny_mono h (fun _ _ x=>x) fun e s z=>hxe e s z
 obtain ⟨cl,hclos,hcl,hcf⟩:=qa (scope:=scope) (env:=X.env) fun x hx hf=>I.ok.has _ (C.free x hx hf)
 rw [eval_ListComp]
 refine wpAny_comprehension_free (use:=none) (cl:=cl) rfl hs hclos C.kind C.names ?_
 refine thn (hi pins s σ H _ I h) fun v s1 h1=>thn h1 fun itv s2 h2=>?_
 obtain ⟨it,fp,tn,J,H2,e,I2,T,st2,f2,q⟩:=h2
 subst e
 refine wpAny_newList (items:=[]) ?_ (by show 0≤sizeLine; exact Nat.zero_le _)
 have hp:H2 s2.heap.objs.size=none:=I2.hok.fresh (Nat.le_refl _)
 obtain ⟨W,⟨m0,w0⟩,turn⟩:=q _ hp
 have I3:Inv X pins σ (upd H2 s2.heap.objs.size (.lst [])) { s2 with heap:=s2.heap.push { cls:=.type "list",data:=.seq ([]:List Value).toArray } }:=
  I2.laid (t':=s2.toks) (fun b u e=>Heap.get?_push_of_some _ e) (Nat.le_refl _) ⟨Nat.zero_le _,[],0,.nil,Heap.get?_push_size _ rfl⟩
 refine wpAny_newFunctionEnv C.nocell (fun x hx=>nomatch hx) (fun h4 hn4 hs4=>?_) C.kind
 have ltfp:∀ b ∈ fp,b < s2.heap.objs.size:=fun b hb=>by
  obtain ⟨o,ho,_⟩:=T.obj _ _ st2 b hb
  exact Heap.lt_size ho
 have hk4:∀ b o,(s2.heap.push { cls:=.type "list",data:=.seq ([]:List Value).toArray }).get? b=some o→h4.get? b=some o:=fun b o e=>by
  have ne:b ≠ (s2.heap.push { cls:=.type "list",data:=.seq ([]:List Value).toArray }).objs.size:=Nat.ne_of_lt (Heap.lt_size e)
  rw [hs4.2 b ne]
  exact Heap.get?_push_of_some _ e
 have f3:∀ b ∈ fp,FpOk X pins (upd H2 s2.heap.objs.size (.lst [])) b:=fun b hb=>by
  obtain ⟨a1,a2⟩:=f2 b hb
  exact ⟨by rw [aB (Nat.ne_of_lt (ltfp b hb))]; exact a1,a2⟩
 have I4:=rN (N:=N) (k:=k) (caps:=caps) (scope:=scope) (cl:=cl) (fp:=fp) (t:=s2.toks + 0) I3 C hcl hcf (fun b hb=>⟨f3 b hb,by rw [show ({ s2 with heap:=s2.heap.push { cls:=.type "list",data:=.seq ([]:List Value).toArray } }:Shared).heap.objs.size=s2.heap.objs.size + 1 from Heap.size_push ..]; exact Nat.lt_succ_of_lt (ltfp b hb)⟩) hn4 hk4
 have tn4:tn 0 h4:=T.keep _ _ _ st2 fun b hb o e=>hk4 b o (Heap.get?_push_of_some _ e)
 have loop:codeAny (model X.prog X.w) X.A (.compLoop (.ListComp elt [⟨tg,iter,ifs,0⟩] scope pos) 0 (.ref it) (.ref s2.heap.objs.size) (compEnvC scope cl ({ s2 with heap:=s2.heap.push { cls:=.type "list",data:=.seq ([]:List Value).toArray } }:Shared).heap.objs.size X.env))
   (compPost (model X.prog X.w) X.A X.xe none (EP X pins σ Q) (.ref s2.heap.objs.size) ({ s2 with heap:=s2.heap.push { cls:=.type "list",data:=.seq ([]:List Value).toArray } }:Shared).heap.objs.size) { s2 with heap:=h4,toks:=s2.toks + 0 }:=by
  generalize hs3:({ s2 with heap:=s2.heap.push { cls:=.type "list",data:=.seq ([]:List Value).toArray } }:Shared)=s3 at *
  have sz3:s2.heap.objs.size≤s3.heap.objs.size:=by rw [← hs3]; show _≤(s2.heap.push _).objs.size; rw [Heap.size_push]; exact Nat.le_succ _
  have k23:∀ b o,s2.heap.get? b=some o→s3.heap.get? b=some o:=fun b o e=>by rw [← hs3]; exact Heap.get?_push_of_some _ e
  have hos:s3.os=s2.os:=by rw [← hs3]
  have stat:∀ {H':Hp},(∀ b ∈ fp,H' b=none)→∀ b ∈ fp,FpOk (cxC X N scope cl s3 (upd H2 s2.heap.objs.size (.lst [])) fp) pins H' b:=fun {H'} hn b hb=>by
   obtain ⟨a1,a2,a3,a4,a5,a6⟩:=f3 b hb
   refine ⟨hn b hb,Nat.ne_of_lt (Nat.lt_of_lt_of_le (ltfp b hb) sz3),fun z=>?_,.inl hb,fun x c e=>a5 x c (hcl x c e),a6⟩
   rcases List.mem_cons.mp (I2.stkSub b z) with q | q
   ·exact a2 q
   ·exact a3 q
  have I4':Inv (cxC X N scope cl s3 (upd H2 s2.heap.objs.size (.lst [])) fp) pins (lI k caps σ) (upd H2 s2.heap.objs.size (.lst [])) { s2 with heap:=h4,toks:=s2.toks + 0 }:=by subst hs3; exact I4
  have hX2:Cd qb (cxC X N scope cl s3 (upd H2 s2.heap.objs.size (.lst [])) fp):=by
   rcases hX with z | ⟨z,y | ⟨a,o,u,e1,e2,e3⟩⟩
   ·exact .inl z
   ·exact .inr ⟨z,.inl y⟩
   ·refine .inr ⟨z,.inr ⟨a,o,u,e1,?_,e3⟩⟩
    have q0:=I2.base.frzs a o u e2
    show upd H2 s2.heap.objs.size (.lst []) a=_
    rw [aB (fun y=>by rw [y,hp] at q0; cases q0)]
    exact q0
  refine oF (fun n s'=>∃ i σ' H',Inv (cxC X N scope cl s3 (upd H2 s2.heap.objs.size (.lst [])) fp) pins σ' H' s'∧tn i s'.heap∧(∀ b ∈ fp,H' b=none)∧W i n σ' H') ?_ m0 ⟨0,_,_,I4',tn4,fun b hb=>(f3 b hb).1,w0⟩
  rintro n s5 ⟨i,σ5,H5,I5,st5,fr5,w5⟩
  rcases turn i n σ5 H5 w5 with ⟨stop,qn⟩ | ⟨go,Nn,hN,step⟩
  ·refine thn (T.done (cxC X N scope cl s3 (upd H2 s2.heap.objs.size (.lst [])) fp) rfl rfl rfl hX2 i pins s5 σ5 H5 _ I5 (stat fr5) st5 stop) fun r s6 zq=>?_
   obtain ⟨hr,I6⟩:=zq
   subst hr
   obtain ⟨m6,hn6,_⟩:=I6.loc
   refine ⟨m6,hn6,fun h7 hs7=>⟨.ref s2.heap.objs.size,H5,?_,rfl,qn⟩⟩
   have u1:Un (frs X.stack) fp H2 (upd H2 s2.heap.objs.size (.lst [])) s2.heap s3.heap:=Un.laid k23 (Nat.le_refl _) hp
   have u2:Un (frs X.stack) fp H2 H5 s2.heap s6.heap:=u1.trans I6.base
   have neC:∀ b o,s2.heap.get? b=some o→b ≠ s3.heap.objs.size:=fun b o e=>Nat.ne_of_lt (Nat.lt_of_lt_of_le (Heap.lt_size e) sz3)
   have hfree:H5 s3.heap.objs.size=none:=I6.free
   refine I2.call' (s':={ s6 with heap:=h7 }) (ch:=fp) (by rw [← hos]; exact I6.os) ⟨fun b o e n hb hx=>?_,fun b o e n hb hx=>?_,u2.free,fun b o e hx=>?_,u2.tups,u2.frzs,u2.tbls⟩ (fun b ob e=>?_) I6.bare fun b hb=>?_
   ·exact (hs7.2 b (neC b o e)).trans (u2.keep b o e n hb hx)
   ·obtain ⟨sl,e1⟩:=u2.slot b o e n hb hx
    exact ⟨sl,(hs7.2 b (neC b o e)).trans e1⟩
   ·obtain ⟨o',e1⟩:=u2.there b o e hx
    exact ⟨o',(hs7.2 b (neC b o e)).trans e1⟩
   ·refine (I6.hok b ob e).stay (fun c v hc z=>(hs7.2 c ?_).trans z) (fun _ z=>z) fun _ _ z=>z
    intro y
    rcases hc with z | z
    ·rw [← z,y,hfree] at e; cases e
    ·rw [y,hfree] at z; cases z
   ·obtain ⟨a1,a2,a3,a4,a5,a6⟩:=f2 b hb
    exact ⟨a4,a2,a5,a6⟩
  ·refine thn (T.item (cxC X N scope cl s3 (upd H2 s2.heap.objs.size (.lst [])) fp) rfl rfl rfl hX2 i pins s5 σ5 H5 _ I5 (stat fr5) st5 go) fun r s6 zq=>?_
   obtain ⟨u,hr,h6⟩:=zq
   subst hr
   refine thn h6 fun _ s7 zq=>?_
   obtain ⟨x,H7,I7,r7,y7,st7,fr7⟩:=zq
   have I7':=I7.pinned (stat fr7) (T.obj _ _ st7)
   refine noX (thn (hg cl s3 _ fp hX2 _ s7 σ5 H7 x u _ I7' r7 (step x H7 y7)) fun _ s8 zq=>?_)
   obtain ⟨σ8,H8,I8,q8⟩:=zq
   refine noX (thn (ht cl s3 _ fp hX2 _ s8 σ8 H8 _ I8 q8) fun ok s9 zq=>?_)
   obtain ⟨H9,I9,q9⟩:=zq
   have again:∀ {s':Shared} {σ':L2.St} {H':Hp},Inv (cxC X N scope cl s3 (upd H2 s2.heap.objs.size (.lst [])) fp) (pins ++ lD fp s7.heap) σ' H' s'→Nn σ' H'→
     ∃ m,m < n∧∃ i σ' H',Inv (cxC X N scope cl s3 (upd H2 s2.heap.objs.size (.lst [])) fp) pins σ' H' s'∧tn i s'.heap∧(∀ b ∈ fp,H' b=none)∧W i m σ' H':=fun {s' σ' H'} I' n'=>by
    obtain ⟨m',hm,w'⟩:=hN σ' H' n'
    refine ⟨m',hm,i + 1,σ',H',I'.unpinned,T.keep _ _ _ st7 fun b hb o e=>(I'.pin (b,o) (List.mem_append_right _ (List.mem_append_right _ (gX hb e)))).1,fun b hb=>?_,w'⟩
    obtain ⟨o,e,d⟩:=T.obj _ _ st7 b hb
    exact (I'.pin (b,o) (List.mem_append_right _ (List.mem_append_right _ (gX hb e)))).2.1
   cases ok with
   | false=>exact again I9 q9
   | true=>
    refine noX (thn (he cl s3 _ fp hX2 _ s9 σ8 H9 _ I9 q9) fun y s10 zq=>?_)
    obtain ⟨yv,H10,I10,r10,ys,hys,hlt,q10⟩:=zq
    refine noX (thn (ny (X:=cxC X N scope cl s3 (upd H2 s2.heap.objs.size (.lst [])) fp) _ s10 σ8 H10 (.ref s2.heap.objs.size) [yv] _ [y] (fun _ H'=>Nn σ8 H') I10 rfl (.cons r10 .nil) ⟨_,ys,yv,rfl,rfl,hys,hlt,q10⟩) fun _ s11 zq=>?_)
    obtain ⟨_,H11,I11,_,q11⟩:=zq
    exact again I11 q11
 exact codeAny_compStart_list loop (T.self X.A 0 _ _ _ tn4 loop)
end PD
namespace PD
open PySem PySem.Spec PyProof.Rows L2
def cF (i:Int):Prop:=-(2 ^ 64) < i∧i < 2 ^ 64
noncomputable instance (i:Int):Decidable (cF i):=by unfold cF; infer_instance
def bO:Sto→D→D→Option D
 | _,.int i,.int j=>some (.int (i + j))
 | _,.str a,.str b=>if a.length + b.length≤sizeLine then some (.str (a ++ b)) else none
 | _,.tup a,.tup b=>if a.length + b.length≤sizeLine then some (.tup (a ++ b)) else none
 | _,.lst a,.lst b=>if a.length + b.length≤sizeLine then some (.lst (a ++ b)) else none
 | _,_,_=>none
def dq:Sto→D→D→Option D
 | _,.int i,.int j=>some (.int (i - j))
 | _,_,_=>none
def cf:Sto→D→D→Option D
 | _,.int i,.int j=>if cF i ∨ cF j then some (.int (i * j)) else none
 | _,.tup a,.int k=>if -(2 ^ 63)≤k∧k < 2 ^ 63∧a.length * k.toNat≤sizeLine then some (.tup (List.replicate k.toNat a).flatten) else none
 | _,.lst a,.int k=>if -(2 ^ 63)≤k∧k < 2 ^ 63∧a.length * k.toNat≤sizeLine then some (.lst (List.replicate k.toNat a).flatten) else none
 | _,_,_=>none
def lJ:Sto→D→D→Option D
 | _,.int i,.int j=>if 0 < j∧j < 1073741824 then some (.int (i / j)) else none
 | _,_,_=>none
def oMod:Sto→D→D→Option D
 | _,.int i,.int j=>if 0 < j then some (.int (i % j)) else none
 | _,_,_=>none
def rO:Sto→D→D→Option D
 | _,.int i,.int j=>if 0≤j∧j≤1000000∧i.natAbs < 2 ^ 64 then some (.int (i ^ j.toNat)) else none
 | _,_,_=>none
def oG:Sto→D→D→Option D
 | _,.int i,.int j=>if 0≤j∧j≤1000000∧i.natAbs < 2 ^ 64 then some (.int (i * 2 ^ j.toNat)) else none
 | _,_,_=>none
def jv:Sto→D→Option D
 | _,.int i=>some (.int (-i))
 | _,_=>none
def lK (p:Int→Int→Bool):Sto→D→D→Option D
 | _,.int i,.int j=>some (.bl (p i j))
 | _,_,_=>none
abbrev oLt:=lK fun i j=>decide (i < j)
abbrev oLe:=lK fun i j=>decide (i≤j)
abbrev oGt:=lK fun i j=>decide (j < i)
abbrev oGe:=lK fun i j=>decide (j≤i)
def eqS:D→D→Option Bool
 | .int i,.int j=>some (decide (i=j))
 | .bl i,.bl j=>some (decide (i=j))
 | .str i,.str j=>some (decide (i=j))
 | .non,.non=>some true
 | .non,.int _=>some false
 | .int _,.non=>some false
 | .non,.bl _=>some false
 | .bl _,.non=>some false
 | .non,.str _=>some false
 | .str _,.non=>some false
 | .int _,.str _=>some false
 | .str _,.int _=>some false
 | .bl _,.str _=>some false
 | .str _,.bl _=>some false
 | _,_=>none
def oEq:Sto→D→D→Option D:=fun _ a b=>(eqS a b).map .bl
def oNe:Sto→D→D→Option D:=fun _ a b=>(eqS a b).map fun c=>.bl (!c)
def iI:D→Bool
 | .non=>true
 | .bl _=>true
 | .int _=>true
 | .str _=>true
 | _=>false
def eqF:D→D→Bool
 | .non,.non=>true
 | .bl a,.bl b=>a == b
 | .bl a,.int b=>(if a then 1 else 0) == b
 | .int a,.bl b=>a == (if b then 1 else 0)
 | .int a,.int b=>a == b
 | .str a,.str b=>a == b
 | _,_=>false
def bg (S:Sto):D→Option (List D)
 | .tup a=>some a
 | .lst a=>some a
 | .fz a=>some a
 | .ref n=>match S[n]? with
  | some (.lst a)=>some a
  | some (.flst a)=>some a
  | _=>none
 | _=>none
def oIn (neg:Bool):Sto→D→D→Option D:=fun S x y=>match bg S y with
 | some a=>if iI x=true∧a.all iI=true then some (.bl (if neg then !(a.any fun z=>eqF z x) else a.any fun z=>eqF z x)) else none
 | none=>none
def oIx:Sto→D→D→Option D:=fun S x y=>match bg S x,y with
 | some a,.int i=>atI a i
 | _,_=>none
section
variable {X:Cx} {E:XK}
theorem RD.int {K:PySem.W.Frag} {w:Wd} {H:Hp} {i:Int} {v:V} (q:RD K w H (.int i) v):v=.int i:=by unfold RD at q; exact q
theorem RD.bl {K:PySem.W.Frag} {w:Wd} {H:Hp} {i:Bool} {v:V} (q:RD K w H (.bl i) v):v=.bl i:=by unfold RD at q; exact q
theorem RD.str {K:PySem.W.Frag} {w:Wd} {H:Hp} {i:Str} {v:V} (q:RD K w H (.str i) v):v=.str i:=by unfold RD at q; exact q
theorem RD.non {K:PySem.W.Frag} {w:Wd} {H:Hp} {v:V} (q:RD K w H .non v):v=.non:=by unfold RD at q; exact q
theorem RD.mkI {K:PySem.W.Frag} {w:Wd} {H:Hp} {i:Int}:RD K w H (.int i) (.int i):=by unfold RD; rfl
theorem RD.mkB {K:PySem.W.Frag} {w:Wd} {H:Hp} {i:Bool}:RD K w H (.bl i) (.bl i):=by unfold RD; rfl
theorem RD.mkS {K:PySem.W.Frag} {w:Wd} {H:Hp} {i:Str}:RD K w H (.str i) (.str i):=by unfold RD; rfl
theorem RD.tupI {K:PySem.W.Frag} {w:Wd} {H:Hp} {ds:List D} {v:V} (q:RD K w H (.tup ds) v):∃ a vs,v=.ref a∧(At w H a (.tup vs) ∨ oD K a vs)∧RDs K w H ds vs:=by unfold RD at q; exact q
theorem RD.lstI {K:PySem.W.Frag} {w:Wd} {H:Hp} {ds:List D} {v:V} (q:RD K w H (.lst ds) v):∃ a vs,v=.ref a∧At w H a (.lst vs)∧RDs K w H ds vs:=by unfold RD at q; exact q
theorem RD.fzI {K:PySem.W.Frag} {w:Wd} {H:Hp} {ds:List D} {v:V} (q:RD K w H (.fz ds) v):∃ a vs,v=.ref a∧rM K w H a vs∧RDs K w H ds vs:=by unfold RD at q; exact q
theorem RD.refI {K:PySem.W.Frag} {w:Wd} {H:Hp} {n:Nat} {v:V} (q:RD K w H (.ref n) v):∃ a,v=.ref a∧w.st[n]?=some a:=by unfold RD at q; exact q
theorem RD.newTup {K:PySem.W.Frag} {w:Wd} {H:Hp} {S:Sto} {ds:List D} {vs:List V} {p:Addr} (s:RS K w H S) (hp:H p=none) (q:RDs K w H ds vs):RD K w (upd H p (.tup vs)) (.tup ds) (.ref p):=by
 unfold RD
 exact ⟨p,vs,rfl,.inl ⟨aH,s.fresh hp⟩,RDs.ext (Ext.new hp) _ _ q⟩
theorem RD.newLst {K:PySem.W.Frag} {w:Wd} {H:Hp} {S:Sto} {ds:List D} {vs:List V} {p:Addr} (s:RS K w H S) (hp:H p=none) (q:RDs K w H ds vs):RD K w (upd H p (.lst vs)) (.lst ds) (.ref p):=by
 unfold RD
 exact ⟨p,vs,rfl,⟨aH,s.fresh hp⟩,RDs.ext (Ext.new hp) _ _ q⟩
theorem yi {f:Value→Value→Sem Value} {C:Int→Int→Prop} {g:Int→Int→D} {gv:Int→Int→V} {o:Sto→D→D→Option D} (h:OpR X f (rI C gv)) (hg:∀ K w H i j,RD K w H (g i j) (gv i j))
  (ho:∀ S d e z,o S d e=some z→∃ i j,d=.int i∧e=.int j∧C i j∧z=g i j):OpR X f (xO X.K E o):=by
 rintro pins s σ H x y v u Q I rx ry ⟨w,S,d,e,hS,qd,qe,p⟩
 obtain ⟨z,hz,p⟩:=p.of
 obtain ⟨i,j,rfl,rfl,c,rfl⟩:=ho _ _ _ _ hz
 cases qd.int
 cases qe.int
 exact h pins s σ H _ _ v u Q I rx ry ⟨i,j,rfl,rfl,c,p.ret (hg _ _ _ _ _) hS⟩
theorem qf {f:Value→Value→Sem Value} {g:Int→Int→D} {gv:Int→Int→V} {o:Sto→D→D→Option D} (h:OpR X f (rI0 gv)) (hg:∀ K w H i j,RD K w H (g i j) (gv i j))
  (ho:∀ S d e z,o S d e=some z→∃ i j,d=.int i∧e=.int j∧z=g i j):OpR X f (xO X.K E o):=by
 rintro pins s σ H x y v u Q I rx ry ⟨w,S,d,e,hS,qd,qe,p⟩
 obtain ⟨z,hz,p⟩:=p.of
 obtain ⟨i,j,rfl,rfl,rfl⟩:=ho _ _ _ _ hz
 cases qd.int
 cases qe.int
 exact h pins s σ H _ _ v u Q I rx ry ⟨i,j,rfl,rfl,p.ret (hg _ _ _ _ _) hS⟩
theorem fo:OpR X (binaryOp .Sub) (xO X.K E dq):=qf (g:=fun i j=>.int (i - j)) Aj (fun _ _ _ _ _=>RD.mkI) fun S d e z h=>by
 unfold dq at h; split at h
 ·cases h; exact ⟨_,_,rfl,rfl,rfl⟩
 ·cases h
theorem oH:OpR X (binaryOp .FloorDiv) (xO X.K E lJ):=yi (g:=fun i j=>.int (i / j)) xR (fun _ _ _ _ _=>RD.mkI) fun S d e z h=>by
 unfold lJ at h; split at h
 ·split at h
  ·cases h; exact ⟨_,_,rfl,rfl,by assumption,rfl⟩
  ·cases h
 ·cases h
theorem gZ:OpR X (binaryOp .Mod) (xO X.K E oMod):=yi (g:=fun i j=>.int (i % j)) Am (fun _ _ _ _ _=>RD.mkI) fun S d e z h=>by
 unfold oMod at h; split at h
 ·split at h
  ·cases h; exact ⟨_,_,rfl,rfl,by assumption,rfl⟩
  ·cases h
 ·cases h
theorem AQ:OpR X (binaryOp .Pow) (xO X.K E rO):=yi (g:=fun i j=>.int (i ^ j.toNat)) An (fun _ _ _ _ _=>RD.mkI) fun S d e z h=>by
 unfold rO at h; split at h
 ·split at h
  ·cases h; exact ⟨_,_,rfl,rfl,by assumption,rfl⟩
  ·cases h
 ·cases h
theorem wb:OpR X (binaryOp .LShift) (xO X.K E oG):=yi (g:=fun i j=>.int (i * 2 ^ j.toNat)) Ao (fun _ _ _ _ _=>RD.mkI) fun S d e z h=>by
 unfold oG at h; split at h
 ·split at h
  ·cases h; exact ⟨_,_,rfl,rfl,by assumption,rfl⟩
  ·cases h
 ·cases h
theorem jL {p:Int→Int→Bool} {S:Sto} {d e z:D} (h:lK p S d e=some z):∃ i j,d=.int i∧e=.int j∧z=.bl (p i j):=by
 unfold lK at h; split at h
 ·cases h; exact ⟨_,_,rfl,rfl,rfl⟩
 ·cases h
theorem wc:OpR X (compareOp .Lt) (xO X.K E oLt):=qf (g:=fun i j=>.bl (decide (i < j))) Cg (fun _ _ _ _ _=>RD.mkB) fun S d e z h=>jL h
theorem zv:OpR X (compareOp .LtE) (xO X.K E oLe):=qf (g:=fun i j=>.bl (decide (i≤j))) Ci (fun _ _ _ _ _=>RD.mkB) fun S d e z h=>jL h
theorem zw:OpR X (compareOp .Gt) (xO X.K E oGt):=qf (g:=fun i j=>.bl (decide (j < i))) Cj (fun _ _ _ _ _=>RD.mkB) fun S d e z h=>jL h
theorem CG:OpR X (compareOp .GtE) (xO X.K E oGe):=qf (g:=fun i j=>.bl (decide (j≤i))) Ck (fun _ _ _ _ _=>RD.mkB) fun S d e z h=>jL h
theorem kj:UnR X (unaryOp .USub) (xU X.K E jv):=by
 rintro pins s σ H x v Q I rx ⟨w,S,d,hS,qd,p⟩
 obtain ⟨z,hz,p⟩:=p.of
 unfold jv at hz; split at hz
 ·cases hz
  cases qd.int
  exact Ap pins s σ H _ v Q I rx ⟨_,rfl,p.ret RD.mkI hS⟩
 ·cases hz
theorem wd {K:PySem.W.Frag} {w:Wd} {H:Hp} {d e:D} {x y:V} {c:Bool} (qd:RD K w H d x) (qe:RD K w H e y) (h:eqS d e=some c):Aq x y=true∧decide (x=y)=c:=by
 unfold eqS at h
 split at h <;> (try (cases h; done)) <;> (unfold RD at qd qe; subst qd; subst qe; cases h; refine ⟨rfl,?_⟩; simp)
theorem CH:OpR X (compareOp .Eq) (xO X.K E oEq):=by
 rintro pins s σ H x y v u Q I rx ry ⟨w,S,d,e,hS,qd,qe,p⟩
 obtain ⟨z,hz,p⟩:=p.of
 unfold oEq at hz
 cases h:eqS d e with
 | none=>rw [h] at hz; cases hz
 | some c=>
  rw [h] at hz; cases hz
  obtain ⟨h1,h2⟩:=wd qd qe h
  exact Ce pins s σ H _ _ v u Q I rx ry ⟨h1,by rw [h2]; exact p.ret RD.mkB hS⟩
theorem CI:OpR X (compareOp .NotEq) (xO X.K E oNe):=by
 rintro pins s σ H x y v u Q I rx ry ⟨w,S,d,e,hS,qd,qe,p⟩
 obtain ⟨z,hz,p⟩:=p.of
 unfold oNe at hz
 cases h:eqS d e with
 | none=>rw [h] at hz; cases hz
 | some c=>
  rw [h] at hz; cases hz
  obtain ⟨h1,h2⟩:=wd qd qe h
  exact Cf pins s σ H _ _ v u Q I rx ry ⟨h1,by rw [h2]; exact p.ret RD.mkB hS⟩
theorem kl {K:PySem.W.Frag} {w:Wd} {H:Hp} {S:Sto} {d:D} {v:V} {a:List D} (s:RS K w H S) (q:RD K w H d v) (h:bg S d=some a):∃ p vs,v=.ref p∧(SqL K H p vs ∨ SqT K H p vs)∧RDs K w H a vs:=by
 unfold bg at h
 split at h
 ·cases h; obtain ⟨p,vs,e,z,r⟩:=q.tupI; exact ⟨p,vs,e,.inr (cR z),r⟩
 ·cases h; obtain ⟨p,vs,e,z,r⟩:=q.lstI; exact ⟨p,vs,e,.inl (SqL.of z.1),r⟩
 ·cases h; obtain ⟨p,vs,e,z,r⟩:=q.fzI; exact ⟨p,vs,e,.inl z.sq,r⟩
 ·split at h
  ·rename_i n b hn
   cases h
   obtain ⟨p,e,hp⟩:=q.refI
   obtain ⟨p',hp',vs,hv,r⟩:=s.obj _ _ hn
   rw [hp] at hp'; cases hp'
   exact ⟨p,vs,e,.inl (SqL.of hv),r⟩
  ·rename_i n b hn
   cases h
   obtain ⟨p,e,hp⟩:=q.refI
   obtain ⟨p',hp',o,vs,hv,r⟩:=s.obj _ _ hn
   rw [hp] at hp'; cases hp'
   exact ⟨p,vs,e,.inl (.inl (.inr ⟨o,hv⟩)),r⟩
  ·cases h
 ·cases h
theorem RDs.atI {K:PySem.W.Frag} {w:Wd} {H:Hp} {a:List D} {vs:List V} {i:Int} {d:D} (r:RDs K w H a vs) (h:atI a i=some d):∃ v,L2.atI vs i=some v∧RD K w H d v:=by
 unfold L2.atI at h ⊢
 rw [r.length]
 cases e:ixN a.length i with
 | none=>rw [e] at h; cases h
 | some j=>
  rw [e] at h
  obtain ⟨v,ev,rv⟩:=r.get (show a[j]?=some d from h)
  exact ⟨v,ev,rv⟩
theorem eY:IxR X (xO X.K E oIx):=by
 rintro va sl pins s σ H x y v u Q I rx ry ⟨w,S,d,e,hS,qd,qe,p⟩ hsub
 obtain ⟨z,hz,p'⟩:=p.of
 clear p
 unfold oIx at hz
 split at hz
 ·rename_i a i ha
  obtain ⟨q,vs,rfl,sq,r⟩:=kl hS qd ha
  cases qe.int
  obtain ⟨v',ev,rv⟩:=r.atI hz
  exact Ay va sl pins s σ H _ _ v u Q I rx ry (sq.elim (fun z=>.inl ⟨q,vs,i,v',rfl,rfl,z,ev,p'.ret rv hS⟩) fun z=>.inr (.inl ⟨q,vs,i,v',rfl,rfl,z,ev,p'.ret rv hS⟩)) hsub
 ·cases hz
theorem oI {K:PySem.W.Frag} {w:Wd} {H:Hp} {d:D} {v:V} (q:RD K w H d v) (h:iI d=true):je v=true:=by
 unfold iI at h
 split at h
 ·cases q.non; rfl
 ·cases q.bl; rfl
 ·cases q.int; rfl
 ·cases q.str; rfl
 ·cases h
theorem lL {K:PySem.W.Frag} {w:Wd} {H:Hp}:∀ {ds:List D} {vs:List V},RDs K w H ds vs→ds.all iI=true→vs.all je=true
 | [],_,q,_=>by rw [q.nil_inv]; rfl
 | d :: ds,_,q,h=>by
  obtain ⟨v,r,rfl,p,t⟩:=q.cons_inv
  rw [List.all_cons,Bool.and_eq_true] at h ⊢
  exact ⟨oI p h.1,lL t h.2⟩
theorem AR {K:PySem.W.Frag} {w:Wd} {H:Hp} {d e:D} {x y:V} (qd:RD K w H d x) (qe:RD K w H e y) (h1:iI d=true) (h2:iI e=true):eqV x y=eqF d e:=by
 unfold iI at h1 h2
 split at h1 <;> (try (cases h1; done)) <;> split at h2 <;> (try (cases h2; done)) <;> (unfold RD at qd qe; subst qd; subst qe; rfl)
theorem oJ {K:PySem.W.Frag} {w:Wd} {H:Hp} {d:D} {x:V} (qd:RD K w H d x) (hd:iI d=true):∀ {ds:List D} {vs:List V},RDs K w H ds vs→ds.all iI=true→(vs.any fun y=>eqV y x)=ds.any fun z=>eqF z d
 | [],_,q,_=>by rw [q.nil_inv]; rfl
 | e :: ds,_,q,h=>by
  obtain ⟨v,r,rfl,p,t⟩:=q.cons_inv
  rw [List.all_cons,Bool.and_eq_true] at h
  rw [List.any_cons,List.any_cons,AR p qd h.1 hd,oJ qd hd t h.2]
theorem zx:OpR X (compareOp .In) (xO X.K E (oIn false)):=by
 rintro pins s σ H x y v u Q I rx ry ⟨w,S,d,e,hS,qd,qe,p⟩
 obtain ⟨z,hz,p⟩:=p.of
 unfold oIn at hz
 split at hz
 ·rename_i a ha
  split at hz
  ·rename_i hf
   obtain ⟨q,vs,rfl,sq,r⟩:=kl hS qe ha
   cases hz
   refine uC pins s σ H _ _ v u Q I rx ry ⟨q,vs,rfl,sq,oI qd hf.1,lL r hf.2,?_⟩
   have hi:inV x vs=a.any fun z=>eqF z d:=oJ qd hf.1 r hf.2
   simp only [Bool.false_eq_true,if_false] at p ⊢
   rw [hi]
   exact p.ret RD.mkB hS
  ·cases hz
 ·cases hz
theorem jM:OpR X (compareOp .NotIn) (xO X.K E (oIn true)):=by
 rintro pins s σ H x y v u Q I rx ry ⟨w,S,d,e,hS,qd,qe,p⟩
 obtain ⟨z,hz,p⟩:=p.of
 unfold oIn at hz
 split at hz
 ·rename_i a ha
  split at hz
  ·rename_i hf
   obtain ⟨q,vs,rfl,sq,r⟩:=kl hS qe ha
   cases hz
   refine oq pins s σ H _ _ v u Q I rx ry ⟨q,vs,rfl,sq,oI qd hf.1,lL r hf.2,?_⟩
   have hi:inV x vs=a.any fun z=>eqF z d:=oJ qd hf.1 r hf.2
   simp only [if_true] at p ⊢
   rw [hi]
   exact p.ret RD.mkB hS
  ·cases hz
 ·cases hz
end
end PD
namespace PD
open PySem PySem.Spec PyProof.Rows L2
section
open PySem.SeqAt
open PySem.AutoSeq1 (wpAny_loadPart')
open PySem.MeetsSeq PySem.MeetsSeq2 PySem.MeetsSeq3
theorem oK (a:Int) (t:Tok) (l:Addr) (items:Array Value) (n:Nat) (dd:Option Addr) (sl:Array (Option Value)):
  Meets (Builtin.«int.__rmul__» ⟨[.int a t,.ref l],[]⟩) (fun _ R s=>s.heap.get? l=some { cls:=.type "tuple",dict:=dd,data:=.seq items n,slots:=sl }∧R (.ok (.ret Value.notImplemented)) s):=
 .of_wp fun prog w A R s h=>by obtain ⟨hp,g,d,tk,os⟩:=s; obtain ⟨hl,h⟩:=h; wp_walk using wpAny_loadPart' hl; exact ⟨_,rfl,h⟩
theorem oM (l:Addr) (items:Array Value) (n:Nat) (k:Int) (t:Tok) (dd:Option Addr) (sl:Array (Option Value)) (h1:¬ (decide (k < -(2 ^ 63)) || decide (k ≥ 2 ^ 63))=true) (h2:(items.isEmpty || k == 1)=true):
  Meets (Builtin.«tuple.__mul__» ⟨[.ref l,.int k t],[]⟩) (fun _ R s=>s.heap.get? l=some { cls:=.type "tuple",dict:=dd,data:=.seq items n,slots:=sl }∧R (.ok (.ret (.ref l))) s):=
 .of_wp fun prog w A R s h=>by obtain ⟨hp,g,d,tk,os⟩:=s; obtain ⟨hl,h⟩:=h; have f1:=AutoSeq1.idx_int; wp_walk using wpAny_loadPart' hl; rw [if_neg h1]; wp_walk using wpAny_loadPart' hl; exact ⟨_,rfl,h⟩
theorem oN (l:Addr) (items:Array Value) (n:Nat) (k:Int) (t:Tok) (dd:Option Addr) (sl:Array (Option Value)) (h1:¬ (decide (k < -(2 ^ 63)) || decide (k ≥ 2 ^ 63))=true) (h2:¬ (items.isEmpty || k == 1)=true) (h3:(decide (k≤0) || items.isEmpty)=true):
  Meets (Builtin.«tuple.__mul__» ⟨[.ref l,.int k t],[]⟩) (fun _ R s=>s.heap.get? l=some { cls:=.type "tuple",dict:=dd,data:=.seq items n,slots:=sl }∧R (.ok (.ret (Value.ref s.heap.objs.size))) { s with heap:=s.heap.push { cls:=Value.type "tuple",data:=Data.seq #[] },toks:=s.toks }):=
 .of_wp fun prog w A R s h=>by obtain ⟨hp,g,d,tk,os⟩:=s; obtain ⟨hl,h⟩:=h; have f1:=AutoSeq1.idx_int; wp_walk using wpAny_loadPart' hl; rw [if_neg h1]; wp_walk using wpAny_loadPart' hl; exact ⟨_,rfl,h⟩
theorem oO (l:Addr) (items:Array Value) (n:Nat) (k:Int) (t:Tok) (dd:Option Addr) (sl:Array (Option Value)) (h1:¬ (decide (k < -(2 ^ 63)) || decide (k ≥ 2 ^ 63))=true) (h2:¬ (items.isEmpty || k == 1)=true) (h3:¬ (decide (k≤0) || items.isEmpty)=true)
  (h4:¬ (items.size:Int) * k > (2 ^ 63 - 1) / 8) (h5:¬ Builtin.Tuple.tupleTooMany ((items.size:Int) * k)=true) (hsz:(List.foldl (fun x1 x2=>x1 ++ x2) #[] (List.replicate k.toNat items)).size≤sizeLine):
  Meets (Builtin.«tuple.__mul__» ⟨[.ref l,.int k t],[]⟩) (fun _ R s=>s.heap.get? l=some { cls:=.type "tuple",dict:=dd,data:=.seq items n,slots:=sl }∧R (.ok (.ret (Value.ref s.heap.objs.size))) { s with heap:=s.heap.push { cls:=Value.type "tuple",data:=Data.seq (List.foldl (fun x1 x2=>x1 ++ x2) #[] (List.replicate k.toNat items)) },toks:=s.toks }):=
 .of_wp fun prog w A R s h=>by obtain ⟨hp,g,d,tk,os⟩:=s; obtain ⟨hl,h⟩:=h; have f1:=AutoSeq1.idx_int; wp_walk using wpAny_loadPart' hl; rw [if_neg h1]; wp_walk using wpAny_loadPart' hl; rw [if_neg h4]; wp_walk using wpAny_loadPart' hl; exact ⟨_,rfl,h⟩
end
section
variable {prog:Program} {w:World} {A:Around} {E:Value→Shared→Prop} {s:Shared}
theorem km:fillsNumberSlot (.type "tuple") "mul" = pure false:=
 PySem.fillsNumberSlot_seq (id:="tuple.__mul__") (r:=some (.builtin "tuple.__rmul__")) F.slot_tuple_mul.lookup (by decide +kernel) F.slot_tuple_rmul.lookup (by decide +kernel)
theorem oP:seqRepeat? (.type "tuple")=pure (some (.builtin "tuple.__mul__")):=by
 unfold seqRepeat?
 rw [PySem.seqSlot_of (T:="tuple") (name:="__mul__") (id:="tuple.__mul__") F.slot_tuple_mul.lookup (by decide +kernel),PySem.seqSlot_of (T:="tuple") (name:="__rmul__") (id:="tuple.__rmul__") F.slot_tuple_rmul.lookup (by decide +kernel)]
 rfl
theorem yj {t:Addr} {vs:List Value} {k:Int} {tk:Tok} {Q:Value→Shared→Prop} (ht:IsTup s.heap t vs.toArray) (h1:-(2 ^ 63)≤k) (h2:k < 2 ^ 63) (hz:vs.length * k.toNat≤sizeLine)
  (q1:(vs=[] ∨ k=1)→Q (.ref t) s) (q2:¬ (vs=[] ∨ k=1)→Q (.ref s.heap.objs.size) { s with heap:=s.heap.push { cls:=.type "tuple",data:=.seq (List.replicate k.toNat vs).flatten.toArray } }):
  wpAny (model prog w) A (binaryOp .Mult (.ref t) (.int k tk)) Q E s:=by
 obtain ⟨⟨cls,dd,data,sl⟩,ho,hc,n,hd⟩:=id ht
 simp only at hc hd
 subst hc hd
 have hk:¬ (decide (k < -(2 ^ 63)) || decide (k ≥ 2 ^ 63))=true:=by simp; omega
 refine wpAny_binaryOp_repeat_ref (T:="tuple") (U:="int") (by decide) ⟨_,ho,rfl⟩ (fun s'=>typeIs_int s' k tk) km F.fills_int_mul F.slot_int_rmul oP F.slot_int_index.lookup
  (call_meets F.slot_int_rmul (typeIs_int s k tk) F.entry_int_rmul (F.args_int_rmul_2 _ _) (oK k tk t vs.toArray n dd sl) ⟨ho,rfl,⟨_,ho,rfl⟩,?_⟩)
 have hfold:∀ m:Nat,List.foldl (fun x1 x2=>x1 ++ x2) #[] (List.replicate m vs.toArray)=(List.replicate m vs).flatten.toArray:=fun m=>by
  have:=foldl_rep vs m []
  rw [List.nil_append] at this
  exact this
 by_cases c1:vs=[] ∨ k=1
 ·refine call_meets F.slot_tuple_mul ⟨_,ho,rfl⟩ F.entry_tuple_mul (F.args_tuple_mul_2 _ _) (oM t vs.toArray n k tk dd sl hk ?_) ⟨ho,q1 c1⟩
  rcases c1 with rfl | rfl
  ·rfl
  ·simp
 ·have c2:¬ (vs.toArray.isEmpty || k == 1)=true:=by
   intro z
   rw [Bool.or_eq_true] at z
   rcases z with z | z
   ·exact c1 (.inl (by simpa using z))
   ·exact c1 (.inr (by simpa using z))
  by_cases c3:k≤0
  ·refine call_meets F.slot_tuple_mul ⟨_,ho,rfl⟩ F.entry_tuple_mul (F.args_tuple_mul_2 _ _) (oN t vs.toArray n k tk dd sl hk c2 (by simp [c3])) ⟨ho,?_⟩
   have:=q2 c1
   rw [show k.toNat=0 by omega] at this
   exact this
  ·have c4:¬ (decide (k≤0) || vs.toArray.isEmpty)=true:=by
    intro z
    rw [Bool.or_eq_true] at z
    rcases z with z | z
    ·exact c3 (of_decide_eq_true z)
    ·exact c1 (.inl (by simpa using z))
   have hmul:((vs.toArray.size:Nat):Int) * k=((vs.length * k.toNat:Nat):Int):=by
    rw [List.size_toArray,Int.natCast_mul,Int.toNat_of_nonneg (by omega)]
   have hs0:(sizeLine:Nat)=2 ^ 24:=rfl
   refine call_meets F.slot_tuple_mul ⟨_,ho,rfl⟩ F.entry_tuple_mul (F.args_tuple_mul_2 _ _) (oO t vs.toArray n k tk dd sl hk c2 c4 ?_ ?_ ?_) ⟨ho,?_⟩
   ·rw [hmul]
    intro z
    have:((2:Int) ^ 63 - 1) / 8 ≥ 2 ^ 24:=by decide
    omega
   ·rw [hmul]
    unfold Builtin.Tuple.tupleTooMany
    simp only [decide_eq_true_eq]
    intro z
    have z':((sizeLine:Nat):Int) < ((vs.length * k.toNat:Nat):Int):=z
    omega
   ·rw [hfold,List.size_toArray,len_rep,Nat.mul_comm]; exact hz
   ·rw [hfold]; exact q2 c1
end
end PD
namespace PD
open PySem PySem.Spec PyProof.Rows L2
section
variable {prog:Program} {w:World} {A:Around} {E:Value→Shared→Prop} {s:Shared}
theorem we {t b:Addr} {ws:List Value} {Q:Value→Shared→Prop} (ht:IsTup s.heap t ([]:List Value).toArray) (hb:IsTup s.heap b ws.toArray) (h:Q (.ref b) s):wpAny (model prog w) A (binaryOp .Add (.ref t) (.ref b)) Q E s:=by
 obtain ⟨⟨cls,dd,data,sl⟩,ho,hc,n,hd⟩:=id ht
 obtain ⟨⟨cls2,dd2,data2,sl2⟩,ho2,hc2,n2,hd2⟩:=id hb
 simp only at hc hd hc2 hd2
 subst hc hd hc2 hd2
 exact concat_meets ⟨_,ho,rfl⟩ ⟨_,ho2,rfl⟩ noFill_tuple_add seq_tuple_add PySem.F.slot_tuple_add PySem.F.entry_tuple_add (PySem.F.args_tuple_add_2 _ _) (tuple_addW0 t b _ ws.toArray n n2 dd dd2 sl sl2 rfl) ⟨ho,ho2,h⟩
open HT in
end
end PD
namespace PD
open PySem PySem.Spec PyProof.Rows L2
section
variable {X:Cx} {E:XK}
theorem lr {K:PySem.W.Frag} {w:Wd} {H:Hp} {p:Addr} {vs:List V} {ds:List D} (z:At w H p (.tup vs) ∨ oD K p vs) (r:RDs K w H ds vs):RD K w H (.tup ds) (.ref p):=by
 unfold RD; exact ⟨p,vs,rfl,z,r⟩
theorem cG:OpR X (binaryOp .Add) (xO X.K E bO):=by
 rintro pins s σ H x y v u Q I rx ry ⟨w,S,d,e,hS,qd,qe,p⟩
 obtain ⟨z,hz,p'⟩:=p.of
 clear p
 unfold bO at hz
 split at hz
 ·cases hz
  cases qd.int
  cases qe.int
  exact Ai pins s σ H _ _ v u Q I rx ry ⟨_,_,rfl,rfl,p'.ret RD.mkI hS⟩
 ·split at hz
  ·cases hz
   cases qd.str
   cases qe.str
   exact rK pins s σ H _ _ v u Q I rx ry ⟨_,_,rfl,rfl,by assumption,p'.ret RD.mkS hS⟩
  ·cases hz
 ·split at hz
  ·rename_i S' a b hl
   cases hz
   obtain ⟨pa,xs,rfl,za,ra⟩:=qd.tupI
   obtain ⟨pb,ys,rfl,zb,rb⟩:=qe.tupI
   by_cases ha:a=[]
   ·subst ha
    have hxs:=ra.nil_inv
    subst hxs
    cases rx
    cases ry
    obtain ⟨its,r1,p1,_⟩:=I.tuple (cR za)
    obtain ⟨its2,r2,p2,_⟩:=I.tuple (cR zb)
    have:its=[]:=r1.nil_iff.mpr rfl
    subst this
    exact we p1 p2 ⟨.ref pb,H,I,rfl,p'.ret (lr zb rb) hS⟩
   ·refine xY pins s σ H _ _ v u Q I rx ry ⟨pa,pb,xs,ys,rfl,rfl,cR za,cR zb,fun z=>ha ?_,by rw [ra.length,rb.length]; exact hl,fun z=>?_,fun z q hq=>?_⟩
    ·have:=ra.length
     rw [z] at this
     exact List.length_eq_zero_iff.mp this.symm
    ·have hb:b=[]:=by
      have:=rb.length
      rw [z] at this
      exact List.length_eq_zero_iff.mp this.symm
     subst hb
     rw [List.append_nil] at p'
     exact p'.ret (lr za ra) hS
    ·exact p'.at (Ext.new hq) (RD.newTup hS hq (ra.append rb)) (hS.new hq)
  ·cases hz
 ·split at hz
  ·rename_i S' a b hl
   cases hz
   obtain ⟨pa,xs,rfl,za,ra⟩:=qd.lstI
   obtain ⟨pb,ys,rfl,zb,rb⟩:=qe.lstI
   exact AB pins s σ H _ _ v u Q I rx ry ⟨pa,pb,xs,ys,rfl,rfl,za.1,zb.1,by rw [ra.length,rb.length]; exact hl,fun q hq=>p'.at (Ext.new hq) (RD.newLst hS hq (ra.append rb)) (hS.new hq)⟩
  ·cases hz
 ·cases hz
theorem RDs.rep {K:PySem.W.Frag} {w:Wd} {H:Hp} {ds:List D} {vs:List V} (r:RDs K w H ds vs):∀ k:Nat,RDs K w H (List.replicate k ds).flatten (List.replicate k vs).flatten
 | 0=>by simp; exact .nil
 | k + 1=>by
  rw [List.replicate_succ,List.replicate_succ,List.flatten_cons,List.flatten_cons]
  exact r.append (RDs.rep r k)
theorem cS:OpR X (binaryOp .Mult) (xO X.K E cf):=by
 rintro pins s σ H x y v u Q I rx ry ⟨w,S,d,e,hS,qd,qe,p⟩
 obtain ⟨z,hz,p'⟩:=p.of
 clear p
 unfold cf at hz
 split at hz
 ·split at hz
  ·cases hz
   cases qd.int
   cases qe.int
   exact Ak pins s σ H _ _ v u Q I rx ry ⟨_,_,rfl,rfl,by assumption,p'.ret RD.mkI hS⟩
  ·cases hz
 ·split at hz
  ·rename_i S' a k hl
   cases hz
   obtain ⟨pa,xs,rfl,za,ra⟩:=qd.tupI
   cases qe.int
   cases rx
   obtain ⟨t,rfl⟩:=ry
   obtain ⟨its,r1,p1,_⟩:=I.tuple (cR za)
   have e1:its.length=a.length:=by rw [← r1.length,ra.length]
   refine yj p1 hl.1 hl.2.1 (by rw [e1]; exact hl.2.2) (fun c=>?_) fun c=>?_
   ·refine ⟨.ref pa,H,I,rfl,?_⟩
    have:(List.replicate k.toNat a).flatten=a:=by
     rcases c with c | c
     ·have:a=[]:=by rw [c] at e1; exact List.length_eq_zero_iff.mp e1.symm
      subst this; simp
     ·subst c; simp
    rw [this] at p'
    exact p'.ret (lr za ra) hS
   ·have hn:H s.heap.objs.size=none:=I.hok.fresh (Nat.le_refl _)
    refine ⟨.ref s.heap.objs.size,_,I.laid (t':=s.toks) (o:=.tup (List.replicate k.toNat xs).flatten) (fun b ob q=>Heap.get?_push_of_some _ q) (Nat.le_refl _) ?_,rfl,p'.at (Ext.new hn) (RD.newTup hS hn (ra.rep _)) (hS.new hn)⟩
    exact ⟨by rw [len_rep,Nat.mul_comm,ra.length]; exact hl.2.2,_,r1.rep _,IsTup.new _ _⟩
  ·cases hz
 ·split at hz
  ·rename_i S' a k hl
   cases hz
   obtain ⟨pa,xs,rfl,za,ra⟩:=qd.lstI
   cases qe.int
   exact AD pins s σ H _ _ v u Q I rx ry ⟨pa,k,xs,rfl,rfl,za.1,hl.1,hl.2.1,by rw [ra.length]; exact hl.2.2,fun q hq=>p'.at (Ext.new hq) (RD.newLst hS hq (ra.rep _)) (hS.new hq)⟩
  ·cases hz
 ·cases hz
theorem eD {a b:Expr} {ma mb:EM} {pos:Pos} {f:Sto→D→D→Option D} (hr:IxR X (xO X.K E f)) (ha:SE X E a ma) (hb:SE X E b mb) (hs:sP b:=by intro _ _; kernel_rfl):SE X E (.Subscript a b pos) (eOp f ma mb):=⟨
 bc (Cr hr ha.out hb.out hs) fun s H Q zq=>ex6 zq fun w r S hr hS hp=>⟨w,r,S,hr,hS,hp.bind hS fun d S1 w1 H1 v x1 q1 s1 p1=>
  ⟨w1,r,S1,hr.ext x1,s1,p1.bind s1 fun e S2 w2 H2 u x2 q2 s2 p2=>⟨w2,S2,d,e,s2,RD.ext x2 d v q1,q2,p2⟩⟩⟩⟩
def et:Sto→List D→Option D
 | _,[.str x]=>if x.length≤sizeLine then some (.int x.length) else none
 | _,[.dic x]=>some (.int x.length)
 | S,[d]=>match bg S d with
  | some a=>some (.int a.length)
  | none=>match d with
   | .ref n=>match S[n]? with
    | some (.dic kvs)=>some (.int kvs.length)
    | _=>none
   | _=>none
 | _,_=>none
theorem RDk.length {K:PySem.W.Frag} {w:Wd} {H:Hp}:∀ {ds:List (Sum Int Str × D)} {vs:List (Key × V)},RDk K w H ds vs→vs.length=ds.length
 | [],_,h=>by unfold RDk at h; rw [h]; rfl
 | (k,d) :: ds,_,h=>by
  unfold RDk at h
  obtain ⟨v,r,rfl,_,q⟩:=h
  simp [RDk.length q]
theorem eZ:bL X (.builtin "len") (xC X.K E et):=by
 rintro pins s σ H xs us Q I r ⟨w,S,ds,hS,qs,p⟩
 obtain ⟨z,hz,p'⟩:=p.of
 clear p
 unfold et at hz
 split at hz
 ·split at hz
  ·cases hz
   obtain ⟨v,rfl,q⟩:=qs.one_inv
   cases q.str
   exact ou pins s σ H _ us Q I r ⟨_,rfl,by assumption,p'.ret RD.mkI hS⟩
  ·cases hz
 ·cases hz
  obtain ⟨v,rfl,q⟩:=qs.one_inv
  unfold RD at q
  obtain ⟨a,uu,rfl,z,rk⟩:=q
  exact nB pins s σ H _ us Q I r ⟨_,_,rfl,z.1,by rw [rk.length]; exact p'.ret RD.mkI hS⟩
 ·obtain ⟨v,rfl,q⟩:=qs.one_inv
  split at hz
  ·rename_i a ha
   cases hz
   obtain ⟨pp,vs,rfl,sq,ra⟩:=kl hS q ha
   exact ot pins s σ H _ us Q I r ⟨pp,vs,rfl,sq,by rw [ra.length]; exact p'.ret RD.mkI hS⟩
  ·split at hz
   ·split at hz
    ·rename_i n kvs hn
     cases hz
     obtain ⟨pp,rfl,hp⟩:=q.refI
     obtain ⟨p2,hp2,vs,hv,rk⟩:=hS.obj _ _ hn
     rw [hp] at hp2; cases hp2
     exact nB pins s σ H _ us Q I r ⟨_,_,rfl,hv,by rw [rk.length]; exact p'.ret RD.mkI hS⟩
    ·cases hz
   ·cases hz
 ·cases hz
def uN:Sto→List D→Option D
 | _,[.int i]=>some (.int (if i < 0 then -i else i))
 | _,_=>none
theorem wg:bL X (.builtin "abs") (xC X.K E uN):=by
 rintro pins s σ H xs us Q I r ⟨w,S,ds,hS,qs,p⟩
 obtain ⟨z,hz,p'⟩:=p.of
 clear p
 unfold uN at hz
 split at hz
 ·cases hz
  obtain ⟨v,rfl,q⟩:=qs.one_inv
  cases q.int
  exact vI pins s σ H _ us Q I r ⟨_,rfl,p'.ret RD.mkI hS⟩
 ·cases hz
def wj:Sto→List D→Option D
 | _,[.int i,.int j]=>some (.int (if j > i then j else i))
 | _,_=>none
theorem AU (hc:X.calm=true):bL X (.builtin "max") (xC X.K E wj):=by
 rintro pins s σ H xs us Q I r ⟨w,S,ds,hS,qs,p⟩
 obtain ⟨z,hz,p'⟩:=p.of
 clear p
 unfold wj at hz
 split at hz
 ·cases hz
  obtain ⟨v,u,rfl,q,q'⟩:=qs.two_inv
  cases q.int
  cases q'.int
  exact uv hc pins s σ H _ us Q I r ⟨_,_,rfl,p'.ret RD.mkI hS⟩
 ·cases hz
def uO:Sto→List D→Option D
 | _,[.int i,.int j]=>some (.int (if j < i then j else i))
 | _,_=>none
theorem wk (hc:X.calm=true):bL X (.builtin "min") (xC X.K E uO):=by
 rintro pins s σ H xs us Q I r ⟨w,S,ds,hS,qs,p⟩
 obtain ⟨z,hz,p'⟩:=p.of
 clear p
 unfold uO at hz
 split at hz
 ·cases hz
  obtain ⟨v,u,rfl,q,q'⟩:=qs.two_inv
  cases q.int
  cases q'.int
  exact uw hc pins s σ H _ us Q I r ⟨_,_,rfl,p'.ret RD.mkI hS⟩
 ·cases hz
def lu:Sto→List D→Option D
 | _,[.int i,.int j]=>if 0 < j∧j < 1073741824 then some (.tup [.int (i / j),.int (i % j)]) else none
 | _,_=>none
theorem uP:bL X (.builtin "divmod") (xC X.K E lu):=by
 rintro pins s σ H xs us Q I r ⟨w,S,ds,hS,qs,p⟩
 obtain ⟨z,hz,p'⟩:=p.of
 clear p
 unfold lu at hz
 split at hz
 ·split at hz
  ·cases hz
   obtain ⟨v,u,rfl,q,q'⟩:=qs.two_inv
   cases q.int
   cases q'.int
   exact pR pins s σ H _ us Q I r ⟨_,_,rfl,by assumption,fun t ht=>p'.at (Ext.new ht) (RD.newTup hS ht (.cons RD.mkI (.cons RD.mkI .nil))) (hS.new ht)⟩
  ·cases hz
 ·cases hz
def uQ:Sto→List D→Option D
 | _,[.int i]=>some (.int i)
 | _,[.bl b]=>some (.int (if b then 1 else 0))
 | _,_=>none
theorem AV:bL X (.type "int") (xC X.K E uQ):=by
 rintro pins s σ H xs us Q I r ⟨w,S,ds,hS,qs,p⟩
 obtain ⟨z,hz,p'⟩:=p.of
 clear p
 unfold uQ at hz
 split at hz
 ·cases hz
  obtain ⟨v,rfl,q⟩:=qs.one_inv
  cases q.int
  exact nj pins s σ H _ us Q I r (.inl ⟨_,rfl,p'.ret RD.mkI hS⟩)
 ·cases hz
  obtain ⟨v,rfl,q⟩:=qs.one_inv
  cases q.bl
  exact nj pins s σ H _ us Q I r (.inr ⟨_,rfl,p'.ret RD.mkI hS⟩)
 ·cases hz
def jw:Sto→List D→Option D
 | _,[.tup a]=>some (.tup a)
 | S,[d]=>(bg S d).map .tup
 | _,_=>none
theorem lM:bL X (.type "tuple") (xC X.K E jw):=by
 rintro pins s σ H xs us Q I r ⟨w,S,ds,hS,qs,p⟩
 obtain ⟨z,hz,p'⟩:=p.of
 clear p
 unfold jw at hz
 split at hz
 ·cases hz
  obtain ⟨v,rfl,q⟩:=qs.one_inv
  obtain ⟨pa,vs,rfl,za,ra⟩:=q.tupI
  exact jf pins s σ H _ us Q I r ⟨pa,vs,rfl,.inr ⟨cR za,p'.ret (lr za ra) hS⟩⟩
 ·rename_i d hd
  obtain ⟨v,rfl,q⟩:=qs.one_inv
  cases ha:bg S d with
  | none=>rw [ha] at hz; cases hz
  | some a=>
   rw [ha] at hz
   cases hz
   have hq:∃ pa vs,v=.ref pa∧SqL X.K H pa vs∧RDs X.K w H a vs:=by
    unfold bg at ha
    split at ha
    ·exact (hd _ rfl).elim
    ·cases ha; obtain ⟨p,vs,e,z,r⟩:=q.lstI; exact ⟨p,vs,e,SqL.of z.1,r⟩
    ·cases ha; obtain ⟨p,vs,e,z,r⟩:=q.fzI; exact ⟨p,vs,e,z.sq,r⟩
    ·split at ha
     ·rename_i n b hn
      cases ha
      obtain ⟨p,e,hp⟩:=q.refI
      obtain ⟨p2,hp2,vs,hv,rk⟩:=hS.obj _ _ hn
      rw [hp] at hp2; cases hp2
      exact ⟨p,vs,e,SqL.of hv,rk⟩
     ·rename_i n b hn
      cases ha
      obtain ⟨p,e,hp⟩:=q.refI
      obtain ⟨p2,hp2,o,vs,hv,rk⟩:=hS.obj _ _ hn
      rw [hp] at hp2; cases hp2
      exact ⟨p,vs,e,.inl (.inr ⟨o,hv⟩),rk⟩
     ·cases ha
    ·cases ha
   obtain ⟨pa,vs,rfl,sq,ra⟩:=hq
   exact jf pins s σ H _ us Q I r ⟨pa,vs,rfl,.inl ⟨sq,fun t ht=>p'.at (Ext.new ht) (RD.newTup hS ht ra) (hS.new ht)⟩⟩
 ·cases hz
end
end PD
namespace PD
open PySem PySem.Spec PyProof.Rows L2
section
variable {X:Cx} {E:XK}
def boolsOf:List D→Option (List Bool)
 | []=>some []
 | .bl b :: r=>(boolsOf r).map (b :: ·)
 | _ :: _=>none
def gi:Sto→List D→Option D
 | _,[.lst a]=>(boolsOf a).map fun bs=>.bl (bs.all id)
 | _,_=>none
theorem qg {K:PySem.W.Frag} {w:Wd} {H:Hp}:∀ {ds:List D} {vs:List V} {us:List Value} {bs:List Bool},RDs K w H ds vs→Vals vs us→boolsOf ds=some bs→LSm.BoolsAre us bs
 | [],_,_,_,q,r,h=>by
  rw [q.nil_inv] at r
  cases r
  unfold boolsOf at h
  cases h
  exact .nil
 | d :: ds,_,_,bs,q,r,h=>by
  obtain ⟨v,vs,rfl,p,t⟩:=q.cons_inv
  cases d with
  | bl b=>
   unfold boolsOf at h
   cases e:boolsOf ds with
   | none=>rw [e] at h; cases h
   | some cs=>
    rw [e] at h; cases h
    cases p.bl
    cases r with
    | cons r1 r2=>
     cases r1
     exact .cons b (qg t r2 e)
  | _=>unfold boolsOf at h; cases h
theorem g6 (hc:X.calm=true):bL X (.builtin "all") (xC X.K E gi):=by
 rintro pins s σ H xs us Q I r ⟨w,S,ds,hS,qs,p⟩
 obtain ⟨z,hz,p'⟩:=p.of
 clear p
 unfold gi at hz
 split at hz
 ·rename_i a
  cases e:boolsOf a with
  | none=>rw [e] at hz; cases hz
  | some bs=>
   rw [e] at hz; cases hz
   obtain ⟨v,rfl,q⟩:=qs.one_inv
   obtain ⟨pa,vs,rfl,za,ra⟩:=q.lstI
   obtain ⟨u,rfl,ru⟩:=vals1 r
   cases ru
   obtain ⟨its,r1,⟨o,n,ho,hcl,hdn,hd⟩,_⟩:=I.list (SqL.of za.1)
   have hb:=qg ra r1 e
   have hlt:pa < s.heap.objs.size:=Heap.lt_size ho
   have hl:s.heap.IsList pa its.toArray:=⟨o,ho,hcl,n,hd⟩
   refine call_all_walk (wpAny_pyIter_list hl ?_)
   refine ⟨s.heap.objs.size,[s.heap.objs.size,pa],[s.heap.objs.size],its.toArray.size,_,_,fun i=>(bs[i]?).getD true,rfl,Walks.list (A:=X.A.in1) (I.ok.hd hc) _ pa (Nat.ne_of_lt hlt) its.toArray,
    ⟨⟨_,Heap.get?_push_size _ rfl,rfl,rfl⟩,hl.push _⟩,fun i v s' Q' E' hP hQ=>?_,fun h' tk hk=>?_⟩
   ·obtain ⟨b,e,rfl⟩:=hb.get i v (by simpa using hP)
    simp only [e,Option.getD_some] at hQ
    exact wpAny_truthy_bool hQ
   ·have e:((List.range its.toArray.size).all fun i=>(bs[i]?).getD true)=bs.all id:=by
     rw [List.size_toArray,hb.length]; exact LSm.range_all bs
    rw [e]
    exact ⟨.bl _,H,I.kept (LSm.kept_iter hk),rfl,p'.ret RD.mkB hS⟩
 ·cases hz
def tyD (S:Sto):D→Option String
 | .non=>some "NoneType"
 | .bl _=>some "bool"
 | .int _=>some "int"
 | .str _=>some "str"
 | .tup _=>some "tuple"
 | .lst _=>some "list"
 | .fz _=>none
 | .dic _=>some "dict"
 | .ref n=>match S[n]? with
  | some (.lst _)=>some "list"
  | some (.dic _)=>some "dict"
  | _=>none
 | .ty _=>none
 | .exc _=>none
 | .cls _=>none
def fK:List String:=["int","bool","tuple","str","list","dict"]
def gL:Sto→List D→Option D
 | S,[d,.ty T]=>match tyD S d with
  | some t=>if T ∈ fK then some (.bl (t == T || (t == "bool" && T == "int"))) else none
  | none=>none
 | _,_=>none
theorem wm (K:PySem.W.Frag) {t T:String} (ht:t ∈ ["NoneType","bool","int","str","tuple","list","dict"]) (hT:T ∈ fK):PySem.W.kitOne K (.type t) (.type T)=some (t == T || (t == "bool" && T == "int")):=by
 unfold fK at hT
 simp only [List.mem_cons,List.not_mem_nil,or_false] at ht hT
 rcases ht with rfl | rfl | rfl | rfl | rfl | rfl | rfl <;> rcases hT with rfl | rfl | rfl | rfl | rfl | rfl <;> first | rfl | (with_unfolding_all rfl) | (unfold PySem.W.kitOne PySem.W.kitCls; with_unfolding_all decide)
theorem yk {K:PySem.W.Frag} {w:Wd} {H:Hp} {S:Sto} {d:D} {v:V} {t:String} (hS:RS K w H S) (q:RD K w H d v) (h:tyD S d=some t) (hk:∀ a vs,¬ oD K a vs ∨ True):
  (L2.TyOf K H v (.type t) ∨ ∃ a vs,v=.ref a∧t = "tuple"∧oD K a vs)∧t ∈ ["NoneType","bool","int","str","tuple","list","dict"]:=by
 cases d with
 | non=>cases q.non; cases h; exact ⟨.inl .non,by simp⟩
 | bl b=>cases q.bl; cases h; exact ⟨.inl (.bl b),by simp⟩
 | int i=>cases q.int; cases h; exact ⟨.inl (.int i),by simp⟩
 | str x=>cases q.str; cases h; exact ⟨.inl (.str x),by simp⟩
 | tup ds=>
  obtain ⟨p,vs,rfl,z,_⟩:=q.tupI
  cases h
  refine ⟨?_,by simp⟩
  rcases z with z | z
  ·exact .inl (.tup z.1)
  ·exact .inr ⟨p,vs,rfl,rfl,z⟩
 | lst ds=>obtain ⟨p,vs,rfl,z,_⟩:=q.lstI; cases h; exact ⟨.inl (.lst z.1),by simp⟩
 | fz ds=>cases h
 | dic kvs=>unfold RD at q; obtain ⟨p,us,rfl,z,_⟩:=q; cases h; exact ⟨.inl (.dK z.1),by simp⟩
 | ref n=>
  obtain ⟨p,rfl,hp⟩:=q.refI
  unfold tyD at h
  simp only at h
  cases e:S[n]? with
  | none=>rw [e] at h; cases h
  | some o=>
   rw [e] at h
   obtain ⟨p',hp',r⟩:=hS.obj n o e
   rw [hp] at hp'; cases hp'
   cases o with
   | lst a=>cases h; obtain ⟨vs,hv,_⟩:=r; exact ⟨.inl (.lst hv),by simp⟩
   | dic a=>cases h; obtain ⟨vs,hv,_⟩:=r; exact ⟨.inl (.dK hv),by simp⟩
   | fdic a=>cases h
   | ins c fs=>cases h
   | flst a=>cases h
 | ty n=>cases h
 | exc c=>cases h
 | cls c=>cases h
theorem kn:bL X (.builtin "isinstance") (xC X.K E gL):=by
 rintro pins s σ H xs us Q I r ⟨w,S,ds,hS,qs,p⟩
 obtain ⟨z,hz,p'⟩:=p.of
 clear p
 unfold gL at hz
 split at hz
 ·rename_i d T
  split at hz
  ·rename_i t ht
   split at hz
   ·rename_i hT
    cases hz
    obtain ⟨v,u,rfl,q,q'⟩:=qs.two_inv
    unfold RD at q'
    subst q'
    obtain ⟨v1,v2,rfl,rv,rt⟩:=vals2 r
    cases (show v2=Value.type T from rt)
    obtain ⟨ty,hm⟩:=yk hS q ht fun _ _=>.inr trivial
    have kk:=wm X.K hm hT
    rcases ty with ty | ⟨a,vs,rfl,rfl,kt⟩
    ·exact nk I rv ty kk fun tk=>⟨.bl _,H,I.tok tk,rfl,p'.ret RD.mkB hS⟩
    ·cases (show v1=Value.ref a from rv)
     obtain ⟨o,its,n,e,hcl,_⟩:=kt
     exact PySem.W.kia_one PySem.W.kitx_tuple I.kIn ⟨o,I.kIn _ _ e,hcl⟩ kk (fun z=>nomatch z) fun tk=>⟨.bl _,H,I.tok tk,rfl,p'.ret RD.mkB hS⟩
   ·cases hz
  ·cases hz
 ·cases hz
def wo:Sto→D→D→D→Option Sto
 | S,.ref n,.int i,v=>match S[n]? with
  | some (.lst a)=>(ixN a.length i).map fun j=>S.set n (.lst (a.set j v))
  | _=>none
 | _,_,_,_=>none
theorem wq:oj X (xS X.K wo):=by
 rintro pins s σ H o i v ov iv u Q I ro ri ru ⟨w,S,x,y,z,S',hS,qx,qy,qz,hf,k⟩
 unfold wo at hf
 split at hf
 ·rename_i n j
  split at hf
  ·rename_i a hn
   cases e:ixN a.length j with
   | none=>rw [e] at hf; cases hf
   | some m=>
    rw [e] at hf; cases hf
    obtain ⟨p,rfl,hp⟩:=qx.refI
    cases qy.int
    obtain ⟨p',hp',vs,hv,ra⟩:=hS.obj _ _ hn
    rw [hp] at hp'; cases hp'
    have hm:p ∈ w.st:=List.mem_of_getElem? hp
    refine set_list pins s σ H _ _ _ ov iv u Q I ro ri ru ⟨p,vs,j,m,rfl,rfl,hv,by rw [ra.length]; exact e,k w _ (Ext.mut hm hv) ?_⟩
    exact hS.mut hp hv ⟨_,aH,RDs.ext (Ext.mut hm hv) _ _ (RDs.set qz m ra)⟩
  ·cases hf
 ·cases hf
def xM (K:PySem.W.Frag) (E:XK) (f:Sto→D→List D→R D):V→List V→Hp→VK→Prop:=fun x xs H Q=>∃ w S d ds,RS K w H S∧RD K w H d x∧RDs K w H ds xs∧aE K E (RD K) w H (f S d ds) Q
def isL (S:Sto):D→Bool
 | .lst _=>true
 | .fz _=>true
 | .ref n=>match S[n]? with
  | some (.lst _)=>true
  | _=>false
 | _=>false
theorem AW {K:PySem.W.Frag} {w:Wd} {H:Hp} {S:Sto} {d:D} {v:V} (hS:RS K w H S) (q:RD K w H d v) (h:isL S d=true):tyV K "list" v H:=by
 cases d with
 | lst ds=>obtain ⟨p,vs,rfl,z,_⟩:=q.lstI; exact .inl ⟨rfl,vs,SqL.of z.1⟩
 | fz ds=>obtain ⟨p,vs,rfl,z,_⟩:=q.fzI; exact .inl ⟨rfl,vs,z.sq⟩
 | ref n=>
  obtain ⟨p,rfl,hp⟩:=q.refI
  unfold isL at h
  simp only at h
  cases e:S[n]? with
  | none=>rw [e] at h; cases h
  | some o=>
   rw [e] at h
   cases o with
   | lst a=>
    obtain ⟨p',hp',vs,hv,_⟩:=hS.obj n _ e
    rw [hp] at hp'; cases hp'
    exact .inl ⟨rfl,vs,SqL.of hv⟩
   | _=>cases h
 | _=>cases h
def ko (f:Sto→D→List D→R D) (o:EM) (t:AM):EM:=fun r S=>(o r S).bind fun x S1=>if isL S1 x=true then (t r S1).bind fun ys S2=>f S2 x ys else .bad
theorem oQ {o e:Expr} {es:List Expr} {mo:EM} {ms:AM} {name:Str} {apos cpos:Pos} {id:String} {f:Sto→D→List D→R D} (pa:PlainAttrs "list") (slot:Slot "list" name id) (hty:typeOf (.builtin id)=pure (.type "method_descriptor")) (hm:MtR X id (xM X.K E f))
  (ho:SE X E o mo) (ha:SA X E (e :: es) ms) (hbase:autoParam (attributeBase o name X.env (eval o X.env)=eval o X.env) Au.h0._auto_1)
  (hfew:autoParam (((backTo cpos (starEach (e :: es) X.env)).all (fun x=>!x.1) && (backToKw cpos (keywordEach [] X.env)).all (fun x=>x.1.isSome)
   && decide ((e :: es).length + ([]:List Keyword).length + (if ([]:List Keyword).isEmpty then 0 else 1) < 30))=true) Au.h0._auto_1)
  (hline:autoParam ((apos.endLine == cpos.line)=true) Au.h0._auto_1) (hs:autoParam (starEach (e :: es) X.env=(false,eval e X.env) :: starEach es X.env) Au.h0._auto_1) (hplain:autoParam ((backTo cpos (starEach es X.env)).any (·.1)=false) Au.h0._auto_1):
  SE X E (.Call (.Attribute o name apos) (e :: es) [] cpos) (ko f mo ms):=⟨
 bc (Cw pa slot hty hm ho.out ha.out hbase hfew hline hs hplain) fun s H Q zq=>ex6 zq fun w r S hr hS hp=>⟨w,r,S,hr,hS,hp.bind hS fun d S1 w1 H1 v x1 q1 s1 p1=>by
  by_cases hl:isL S1 d=true
  ·rw [if_pos hl] at p1
   exact ⟨AW s1 q1 hl,w1,r,S1,hr.ext x1,s1,p1.bind s1 fun ds S2 w2 H2 us x2 q2 s2 p2=>⟨w2,S2,d,ds,s2,RD.ext x2 _ _ q1,q2,p2⟩⟩
  ·rw [if_neg hl] at p1
   exact p1.elim⟩⟩
def cc:Sto→D→List D→R D
 | S,.ref n,[v]=>match S[n]? with
  | some (.lst a)=>if a.length < sizeLine then .ok .non (S.set n (.lst (a ++ [v]))) else .bad
  | _=>.bad
 | _,_,_=>.bad
theorem i5:MtR X "list.append" (xM X.K E cc):=by
 rintro pins s σ H x xs v us Q I rx rs ⟨w,S,d,ds,hS,qd,qs,p⟩
 unfold cc at p
 split at p
 ·rename_i n y
  split at p
  ·rename_i a hn
   split at p
   ·rename_i hl
    obtain ⟨pp,rfl,hp⟩:=qd.refI
    obtain ⟨yv,rfl,qy⟩:=qs.one_inv
    obtain ⟨p',hp',vs,hv,ra⟩:=hS.obj _ _ hn
    rw [hp] at hp'; cases hp'
    have hm:pp ∈ w.st:=List.mem_of_getElem? hp
    refine ny pins s σ H _ _ v us Q I rx rs ⟨pp,vs,yv,rfl,rfl,hv,by rw [ra.length]; exact hl,p.at (Ext.mut hm hv) (by unfold RD; rfl) ?_⟩
    exact hS.mut hp hv ⟨_,aH,RDs.ext (Ext.mut hm hv) _ _ (ra.append (.cons qy .nil))⟩
   ·exact p.elim
  ·exact p.elim
 ·exact p.elim
end
end PD
namespace PD
open PySem PySem.Spec PyProof.Rows L2
def zy:Sum Int Str→PyData
 | .inl i=>.int i
 | .inr x=>.str x
mutual
def toPy:D→Option PyData
 | .non=>some .none
 | .bl b=>some (.bool b)
 | .int i=>some (.int i)
 | .str x=>some (.str x)
 | .tup ds=>(iJ ds).map .tuple
 | .lst ds=>(iJ ds).map .list
 | .dic kvs=>(lN kvs).map .dict
 | .fz _=>none
 | .ref _=>none
 | .ty _=>none
 | .exc _=>none
 | .cls _=>none
def iJ:List D→Option (List PyData)
 | []=>some []
 | d :: ds=>match toPy d,iJ ds with
  | some p,some q=>some (p :: q)
  | _,_=>none
def lN:List (Sum Int Str × D)→Option (List (PyData × PyData))
 | []=>some []
 | (k,d) :: r=>match toPy d,lN r with
  | some p,some q=>some ((zy k,p) :: q)
  | _,_=>none
end
mutual
def noL:D→Bool
 | .tup ds=>yl ds
 | .lst _=>false
 | .dic kvs=>ym kvs
 | _=>true
def yl:List D→Bool
 | []=>true
 | d :: ds=>noL d && yl ds
def ym:List (Sum Int Str × D)→Bool
 | []=>true
 | (_,d) :: r=>noL d && ym r
end
section
variable {X:Cx} {E:XK}
mutual
theorem gM {pins:List (Addr × Obj)} {σ:L2.St} {H:Hp} {s:Shared} {w:Wd} (I:Inv X pins σ H s):∀ (d:D) (v:V) (u:Value) (p:PyData),RD X.K w H d v→RelV v u→toPy d=some p→∃ as,Reads s.heap u p as∧(noL d=true→sysModules ∉ as)
 | .non,v,u,p,q,r,h=>by cases q.non; cases (show u=Value.none from r); unfold toPy at h; cases h; exact ⟨_,.none,fun _ z=>nomatch z⟩
 | .bl b,v,u,p,q,r,h=>by cases q.bl; cases (show u=Value.bool b from r); unfold toPy at h; cases h; exact ⟨_,.bool b,fun _ z=>nomatch z⟩
 | .int i,v,u,p,q,r,h=>by cases q.int; obtain ⟨t,rfl⟩:=(show ∃ t,u=Value.int i t from r); unfold toPy at h; cases h; exact ⟨_,.int i t,fun _ z=>nomatch z⟩
 | .str x,v,u,p,q,r,h=>by cases q.str; obtain ⟨t,rfl⟩:=(show ∃ t,u=Value.str x t from r); unfold toPy at h; cases h; exact ⟨_,.str x t,fun _ z=>nomatch z⟩
 | .tup ds,v,u,p,q,r,h=>by
  obtain ⟨a,vs,rfl,z,rs⟩:=q.tupI
  cases (show u=Value.ref a from r)
  unfold toPy at h
  cases e:iJ ds with
  | none=>rw [e] at h; cases h
  | some ps=>
   rw [e] at h; cases h
   obtain ⟨its,r1,⟨o,ho,hc,n,hd⟩,_⟩:=I.tuple (cR z)
   obtain ⟨as,ra,hn⟩:=kq I ds vs its ps rs r1 e
   exact ⟨as,.tuple ho hc hd ra,fun z=>hn (by unfold noL at z; exact z)⟩
 | .lst ds,v,u,p,q,r,h=>by
  obtain ⟨a,vs,rfl,z,rs⟩:=q.lstI
  cases (show u=Value.ref a from r)
  unfold toPy at h
  cases e:iJ ds with
  | none=>rw [e] at h; cases h
  | some ps=>
   rw [e] at h; cases h
   obtain ⟨its,r1,⟨o,n,ho,hc,_,hd⟩,_⟩:=I.list (SqL.of z.1)
   obtain ⟨as,ra,hn⟩:=kq I ds vs its ps rs r1 e
   exact ⟨a :: as,.list ho hc hd ra,fun z=>by unfold noL at z; cases z⟩
 | .dic kvs,v,u,p,q,r,h=>by
  unfold RD at q
  obtain ⟨a,us,rfl,z,rk⟩:=q
  cases (show u=Value.ref a from r)
  unfold toPy at h
  cases e:lN kvs with
  | none=>rw [e] at h; cases h
  | some ps=>
   rw [e] at h; cases h
   obtain ⟨_,hsys,vs,kv,o,es,ep,ho,hex,hd,_,hp,_⟩:=(show bG X.prog X.w H s.heap a (.dK us) from I.hok a _ z.1)
   obtain ⟨as,bs,ra,rb,hn⟩:=nE I kvs us vs es.toList ps rk kv hp e
   refine ⟨a :: as ++ bs,.dict ho hex.1 hd ra rb,fun z=>?_⟩
   unfold noL at z
   intro hm
   rcases List.mem_append.mp hm with hm | hm
   ·rcases List.mem_cons.mp hm with hm | hm
    ·rw [← hm] at hsys; simp at hsys
    ·exact (hn z).1 hm
   ·exact (hn z).2 hm
 | .fz _,_,_,_,_,_,h=>by unfold toPy at h; cases h
 | .ref _,_,_,_,_,_,h=>by unfold toPy at h; cases h
 | .ty _,_,_,_,_,_,h=>by unfold toPy at h; cases h
 | .exc _,_,_,_,_,_,h=>by unfold toPy at h; cases h
 | .cls _,_,_,_,_,_,h=>by unfold toPy at h; cases h
theorem kq {pins:List (Addr × Obj)} {σ:L2.St} {H:Hp} {s:Shared} {w:Wd} (I:Inv X pins σ H s):∀ (ds:List D) (vs:List V) (us:List Value) (ps:List PyData),RDs X.K w H ds vs→Vals vs us→iJ ds=some ps→∃ as,ReadsAll s.heap us ps as∧(yl ds=true→sysModules ∉ as)
 | [],vs,us,ps,q,r,h=>by
  rw [q.nil_inv] at r
  cases r
  unfold iJ at h
  cases h
  exact ⟨_,.nil,fun _ z=>nomatch z⟩
 | d :: ds,_,us,ps,q,r,h=>by
  obtain ⟨v,vs,rfl,p,t⟩:=q.cons_inv
  unfold iJ at h
  cases e1:toPy d with
  | none=>rw [e1] at h; cases h
  | some p1=>
   cases e2:iJ ds with
   | none=>rw [e1,e2] at h; cases h
   | some p2=>
    rw [e1,e2] at h; cases h
    cases r with
    | cons r1 r2=>
     obtain ⟨as,ra,h1⟩:=gM I d v _ p1 p r1 e1
     obtain ⟨bs,rb,h2⟩:=kq I ds vs _ p2 t r2 e2
     refine ⟨as ++ bs,.cons ra rb,fun z=>?_⟩
     unfold yl at z
     rw [Bool.and_eq_true] at z
     intro hm
     rcases List.mem_append.mp hm with hm | hm
     ·exact h1 z.1 hm
     ·exact h2 z.2 hm
theorem nE {pins:List (Addr × Obj)} {σ:L2.St} {H:Hp} {s:Shared} {w:Wd} (I:Inv X pins σ H s):∀ (ds:List (Sum Int Str × D)) (us:List (Key × V)) (vs:List (Key × Value)) (es:List DictEntry) (ps:List (PyData × PyData)),RDk X.K w H ds us→KV us vs→Pairs (aP X.prog X.w) es vs→lN ds=some ps→
  ∃ as bs,ReadsAll s.heap (es.map (·.key)) (ps.map (·.1)) as∧ReadsAll s.heap (es.map (·.val)) (ps.map (·.2)) bs∧(ym ds=true→sysModules ∉ as∧sysModules ∉ bs)
 | [],us,vs,es,ps,q,r,hp,h=>by
  unfold RDk at q
  subst q
  cases r
  unfold lN at h
  cases h
  cases hp
  exact ⟨_,_,.nil,.nil,fun _=>⟨(fun z=>nomatch z),(fun z=>nomatch z)⟩⟩
 | (k,d) :: ds,us,vs,es,ps,q,r,hp,h=>by
  unfold RDk at q
  obtain ⟨v,ur,rfl,p,t⟩:=q
  unfold lN at h
  cases e1:toPy d with
  | none=>rw [e1] at h; cases h
  | some p1=>
   cases e2:lN ds with
   | none=>rw [e1,e2] at h; cases h
   | some p2=>
    rw [e1,e2] at h; cases h
    cases r with
    | cons r1 r2=>
     cases hp with
     | cons hk hv hr=>
      rename_i q0 vr e0 es0
      obtain ⟨k',v'⟩:=q0
      obtain ⟨ek,rv⟩:=r1
      have ek':k=k':=ek
      subst ek'
      obtain ⟨as,ra,h1⟩:=gM I d v _ p1 p rv e1
      obtain ⟨as2,bs2,ra2,rb2,h2⟩:=nE I ds ur vr es0 p2 t r2 hr e2
      have hkey:∃ cs,Reads s.heap e0.key (zy k) cs∧cs=[]:=by
       rcases bU hk with ⟨i,tk,z1,z2⟩ | ⟨x,tk,z1,z2⟩
       ·have z1':k=Sum.inl i:=z1
        subst z1'
        rw [z2]
        exact ⟨_,.int i tk,rfl⟩
       ·have z1':k=Sum.inr x:=z1
        subst z1'
        rw [z2]
        exact ⟨_,.str x tk,rfl⟩
      obtain ⟨cs,rc,ec⟩:=hkey
      subst ec
      have hv':e0.val=v':=hv
      refine ⟨[] ++ as2,as ++ bs2,.cons rc ra2,.cons (by show Reads s.heap e0.val p1 as; rw [hv']; exact ra) rb2,fun z=>?_⟩
      unfold ym at z
      rw [Bool.and_eq_true] at z
      refine ⟨by rw [List.nil_append]; exact (h2 z.2).1,fun hm=>?_⟩
      rcases List.mem_append.mp hm with hm | hm
      ·exact h1 z.1 hm
      ·exact (h2 z.2).2 hm
end
end
end PD
namespace PD
open PySem PySem.Spec PyProof.Rows L2
section
variable {K:PySem.W.Frag} {w:Wd} {H:Hp}
structure Mv (w:Wd) (H:Hp) (w2:Wd) (H2:Hp):Prop where
 st:∀ (n:Nat) (a:Addr),w.st[n]?=some a→w2.st[n]?=some a
 at_:∀ a o,At w H a o→At w2 H2 a o
mutual
theorem RD.mv {w2:Wd} {H2:Hp} (x:Mv w H w2 H2):∀ (d:D) (v:V),RD K w H d v→RD K w2 H2 d v
 | .non,_,h=>h
 | .bl _,_,h=>h
 | .int _,_,h=>h
 | .str _,_,h=>h
 | .tup ds,v,h=>by
  unfold RD at h ⊢
  obtain ⟨a,vs,e,p,r⟩:=h
  exact ⟨a,vs,e,p.imp (x.at_ _ _) id,RDs.mv x ds vs r⟩
 | .lst ds,v,h=>by
  unfold RD at h ⊢
  obtain ⟨a,vs,e,p,r⟩:=h
  exact ⟨a,vs,e,x.at_ _ _ p,RDs.mv x ds vs r⟩
 | .fz ds,v,h=>by
  unfold RD at h ⊢
  obtain ⟨a,vs,e,p,r⟩:=h
  exact ⟨a,vs,e,p.imp (fun ⟨o,z⟩=>⟨o,x.at_ _ _ z⟩) id,RDs.mv x ds vs r⟩
 | .dic kvs,v,h=>by
  unfold RD at h ⊢
  obtain ⟨a,us,e,p,r⟩:=h
  exact ⟨a,us,e,x.at_ _ _ p,RDk.mv x kvs us r⟩
 | .ref n,v,h=>by
  unfold RD at h ⊢
  obtain ⟨a,e,p⟩:=h
  exact ⟨a,e,x.st n a p⟩
 | .ty _,_,h=>h
 | .exc c,v,h=>by
  unfold RD at h ⊢
  obtain ⟨a,C,o,e,q,p⟩:=h
  exact ⟨a,C,o,e,q,x.at_ _ _ p⟩
 | .cls _,_,h=>h
theorem RDs.mv {w2:Wd} {H2:Hp} (x:Mv w H w2 H2):∀ (ds:List D) (vs:List V),RDs K w H ds vs→RDs K w2 H2 ds vs
 | [],_,h=>h
 | d :: ds,vs,h=>by
  unfold RDs at h ⊢
  obtain ⟨v,r,e,p,q⟩:=h
  exact ⟨v,r,e,RD.mv x d v p,RDs.mv x ds r q⟩
theorem RDk.mv {w2:Wd} {H2:Hp} (x:Mv w H w2 H2):∀ (ds:List (Sum Int Str × D)) (vs:List (Key × V)),RDk K w H ds vs→RDk K w2 H2 ds vs
 | [],_,h=>h
 | (k,d) :: ds,vs,h=>by
  unfold RDk at h ⊢
  obtain ⟨v,r,e,p,q⟩:=h
  exact ⟨v,r,e,RD.mv x d v p,RDk.mv x ds r q⟩
end
theorem RO.mv {w2:Wd} {H2:Hp} (x:Mv w H w2 H2) {a:Addr} {o:SO} (hk:∀ u,H a=some u→H2 a=some u) (r:RO K w H a o):RO K w2 H2 a o:=by
 cases o with
 | lst ds=>obtain ⟨vs,e,q⟩:=r; exact ⟨vs,hk _ e,RDs.mv x _ _ q⟩
 | dic kvs=>obtain ⟨vs,e,q⟩:=r; exact ⟨vs,hk _ e,RDk.mv x _ _ q⟩
 | fdic kvs=>obtain ⟨o,vs,e,q⟩:=r; exact ⟨o,vs,hk _ e,RDk.mv x _ _ q⟩
 | ins c fs=>obtain ⟨C,dx,us,n,e,q1,q2⟩:=r; exact ⟨C,dx,us,n,hk _ e,q1,RDs.mv x _ _ q2⟩
 | flst ds=>obtain ⟨o,vs,e,q⟩:=r; exact ⟨o,vs,hk _ e,RDs.mv x _ _ q⟩
theorem RSt.mv {w2:Wd} {H2:Hp} {r:Rho} {s:L2.St} (x:Mv w H w2 H2) (h:RSt K w H r s):RSt K w2 H2 r s:=
 ⟨h.1,fun i d e=>let ⟨v,e1,q⟩:=h.2 i d e; ⟨v,e1,RD.mv x d v q⟩⟩
theorem Ext.hide {p:Addr} {o:HO} (hp:H p=none):Ext w H (w.hide p) (upd H p o):=
 ⟨fun a u e _=>by rw [aB (aL e hp)]; exact e,⟨[],by simp [Wd.hide],fun _ z=>nomatch z⟩,fun a h=>List.mem_cons_of_mem _ h,fun a h=>(List.mem_cons.mp h).elim (fun e=>.inr (e ▸ hp)) .inl,fun a o u e=>by rw [aB (aL e hp)]; exact e⟩
def Wd.unhide (w:Wd) (p:Addr):Wd:=⟨w.st,w.hid.filter fun a=>decide (a ≠ p)⟩
theorem Wd.mem_unhide {p a:Addr} (h:a ∈ (w.unhide p).hid):a ∈ w.hid∧a ≠ p:=⟨(List.mem_filter.mp h).1,of_decide_eq_true (List.mem_filter.mp h).2⟩
theorem Mv.write {p:Addr} {o:HO} (hp:p ∈ w.hid):Mv w H w (upd H p o):=
 ⟨fun _ _ z=>z,fun a u h=>⟨by rw [aB (fun z:a=p=>h.2.2 (z ▸ hp))]; exact h.1,h.2⟩⟩
theorem Mv.unhide {p:Addr}:Mv w H (w.unhide p) H:=
 ⟨fun _ _ z=>z,fun a u h=>⟨h.1,h.2.1,fun z=>h.2.2 (Wd.mem_unhide z).1⟩⟩
theorem RS.hide {p:Addr} {o:HO} {S:Sto} (s:RS K w H S) (hp:H p=none):RS K (w.hide p) (upd H p o) S:=by
 refine ⟨s.nd,s.len,fun n so e=>?_,fun a ha=>?_⟩
 ·obtain ⟨a,ha,r⟩:=s.obj n so e
  exact ⟨a,ha,r.ext (Ext.hide hp) fun u z=>by rw [aB (aL z hp)]; exact z⟩
 ·rcases List.mem_cons.mp ha with z | z
  ·subst z; exact ⟨s.freshS hp,o,aH⟩
  ·obtain ⟨h1,u,e⟩:=s.hid a z
   exact ⟨h1,u,by rw [aB (aL e hp)]; exact e⟩
theorem RS.write {p:Addr} {o:HO} {S:Sto} (s:RS K w H S) (hp:p ∈ w.hid):RS K w (upd H p o) S:=by
 have np:=(s.hid p hp).1
 refine ⟨s.nd,s.len,fun n so e=>?_,fun a ha=>?_⟩
 ·obtain ⟨a,ha,r⟩:=s.obj n so e
  have:a ≠ p:=fun z=>np (z ▸ List.mem_of_getElem? ha)
  exact ⟨a,ha,r.mv (Mv.write hp) fun u z=>by rw [aB this]; exact z⟩
 ·obtain ⟨h1,u,e⟩:=s.hid a ha
  by_cases z:a=p
  ·subst z; exact ⟨h1,o,aH⟩
  ·exact ⟨h1,u,by rw [aB z]; exact e⟩
theorem RS.unhide {p:Addr} {S:Sto} (s:RS K w H S):RS K (w.unhide p) H S:=
 ⟨s.nd,s.len,fun n so e=>by
  obtain ⟨a,ha,r⟩:=s.obj n so e
  exact ⟨a,ha,r.mv Mv.unhide fun u z=>z⟩,fun a ha=>s.hid a (Wd.mem_unhide ha).1⟩
theorem yn {r:Rho} {s:L2.St} (k:Nat) (caps:List Nat) (h:RSt K w H r s):RSt K w H (fN k caps r) (lI k caps s):=by
 unfold fN lI
 refine ⟨by simp,fun i d e=>?_⟩
 by_cases hi:i < k
 ·rw [List.getElem?_append_left (by simpa using hi),List.getElem?_replicate] at e
  split at e <;> cases e
 ·rw [List.getElem?_append_right (by simpa using hi),List.getElem?_map,List.length_replicate] at e
  rw [List.getElem?_append_right (by simpa using hi),List.getElem?_map,List.length_replicate]
  cases ec:caps[i - k]? with
  | none=>rw [ec] at e; cases e
  | some j=>
   rw [ec] at e
   have e':(r[j]?).join=some d:=Option.some.inj e
   have hj:r[j]?=some (some d):=by
    cases q:r[j]? with
    | none=>rw [q] at e'; cases e'
    | some o=>rw [q] at e'; rw [show o=some d from e']
   obtain ⟨v,ev,rv⟩:=h.2 j d hj
   exact ⟨v,by show some ((s[j]?).join)=some (some v); rw [ev]; rfl,rv⟩
end
abbrev SIf (X:Cx) (E:XK) (ifs:List Expr) (m:TM):Prop:=Bx (yh X ifs (uT X.K E m))
theorem ef {X:Cx} {E:XK}:SIf X E [] cA:=⟨fun pins s σ H Q I zq=>ex6 zq fun w r S hr hS hp=>v8 pins s σ H Q I (hp.ret rfl hS)⟩
theorem lx {X:Cx} {E:XK} {c:Expr} {m:TM} (h:ST X E c m):SIf X E [c] m:=⟨v9 h.out⟩
theorem wt {qb:Bool} {X:Cx} {E:XK} {elt tg iter:Expr} {ifs:List Expr} {scope:Scope} {pos:Pos} {N:List Str} {k:Nat} {caps:List Nat} {it:AM} {g:G} {mt:TM} {me:EM} (hX:Cd qb X) (hxe:∀ e s,¬ X.xe e s) (C:CompScope X N k caps scope)
  (hi:SIb qb X E tg iter it) (hg:∀ cl s0 H0 ex,Cd qb (cxC X N scope cl s0 H0 ex)→SG (cxC X N scope cl s0 H0 ex) tg g) (ht:∀ cl s0 H0 ex,Cd qb (cxC X N scope cl s0 H0 ex)→SIf (cxC X N scope cl s0 H0 ex) E ifs mt) (he:∀ cl s0 H0 ex,Cd qb (cxC X N scope cl s0 H0 ex)→SE (cxC X N scope cl s0 H0 ex) E elt me)
  (hs:autoParam (∀ x,foldedSetIterable iter X.env x=pure x) Au.h4._auto_1):SE X E (.ListComp elt [⟨tg,iter,ifs,0⟩] scope pos) (bF it k caps g mt me):=⟨
 bc (wa hX hxe C hi.out (g:=uG X.K g) (fun cl s0 H0 ex z=>(hg cl s0 H0 ex z).out) (tt:=uT X.K E mt) (fun cl s0 H0 ex z=>(ht cl s0 H0 ex z).out) (te:=uE X.K E me) (fun cl s0 H0 ex z=>(he cl s0 H0 ex z).out) hs) fun s H Q zq=>ex6 zq fun w r S hr hS hp=>⟨w,r,S,hr,hS,hp.bind hS fun ds S1 w1 H1 J x1 q1 s1 p1=>by
  intro p hp
  have hr1:=hr.ext x1
  have pno:p ∉ w1.hid:=(s1.fresh hp).2
  have hz:ds.length≤sizeLine:=by
   rcases Nat.lt_or_ge sizeLine ds.length with z | z
   ·rw [if_neg (by omega)] at p1; exact p1.elim
   ·exact z
  rw [if_pos hz] at p1
  -- the list is made at p,which is hidden
  refine ⟨fun i n s' H'=>n=ds.length - i∧i≤ds.length∧∃ w' r' S' ys vs,Ext w1 H1 w' H'∧p ∈ w'.hid∧RSt X.K w' H' r' s'∧RS X.K w' H' S'∧H' p=some (.lst vs)∧RDs X.K w' H' ys vs∧ys.length≤i∧
    aE X.K E (RD X.K) w1 H1 ((eV g mt me (ds.drop i) r' S').bind fun zs S2=>R.ok (.lst (ys ++ zs)) S2) Q,
   ⟨ds.length,by simp,Nat.zero_le _,w1.hide p,fN k caps r,S1,[],[],Ext.hide hp,List.mem_cons_self,(yn k caps hr1).ext (Ext.hide hp),s1.hide hp,aH,.nil,Nat.le_refl _,p1⟩,?_⟩
  rintro i n s2 H2 ⟨rfl,hi.out,w2,r2,S2,ys,vs,x2,hph,hr2,hS2,hpv,ry,hyl,hp2⟩
  have hpn:p ∉ w2.st:=(hS2.hid p hph).1
  by_cases hlt:i < ds.length
  ·obtain ⟨go,yld⟩:=(q1 i w2 H2 x2).1 hlt
   refine .inr ⟨go,fun s' H'=>∃ w' r' S' ys vs,Ext w1 H1 w' H'∧p ∈ w'.hid∧RSt X.K w' H' r' s'∧RS X.K w' H' S'∧H' p=some (.lst vs)∧RDs X.K w' H' ys vs∧ys.length≤i + 1∧
     aE X.K E (RD X.K) w1 H1 ((eV g mt me (ds.drop (i + 1)) r' S').bind fun zs S2=>R.ok (.lst (ys ++ zs)) S2) Q,
    fun s' H' hN=>⟨ds.length - (i + 1),by omega,rfl,hlt,hN⟩,fun x H3 hy=>?_⟩
   obtain ⟨gr,rd⟩:=yld x H3 hy
   obtain ⟨d,ed,qd⟩:=rd S2 hS2
   obtain ⟨x3,s3⟩:=p9 gr hS2
   have hdrop:ds.drop i=d :: ds.drop (i + 1):=by
    rw [List.drop_eq_getElem_cons hlt]
    rw [List.getElem?_eq_getElem hlt] at ed
    cases ed; rfl
   rw [hdrop] at hp2
   have hpv3:H3 p=some (.lst vs):=x3.keep _ _ hpv hpn
   have ry3:=RDs.ext x3 _ _ ry
   have x13:Ext w1 H1 w2 H3:=x2.trans' x3 s1 hS2
   unfold eV at hp2
   cases e:g.put d r2 with
   | none=>rw [e] at hp2; exact hp2.elim
   | some r3=>
    rw [e] at hp2
    refine ⟨w2,r2,d,r3,hr2.ext x3,qd,e,fun s4 hr4=>⟨w2,r3,S2,hr4,s3,?_⟩⟩
    -- hp2:(mt r3 S2).bind .. |>.bind ..
    have hass:∀ {A B C:Type} (r:R A) (f:A→Sto→R B) (h:B→Sto→R C),(r.bind f).bind h=r.bind fun a S=>(f a S).bind h:=fun r f h=>by cases r <;> rfl
    simp only [hass] at hp2
    refine aE.bindAt (rel:=RB) hp2 x13 s1 s3 fun c S5 w5 H5 c' x5 q5 s5 p5=>?_
    have ec:c'=c:=q5
    subst ec
    have x15:Ext w1 H1 w5 H5:=x13.trans' x5 s1 s3
    have hph5:p ∈ w5.hid:=x5.hid p hph
    have hpv5:H5 p=some (.lst vs):=x5.keep _ _ hpv3 hpn
    cases c' with
    | false=>
     refine oB ⟨w5,r3,S5,ys,vs,x15,hph5,hr4.ext x5,s5,hpv5,RDs.ext x5 _ _ ry3,Nat.le_succ_of_le hyl,p5⟩
    | true=>
     refine oC ⟨w5,r3,S5,hr4.ext x5,s5,?_⟩
     have p5':aE X.K E (RD X.K) w1 H1 (((me r3 S5).bind fun y S2=>(eV g mt me (ds.drop (i + 1)) r3 S2).bind fun ys S3=>R.ok (y :: ys) S3).bind fun zs S2=>R.ok (D.lst (ys ++ zs)) S2) Q:=p5
     simp only [hass] at p5'
     refine aE.bindAt (rel:=RD X.K) p5' x15 s1 s5 fun y S6 w6 H6 yv x6 q6 s6 p6=>?_
     have x16:Ext w1 H1 w6 H6:=x15.trans' x6 s1 s5
     have hph6:p ∈ w6.hid:=x6.hid p hph5
     have hpn5:p ∉ w5.st:=(s5.hid p hph5).1
     have hpn6:p ∉ w6.st:=(s6.hid p hph6).1
     have hpv6:H6 p=some (.lst vs):=x6.keep _ _ hpv5 hpn5
     have ry6:=RDs.ext x6 _ _ (RDs.ext x5 _ _ ry3)
     refine ⟨vs,hpv6,by rw [ry6.length]; omega,w6,r3,S6,ys ++ [y],vs ++ [yv],⟨fun a o h n=>?_,x16.sub,x16.hid,x16.hnew,fun a o u h=>by have z:=x16.frz a o u h; rw [aB (fun e:a=p=>by rw [e,hpv6] at z; cases z)]; exact z⟩,hph6,(hr4.ext x5).ext x6 |>.mv (Mv.write hph6),s6.write hph6,aH,(RDs.mv (Mv.write hph6) _ _ ry6).append (.cons (RD.mv (Mv.write hph6) _ _ q6) .nil),by simp; omega,?_⟩
     ·have:a ≠ p:=aL h hp
      rw [aB this]; exact x16.keep a o h n
     ·have he2:∀ zs:List D,(ys ++ [y]) ++ zs=ys ++ y :: zs:=fun zs=>by simp
      simp only [he2]
      exact p6
  ·have e:i=ds.length:=by omega
   subst e
   rw [List.drop_length] at hp2
   refine .inl ⟨(q1 _ w2 H2 x2).2 (Nat.le_refl _),?_⟩
   have hp3:aE X.K E (RD X.K) w1 H1 (R.ok (D.lst (ys ++ [])) S2) Q:=hp2
   rw [List.append_nil] at hp3
   refine aE.at hp3 (w1:=w2.unhide p) ⟨x2.keep,x2.sub,fun a h=>List.mem_filter.mpr ⟨x2.hid a h,decide_eq_true fun z=>pno (z ▸ h)⟩,fun a h=>x2.hnew a (Wd.mem_unhide h).1,x2.frz⟩ ?_ hS2.unhide
   unfold RD
   exact ⟨p,vs,rfl,⟨hpv,hpn,fun z=>(Wd.mem_unhide z).2 rfl⟩,RDs.mv Mv.unhide _ _ ry⟩⟩⟩
theorem cB {X:Cx} {E:XK} {elt tg iter:Expr} {ifs:List Expr} {scope:Scope} {pos:Pos} {N:List Str} {k:Nat} {caps:List Nat} {it:AM} {g:G} {mt:TM} {me:EM} (hX:X.calm=true) (hxe:∀ e s,¬ X.xe e s) (C:CompScope X N k caps scope)
  (hi:SI X E tg iter it) (hg:∀ cl s0 H0 ex,SG (cxC X N scope cl s0 H0 ex) tg g) (ht:∀ cl s0 H0 ex,SIf (cxC X N scope cl s0 H0 ex) E ifs mt) (he:∀ cl s0 H0 ex,SE (cxC X N scope cl s0 H0 ex) E elt me)
  (hs:autoParam (∀ x,foldedSetIterable iter X.env x=pure x) Au.h4._auto_1):SE X E (.ListComp elt [⟨tg,iter,ifs,0⟩] scope pos) (bF it k caps g mt me):=wt (qb:=false) (.inl hX) hxe C hi (fun a b c d _=>hg a b c d) (fun a b c d _=>ht a b c d) (fun a b c d _=>he a b c d) hs
end PD
namespace PD
open PySem PySem.Spec PyProof.Rows L2
abbrev KD:=Sum Int Str
def gN:D→Option KD
 | .int i=>some (.inl i)
 | .str x=>some (.inr x)
 | _=>none
def putD (kvs:List (KD × D)) (k:KD) (d:D):List (KD × D):=
 if kvs.any (fun kv=>decide (kv.1=k)) then kvs.map (fun kv=>if kv.1=k then (kv.1,d) else kv) else kvs ++ [(k,d)]
def g7 (kvs more:List (KD × D)):List (KD × D):=more.foldl (fun acc kv=>putD acc kv.1 kv.2) kvs
def kH:List (D × D)→Option (List (KD × D))
 | []=>some []
 | (k,v) :: r=>match gN k,kH r with
  | some k',some r'=>some ((k',v) :: r')
  | _,_=>none
def pM:List (EM × EM)→Rho→Sto→R (List (D × D))
 | [],_,S=>.ok [] S
 | (a,b) :: t,r,S=>(a r S).bind fun x S1=>(b r S1).bind fun y S2=>(pM t r S2).bind fun ps S3=>.ok ((x,y) :: ps) S3
def lO (ms:List (EM × EM)):EM:=fun r S=>(pM ms r S).bind fun ps S1=>match kH ps with
 | some kvs=>if kvs.length≤15 then .ok (.ref S1.length) (S1 ++ [.dic (g7 [] kvs)]) else .bad
 | none=>.bad
section
variable {K:PySem.W.Frag} {w:Wd} {H:Hp}
theorem RDk.nil:RDk K w H [] []:=by unfold RDk; rfl
theorem RDk.cons {k:KD} {d:D} {v:V} {ds:List (KD × D)} {vs:List (Key × V)} (r:RD K w H d v) (q:RDk K w H ds vs):RDk K w H ((k,d) :: ds) ((k,v) :: vs):=by unfold RDk; exact ⟨v,vs,rfl,r,q⟩
theorem RDk.nil_inv {vs:List (Key × V)} (h:RDk K w H [] vs):vs=[]:=by unfold RDk at h; exact h
theorem RDk.cons_inv {k:KD} {d:D} {ds:List (KD × D)} {vs:List (Key × V)} (h:RDk K w H ((k,d) :: ds) vs):∃ v r,vs=(k,v) :: r∧RD K w H d v∧RDk K w H ds r:=by unfold RDk at h; exact h
theorem RDk.append:∀ {ds es:List (KD × D)} {vs us:List (Key × V)},RDk K w H ds vs→RDk K w H es us→RDk K w H (ds ++ es) (vs ++ us)
 | [],_,_,_,h,q=>by rw [h.nil_inv]; exact q
 | (_,_) :: _,_,_,_,h,q=>by
  obtain ⟨v,r,rfl,p,t⟩:=h.cons_inv
  exact .cons p (RDk.append t q)
theorem RDk.any:∀ {ds:List (KD × D)} {vs:List (Key × V)} (k:KD),RDk K w H ds vs→(ds.any fun kv=>decide (kv.1=k))=(vs.any fun kv=>decide (kv.1=k))
 | [],_,_,h=>by rw [h.nil_inv]; rfl
 | (_,_) :: _,_,k,h=>by
  obtain ⟨v,r,rfl,p,t⟩:=h.cons_inv
  rw [List.any_cons,List.any_cons,RDk.any k t]
theorem RDk.repl {d:D} {v:V} (r:RD K w H d v):∀ {ds:List (KD × D)} {vs:List (Key × V)} (k:KD),RDk K w H ds vs→RDk K w H (ds.map fun kv=>if kv.1=k then (kv.1,d) else kv) (vs.map fun kv=>if kv.1=k then (kv.1,v) else kv)
 | [],_,_,h=>by rw [h.nil_inv]; exact .nil
 | (j,_) :: _,_,k,h=>by
  obtain ⟨v',r',rfl,p,t⟩:=h.cons_inv
  simp only [List.map_cons]
  by_cases hj:j=k
  ·rw [if_pos hj,if_pos hj]; exact .cons r (RDk.repl r k t)
  ·rw [if_neg hj,if_neg hj]; exact .cons p (RDk.repl r k t)
theorem RDk.put {ds:List (KD × D)} {vs:List (Key × V)} {d:D} {v:V} (q:RDk K w H ds vs) (k:KD) (r:RD K w H d v):RDk K w H (putD ds k d) (putK vs k v):=by
 unfold putD putK
 rw [q.any k]
 split
 ·exact q.repl r k
 ·exact q.append (.cons r .nil)
theorem RDk.merge:∀ {more:List (KD × D)} {mvs:List (Key × V)} {ds:List (KD × D)} {vs:List (Key × V)},RDk K w H more mvs→RDk K w H ds vs→RDk K w H (g7 ds more) (fm vs mvs)
 | [],_,_,_,h,q=>by rw [h.nil_inv]; exact q
 | (k,d) :: r,_,ds,vs,h,q=>by
  obtain ⟨v',r',rfl,p,t⟩:=h.cons_inv
  show RDk K w H (g7 (putD ds k d) r) (fm (putK vs k v') r')
  exact RDk.merge t (q.put k p)
theorem gj {d:D} {v:V} {k:KD} (q:RD K w H d v) (h:gN d=some k):v=kV k:=by
 cases d with
 | int i=>cases q.int; cases h; rfl
 | str x=>cases q.str; cases h; rfl
 | _=>cases h
def RPs (K:PySem.W.Frag) (w:Wd) (H:Hp):List (D × D)→List (V × V)→Prop
 | [],vs=>vs=[]
 | (a,b) :: r,vs=>∃ x y t,vs=(x,y) :: t∧RD K w H a x∧RD K w H b y∧RPs K w H r t
theorem qh:∀ {ps:List (D × D)} {vs:List (V × V)} {kvs:List (KD × D)},RPs K w H ps vs→kH ps=some kvs→∃ us:List (Key × V),vs=us.map (fun kv=>(kV kv.1,kv.2))∧RDk K w H kvs us
 | [],_,_,h,e=>by
  have h':_=[]:=h
  subst h'
  unfold kH at e
  cases e
  exact ⟨[],rfl,.nil⟩
 | (a,b) :: r,_,kvs,h,e=>by
  obtain ⟨u,v,t,rfl,h1,h2,h3⟩:=h
  unfold kH at e
  cases e1:gN a with
  | none=>rw [e1] at e; cases e
  | some k=>
   cases e2:kH r with
   | none=>rw [e1,e2] at e; cases e
   | some r'=>
    rw [e1,e2] at e; cases e
    obtain ⟨us,rfl,q⟩:=qh h3 e2
    exact ⟨(k,v) :: us,by rw [gj h1 e1]; rfl,.cons h2 q⟩
end
section
variable {X:Cx} {E:XK} {pos:Pos}
def uPs (K:PySem.W.Frag) (E:XK) (ms:List (EM × EM)):List (TE × TE):=ms.map fun p=>(uE K E p.1,uE K E p.2)
theorem zz {A2 B2:Type} {K:PySem.W.Frag} {rel2:Wd→Hp→A2→B2→Prop} {w0:Wd} {H0:Hp} {S0:Sto} {Q:B2→Hp→Prop} (s0:RS K w0 H0 S0):∀ (ms:List (EM × EM)) {w:Wd} {H:Hp} {S:Sto} {r:Rho} {s:L2.St} {f:List (D × D)→Sto→R A2} {Q':List (V × V)→Hp→Prop},RSt K w H r s→RS K w H S→Ext w0 H0 w H→
  aE K E rel2 w0 H0 ((pM ms r S).bind f) Q→(∀ ps S1 w1 H1 vs,Ext w H w1 H1→RPs K w1 H1 ps vs→RS K w1 H1 S1→aE K E rel2 w0 H0 (f ps S1) Q→Q' vs H1)→oz (uPs K E ms) s H Q'
 | [],w,H,S,r,s,f,Q',hr,hS,x,hp,k=>k [] S w H [] (Ext.refl _ _) rfl hS hp
 | (a,b) :: t,w,H,S,r,s,f,Q',hr,hS,x,hp,k=>by
  have hass:∀ {A B C:Type} (r:R A) (f:A→Sto→R B) (h:B→Sto→R C),(r.bind f).bind h=r.bind fun a S=>(f a S).bind h:=fun r f h=>by cases r <;> rfl
  unfold pM at hp
  rw [hass] at hp
  refine ⟨w,r,S,hr,hS,aE.bindAt (rel:=RD K) hp x s0 hS fun d S1 w1 H1 u x1 q1 s1 p1=>?_⟩
  rw [hass] at p1
  have x01:=x.trans' x1 s0 hS
  refine ⟨w1,r,S1,hr.ext x1,s1,aE.bindAt (rel:=RD K) p1 x01 s0 s1 fun e S2 w2 H2 v x2 q2 s2 p2=>?_⟩
  rw [hass] at p2
  have x02:=x01.trans' x2 s0 s1
  exact zz s0 t ((hr.ext x1).ext x2) s2 x02 p2 fun ps S3 w3 H3 vs x3 q3 s3 p3=>
   k ((d,e) :: ps) S3 w3 H3 ((u,v) :: vs) ((x1.trans' x2 hS s1).trans' x3 hS s2) ⟨u,v,vs,rfl,RD.ext x3 _ _ (RD.ext x2 _ _ q1),RD.ext x3 _ _ q2,q3⟩ s3 p3
abbrev SPs (X:Cx) (E:XK) (pos:Pos) (keys:List (Option Expr)) (values:List Expr) (ms:List (EM × EM)):Prop:=Bx (PPs X pos keys values (uPs X.K E ms))
theorem oR:SPs X E pos [] [] []:=⟨yc⟩
theorem lP {k v:Expr} {ks:List (Option Expr)} {vs:List Expr} {mk mv:EM} {ms:List (EM × EM)} (hk:SE X E k mk) (hv:SE X E v mv) (hr:SPs X E pos ks vs ms):SPs X E pos (some k :: ks) (v :: vs) ((mk,mv) :: ms):=⟨vQ hk.out hv.out hr.out⟩
theorem uR {keys:List (Option Expr)} {values:List Expr} {ms:List (EM × EM)} {m:EM} {s:L2.St} {H:Hp} {Q:VK} {fin:List (KD × D)→Sto→R D}
  (hm:∀ r S,m r S=(pM ms r S).bind fun ps S1=>match kH ps with | some kvs=>if kvs.length≤15 then fin kvs S1 else .bad | none=>.bad)
  (hfin:∀ (kvs:List (KD × D)) (us:List (Key × V)) (w0 w:Wd) (H0 H:Hp) (S0 S:Sto) (p:Addr),H0 p=none→RS X.K w0 H0 S0→RS X.K w H S→Ext w0 H0 w H→p ∈ w.hid→RDk X.K w H (g7 [] kvs) (fm [] us)→aE X.K E (RD X.K) w0 H0 (fin kvs S) Q→Q (.ref p) (upd H p (.dK (fm [] us))))
  (h:uE X.K E m s H Q):zr (uPs X.K E ms) s H Q:=by
 obtain ⟨w,r,S,hr,hS,hp⟩:=h
 rw [hm] at hp
 intro p hpn
 refine zz hS ms (hr.ext (Ext.hide hpn)) (hS.hide hpn) (Ext.hide hpn) hp fun ps S1 w1 H1 vs x1 q1 s1 p1=>?_
 have hh:p ∈ w1.hid:=x1.hid p List.mem_cons_self
 have hx:Ext w H w1 H1:=(Ext.hide hpn).trans' x1 hS (hS.hide hpn)
 refine ⟨x1.keep p _ aH ((hS.hide (o:=HO.dK []) hpn).hid p List.mem_cons_self).1,?_⟩
 cases e:kH ps with
 | none=>rw [e] at p1; exact p1.elim
 | some kvs=>
  rw [e] at p1
  obtain ⟨us,rfl,rk⟩:=qh q1 e
  have hl:=rk.length
  by_cases hz:kvs.length≤15
  ·have p2:aE X.K E (RD X.K) w H (if kvs.length≤15 then fin kvs S1 else R.bad) Q:=p1
   rw [if_pos hz] at p2
   exact ⟨us,rfl,by rw [hl]; exact hz,hfin kvs us w w1 H H1 S S1 p hpn hS s1 hx hh (rk.merge .nil) p2⟩
  ·have p2:aE X.K E (RD X.K) w H (if kvs.length≤15 then fin kvs S1 else R.bad) Q:=p1
   rw [if_neg hz] at p2
   exact p2.elim
end
end PD
namespace PD
open PySem PySem.Spec PyProof.Rows L2
def yo (m:AM) (n:Nat):Prop:=∀ r S ds S',m r S=.ok ds S'→ds.length=n
theorem ao:yo ak 0:=fun r S ds S' h=>by unfold ak at h; cases h; rfl
theorem ah {a:EM} {t:AM} {n:Nat} (h:yo t n):yo (ab a t) (n + 1):=fun r S ds S' e=>by
 unfold ab at e
 cases e1:a r S with
 | bad=>rw [e1] at e; cases e
 | err x S1=>rw [e1] at e; cases e
 | ok d S1=>
  rw [e1] at e
  cases e2:t r S1 with
  | bad=>simp only [R.bind_ok,e2,R.bind_bad] at e; cases e
  | err x S2=>simp only [R.bind_ok,e2,R.bind_err] at e; cases e
  | ok es S2=>
   simp only [R.bind_ok,e2] at e
   cases e
   simp [h r S1 es _ e2]
section
variable {X:Cx} {E:XK}
theorem zA {x:Str} {i:Int} {pos:Pos} (hm:∃ t,X.mg x=some (.int i t)) (hg:Gl X x) (hd:autoParam ((x == ("__debug__":Str))=false) Au.h3._auto_1):SE X E (.Name x pos) (eC (.int i)):=by
 obtain ⟨t,e⟩:=hm
 exact yf hg e hd
end
section
variable {P:Program} {w:World} {K:PySem.W.Frag} {mg:Str→Option Value} {base:Heap}
end
def oS (N0 N:List Str) (k:Nat) (scope:Scope):List Nat→Nat→Bool
 | [],_=>true
 | i :: r,t=>(match N0[i]?,N[k + t]? with
  | some x,some y=>x == y && scope.names.lookup x == some .free
  | _,_=>false) && oS N0 N k scope r (t + 1)
theorem lQ {N0 N:List Str} {k:Nat} {scope:Scope}:∀ {caps:List Nat} {t0:Nat},oS N0 N k scope caps t0=true→∀ (t i:Nat),caps[t]?=some i→∃ x,N0[i]?=some x∧N[k + (t0 + t)]?=some x∧scope.names.lookup x=some .free
 | [],_,_,_,_,h=>by simp at h
 | j :: r,t0,h,t,i,e=>by
  unfold oS at h
  rw [Bool.and_eq_true] at h
  cases t with
  | zero=>
   simp at e
   subst e
   have h1:=h.1
   cases e1:N0[j]? with
   | none=>rw [e1] at h1; cases h1
   | some x=>
    cases e2:N[k + t0]? with
    | none=>rw [e1,e2] at h1; cases h1
    | some y=>
     rw [e1,e2] at h1
     simp only [Bool.and_eq_true] at h1
     have hxy:x=y:=eq_of_beq h1.1
     subst hxy
     exact ⟨x,rfl,by simpa using e2,eq_of_beq h1.2⟩
  | succ t=>
   obtain ⟨x,a,b,c⟩:=lQ h.2 t i (by simpa using e)
   exact ⟨x,a,by rw [show t0 + (t + 1)=t0 + 1 + t by omega]; exact b,c⟩
theorem fO {X:Cx} {N:List Str} {k:Nat} {caps:List Nat} {scope:Scope} (h1:scope.kind=.function) (h2:scope.names.all (fun x=>x.2 != .cell)=true) (h3:scope.names.all (fun x=>x.2 != .local || scope.names.lookup x.1 == some .local)=true)
  (h4:scope.names.all (fun x=>x.2 != .free || X.env.kindOf x.1 == some .cell || X.env.kindOf x.1 == some .free)=true) (h5:N.length=k + caps.length) (h6:oS X.N N k scope caps 0=true):CompScope X N k caps scope:=by
 refine ⟨h1,fun x hx z=>?_,fun x hx z=>?_,fun x hx z=>?_,h5,fun t i e=>?_⟩
 ·have:=List.all_eq_true.mp h2 x hx
  rw [z] at this; simp at this
 ·have:=List.all_eq_true.mp h3 x hx
  rw [z] at this
  simpa using this
 ·have:=List.all_eq_true.mp h4 x hx
  rw [z] at this
  simpa using this
 ·obtain ⟨x,a,b,c⟩:=lQ h6 t i e
  exact ⟨x,a,by simpa using b,c⟩
theorem AX {f:FM} (h:∀ ns:List Int,ns.length≤63→∃ S,f [.fz (ns.map .int)] []=.ok (.bl true) S) (K:PySem.W.Frag) (H:Hp) (a:Addr) (ns:List Int) (hn:ns.length≤63) (ho:vT H) (hs:SqL K H a (ns.map V.int)):
  spM K 1 f [.ref a] H (fun v _=>v=.bl true) fun _ _ _=>False:=by
 obtain ⟨S,e⟩:=h ns hn
 have hfz:rM K ⟨[],[]⟩ H a (ns.map V.int):=by
  rcases hs with (hs | ⟨o,hs⟩) | hs
  ·rcases ho a with z | ⟨o,xs,z⟩
   ·rw [z] at hs; cases hs
   ·rw [z] at hs; cases hs
  ·exact .inl ⟨o,hs,(fun z=>nomatch z),(fun z=>nomatch z)⟩
  ·exact .inr hs
 have hints:∀ l:List Int,RDs K ⟨[],[]⟩ H (l.map D.int) (l.map V.int):=fun l=>by
  induction l with
  | nil=>exact .nil
  | cons i l ih=>exact .cons RD.mkI ih
 refine ⟨rfl,⟨[],[]⟩,[],[.fz (ns.map .int)],⟨List.nodup_nil,rfl,fun n o z=>?_,(fun a z=>nomatch z)⟩,.cons (by unfold RD; exact ⟨a,_,rfl,hfz,hints ns⟩) .nil,?_⟩
 ·simp at z
 ·rw [e]
  intro w' H' b x q s
  unfold RD at q
  exact q
end PD
namespace PD
open PySem L2
theorem fq {S:Sto} {i j:Int} (h:cF i ∨ cF j):cf S (.int i) (.int j)=some (.int (i * j)):=if_pos h
theorem oT {S:Sto} {i j:Int} (h:0 < j):oMod S (.int i) (.int j)=some (.int (i % j)):=if_pos h
theorem wx {S:Sto} {i:Nat} (h:i < 1000):oG S (.int 1) (.int i)=some (.int (2 ^ i)):=by
 have:oG S (.int 1) (.int i)=some (.int (1 * 2 ^ ((i:Int)).toNat)):=if_pos ⟨by omega,by omega,by decide⟩
 rw [this,Int.toNat_natCast,Int.one_mul]
theorem AY {S:Sto} {i j:Int} (h:0≤j∧j≤1000000∧i.natAbs < 2 ^ 64):rO S (.int i) (.int j)=some (.int (i ^ j.toNat)):=if_pos h
theorem rP {S:Sto}:rO S (.int 10) (.int 12)=some (.int 1000000000000):=by
 rw [AY ⟨by decide,by decide,by decide⟩]
 have e:(10:Int) ^ (12:Int).toNat=1000000000000:=by decide
 rw [e]
theorem iK {A:Type} {xs:List A} {i:Nat} (h:i < xs.length):atI xs (i:Int)=some xs[i]:=xZ (List.getElem?_eq_getElem h)
end PD
namespace PD
open PySem PyProof.Rows L2
end PD
namespace L2
open PySem PySem.Spec PyProof.Rows
def Fly (l:List Env) (H':Hp) (h hs:Heap) (ea:Addr) (cls:Value):Prop:=
 ∃ (B:Heap) (a0:Value),Heap.FlyingW B l ea cls a0 hs∧(∀ b o,h.get? b=some o→b ∉ frs l→∃ o',B.get? b=some o')∧(∀ b u,H' b=some u→∃ o',B.get? b=some o')∧hs.Zat ea
def CX1 (P:Program) (w:World):CXT:=fun outer H s E e s'=>
 ∃ ea cls H',e=.ref ea∧s'.os=s.os∧AllBare s'.gens∧Un (frs outer) [] H H' s.heap s'.heap∧HOk P w H' s'.heap∧Fly outer H' s.heap s'.heap ea cls∧E cls none H'
section
variable {P:Program} {w:World} {fs:List Addr} {H H':Hp} {h h1 h2 B:Heap} {l:List Env}
end
section
variable {X:Cx} {pins:List (Addr × Obj)} {σ:St} {H:Hp} {s s':Shared} {E:XK} {e:Value}
end
end L2
namespace PD
open PySem PySem.Spec PyProof.Rows L2
section
variable {X:Cx} {E:XK}
end
section
variable {X:Cx} {E:XK} {x:Str} {a:Expr} {es:List Expr} {ms:AM} {np cpos pos:Pos}
end
section
variable {P:Program} {w:World} {K:PySem.W.Frag} {mg:Str→Option Value} {base:Heap} {N:List Str} {qual:Str} {scope:Scope} {f:Addr} {cdv:Value} {A:Around} {outer:List Env} {s:Shared} {H:Hp} {E:XK}
theorem uU {X:Cx}:Passes (CX1 X.prog X.w) X E0:=fun _ _ _ _ _ _ _ zq=>by obtain ⟨_,_,_,_,_,_,_,_,_,z⟩:=zq; exact z.elim
end
def spN (K:PySem.W.Frag) (n:Nat) (f:FM):Sp:=fun vs H Q _=>vs.length=n∧∃ w S ds,RS K w H S∧RDs K w H ds vs∧aE K E0 (RD K) w H (f ds S) Q
structure DefN (P:Program) (w:World) (K:PySem.W.Frag) (mg:Str→Option Value) (base:Heap) (x:Str) (k n:Nat) (f:FM):Prop where
 ex:∃ (fa:Addr) (fd:FuncData) (ps:List Str),mg x=some (.ref fa)∧PySem.W.keepIn K (.ref fa)=true∧Binds K fd ps []∧FnOk P w K mg base (CX1 P w) k fa fd ps (spN K n f)
section
variable {X:Cx} {E:XK} {x:Str} {k n:Nat} {f:FM} {a:Expr} {es:List Expr} {ms:AM} {p pos:Pos}
theorem az (D:DefN X.prog X.w X.K X.mg X.base x k n f) (hr:Room k X.A) (hg:Gl X x) (ha:SA X E0 (a :: es) ms) (hn:yo ms n) (hdb:autoParam ((x == ("__debug__":Str))=false) Au.h3._auto_1)
  (he:autoParam (starEach (a :: es) X.env=(false,eval a X.env) :: starEach es X.env) Au.h0._auto_1) (hpl:autoParam ((backTo pos (starEach es X.env)).any (·.1)=false) Au.h0._auto_1):
  SE X E0 (.Call (.Name x p) (a :: es) [] pos) (au f ms):=by
 obtain ⟨fa,fd,ps,hm,hk,hb,F⟩:=D.ex
 refine ⟨bc (xX F hr hg hm hk hb (dvs:=[]) .nil uU ha.out hdb he hpl) fun s H Q zq=>?_⟩
 obtain ⟨w,r,S,hr,hS,hp⟩:=zq
 refine ⟨w,r,S,hr,hS,?_⟩
 have hp':aE X.K E0 (RD X.K) w H ((ms r S).bind fun xs S1=>f xs S1) Q:=hp
 cases e:ms r S with
 | bad=>rw [e] at hp'; exact hp'.elim
 | err y S'=>rw [e] at hp'; exact hp'
 | ok ds S'=>
  rw [e] at hp'
  intro w1 H1 vs x1 q1 s1
  rw [List.append_nil]
  exact ⟨by rw [q1.length]; exact hn r S ds S' e,w1,S',ds,s1,q1,aE.ext (r:=f ds S') hp' x1 hS s1⟩
end
section
variable {P:Program} {w:World} {K:PySem.W.Frag} {mg:Str→Option Value} {base:Heap}
theorem wy {x qual:Str} {st:Stmt} {f:Addr} {fd:FuncData} {N ps:List Str} {k:Nat} {m:SM} (F:Fun K x qual st f fd) (S:FnScope N ps (defScope st))
  (hbody:∀ (cdv:Value) (A:Around) (outer:List Env) (s:Shared) (H:Hp) (E:XK),Room k (A.deeper (envOfC qual (defScope st) s.heap.objs.size f cdv))→
   SSs (pS (CX1 P w) P w K mg base N qual (defScope st) f cdv A outer s H E).nox E0 (defBody st) m):FnOk P w K mg base (CX1 P w) (k + 1) f fd ps (spN K ps.length (fnM N.length m)):=by
 obtain ⟨oc,od,kV,doc,pm,an,cdv,ct,osl,rfl,lk,hcd⟩:=F.ex
 refine Cp lk hcd S (fun vs H Q E h=>h.1) fun A outer s H vs Q E hr h=>?_
 obtain ⟨hl,u,T,ds,hT,q,p⟩:=h
 refine ⟨_,(hbody cdv A outer s H E hr).out.nox,u,_,T,uM q,hT,?_⟩
 refine aE.bind (rel:=RF K) p hT fun g S1 w1 H1 fv x1 q1 s1 p1=>?_
 cases g with
 | nx r=>obtain ⟨s',rfl,_⟩:=q1; have z:=aE.ret (Q:=Q) (rel:=RD K) (a:=D.non) (b:=V.non) p1 (by unfold RD; rfl) s1; exact z
 | rt d=>obtain ⟨v,rfl,q2⟩:=q1; have z:=aE.ret (Q:=Q) (rel:=RD K) (a:=d) (b:=v) p1 q2 s1; exact z
 | bk r=>exact p1.elim
 | ct r=>exact p1.elim
theorem aF {x:Str} {st:Stmt} {f:Addr} {fd:FuncData} {m:SM} (N ps:List Str) (k k1 n0 n1:Nat) (hk:k1=k + 1) (h0:n0=ps.length) (h1:n1=N.length) (F:Fun K x x st f fd) (hm:mg x=some (.ref f)) (hb:Binds K fd ps []) (S:FnScope N ps (defScope st))
  (hbody:∀ (cdv:Value) (A:Around) (outer:List Env) (s:Shared) (H:Hp) (E:XK),Room k (A.deeper (envOfC x (defScope st) s.heap.objs.size f cdv))→
   SSs (pS (CX1 P w) P w K mg base N x (defScope st) f cdv A outer s H E).nox E0 (defBody st) m):DefN P w K mg base x k1 n0 (fnM n1 m):=by
 subst hk h0 h1
 exact ⟨f,fd,ps,hm,F.kp,hb,wy F S hbody⟩
theorem yp {x:Str} {st:Stmt} {f:Addr} {fd:FuncData} {m:SM} (N ps:List Str) (k k1 n0 n1:Nat) (hk:k1=k + 1) (h0:n0=ps.length) (h1:n1=N.length) (F:Fun K x x st f fd) (S:FnScope N ps (defScope st))
  (hbody:∀ (cdv:Value) (A:Around) (outer:List Env) (s:Shared) (H:Hp) (E:XK),Room k (A.deeper (envOfC x (defScope st) s.heap.objs.size f cdv))→
   SSs (pS (CX1 P w) P w K mg base N x (defScope st) f cdv A outer s H E).nox E0 (defBody st) m):FnOk P w K mg base (CX1 P w) k1 f fd ps (spN K n0 (fnM n1 m)):=by
 subst hk h0 h1
 exact wy F S hbody
end
end PD
namespace L2
open PySem PySem.Spec PyProof.Rows
section
variable {X:Cx} {pins:List (Addr × Obj)} {σ:St} {H:Hp} {s:Shared}
abbrev Cx.with (X:Cx) (p:List (Addr × Obj)) (W:Value→Shared→Prop):Cx:={ X with pn:=p,xe:=W }
end
section
variable {X:Cx} {pins:List (Addr × Obj)} {σ:St} {H H':Hp} {s s':Shared} {B:Heap} {ea:Addr} {cls a0:Value} {h2:Heap}
end
end L2
namespace PD
open PySem PySem.Spec PyProof.Rows L2
section
variable {X:Cx} {E:XK}
end
end PD
namespace L2
open PySem PySem.Spec PyProof.Rows
section
variable {P:Program} {w:World} {K:PySem.W.Frag} {mg:Str→Option Value} {base:Heap}
end
section
variable {X:Cx} {k:Nat} {f:Addr} {fd:FuncData} {ps:List Str} {sp:Sp} {x:Str} {p pos:Pos} {e:Expr} {es:List Expr} {t:TA}
end
end L2
namespace PD
open PySem PySem.Spec PyProof.Rows L2
section
variable {X:Cx} {x:Str} {k n:Nat} {f:FM} {a:Expr} {es:List Expr} {ms:AM} {p pos:Pos}
end
section
variable {P:Program} {w:World} {K:PySem.W.Frag} {mg:Str→Option Value} {base:Heap}
end
end PD
namespace L2
open PySem PySem.Spec PyProof.Rows
section
variable {prog:Program} {w:World} {A:Around} {E:Value→Shared→Prop} {s:Shared} {K:PySem.W.Frag} {ea C:Addr} {ox:Obj} {od:Option Obj}
structure ExK (K:PySem.W.Frag) (C:Addr):Prop where
 ga:PySem.W.findIn K (.ref C) "__getattribute__" = some (some (.builtin "BaseException.__getattribute__"))
 gh:PySem.W.findIn K (.ref C) "__getattr__" = some none
 cl:PySem.W.findIn K (.ref C) "__class__" = some (some (.builtin "object.__class__"))
 bs:PySem.W.mroIn K C (.type "BaseException")=some true
 ob:PySem.W.mroIn K C (.type "object")=some true
 is:(PySem.W.clsIn K C).isSome=true
end
end L2
namespace PD
open PySem PySem.Spec PyProof.Rows L2
structure Cls (K:PySem.W.Frag) (cs ks:List Str) (isa:Str→Str→Bool):Prop where
 gt:PySem.W.specialIn K (.builtin "object.__class__") "__get__" = some (some (.builtin "getset_descriptor.__get__"))
 tk:PySem.W.takesIn K (.builtin "object.__class__")=some true
 ex:∀ c ∈ cs,∃ C,PySem.W.nsIn K mainGlobals c=some (some (.ref C))∧ExK K C∧PySem.W.kitOne K (.ref C) (.type "ValueError")=some true
 isa:∀ c ∈ cs,∀ k ∈ ks,∃ C D,PySem.W.nsIn K mainGlobals c=some (some C)∧PySem.W.nsIn K mainGlobals k=some (some D)∧PySem.W.kitOne K C D=some (isa c k)
section
variable {X:Cx} {E:XK} {cs ks:List Str} {isa:Str→Str→Bool}
end
end PD
namespace PD
open PySem PySem.Spec PyProof.Rows L2
section
variable {X:Cx} {E:XK}
def intsOf:List D→Option (List Int)
 | []=>some []
 | .int b :: r=>(intsOf r).map (b :: ·)
 | _ :: _=>none
def kT:Sto→List D→Option D
 | S,[d]=>match bg S d with
  | some a=>(intsOf a).map fun ns=>.int ns.sum
  | none=>none
 | _,_=>none
theorem qi:∀ {ds:List D} {ns:List Int},intsOf ds=some ns→ns.length=ds.length
 | [],_,h=>by unfold intsOf at h; cases h; rfl
 | d :: ds,ns,h=>by
  cases d with
  | int i=>
   unfold intsOf at h
   cases e:intsOf ds with
   | none=>rw [e] at h; cases h
   | some cs=>rw [e] at h; cases h; simp [qi e]
  | _=>unfold intsOf at h; cases h
theorem oU {K:PySem.W.Frag} {w:Wd} {H:Hp}:∀ {ds:List D} {vs:List V} {us:List Value} {ns:List Int},RDs K w H ds vs→Vals vs us→intsOf ds=some ns→∀ (i:Nat) (v:Value),us[i]?=some v→∃ t,v=.int ((ns[i]?).getD 0) t
 | [],_,_,_,q,r,h,i,v,e=>by
  rw [q.nil_inv] at r
  cases r
  simp at e
 | d :: ds,_,_,ns,q,r,h,i,v,e=>by
  obtain ⟨y,vs,rfl,p,t⟩:=q.cons_inv
  cases d with
  | int b=>
   unfold intsOf at h
   cases e':intsOf ds with
   | none=>rw [e'] at h; cases h
   | some cs=>
    rw [e'] at h; cases h
    cases p.int
    cases r with
    | cons r1 r2=>
     cases i with
     | zero=>
      obtain ⟨t,rfl⟩:=r1
      simp at e
      exact ⟨t,by simp [e]⟩
     | succ i=>
      have z:=oU t r2 e' i v (by simpa using e)
      simpa using z
  | _=>unfold intsOf at h; cases h
theorem iL (ns:List Int):∀ k,k≤ns.length→preSum (fun i=>(ns[i]?).getD 0) k=(ns.take k).sum
 | 0,_=>by simp [preSum]
 | k + 1,h=>by
  have hk:k < ns.length:=h
  show preSum _ k + (ns[k]?).getD 0=_
  rw [iL ns k (Nat.le_of_lt hk),List.take_succ,List.sum_append,List.getElem?_eq_getElem hk]
  simp
theorem oV (hc:X.calm=true):bL X (.builtin "sum") (xC X.K E kT):=by
 rintro pins s σ H xs us Q I r ⟨w,S,ds,hS,qs,p⟩
 obtain ⟨z,hz,p'⟩:=p.of
 clear p
 unfold kT at hz
 split at hz
 ·rename_i d
  cases ea:bg S d with
  | none=>rw [ea] at hz; cases hz
  | some a=>
   rw [ea] at hz
   simp only at hz
   cases e:intsOf a with
   | none=>rw [e] at hz; cases hz
   | some ns=>
    rw [e] at hz; cases hz
    obtain ⟨v,rfl,q⟩:=qs.one_inv
    obtain ⟨pa,vs,rfl,sq,ra⟩:=kl hS q ea
    obtain ⟨u,rfl,ru⟩:=vals1 r
    cases ru
    have hlen:=qi e
    have fin:∀ n,n=ns.length→preSum (fun i=>(ns[i]?).getD 0) n=ns.sum:=fun n hn=>by rw [hn,iL ns _ (Nat.le_refl _),List.take_length]
    rcases sq with sq | sq
    ·obtain ⟨its,r1,⟨o,n,ho,hcl,hdn,hd⟩,_⟩:=I.list sq
     have hlt:pa < s.heap.objs.size:=Heap.lt_size ho
     have hl:s.heap.IsList pa its.toArray:=⟨o,ho,hcl,n,hd⟩
     refine call_sum_walkG (wpAny_pyIter_list hl ?_)
     refine ⟨s.heap.objs.size,[s.heap.objs.size,pa],[s.heap.objs.size],its.toArray.size,_,_,fun i=>(ns[i]?).getD 0,rfl,Walks.list (A:=X.A.in1) (I.ok.hd hc) _ pa (Nat.ne_of_lt hlt) its.toArray,
      ⟨⟨_,Heap.get?_push_size _ rfl,rfl,rfl⟩,hl.push _⟩,fun b hb=>?_,fun i v hP=>oU ra r1 e i v (by simpa using hP),fun h' tk t' hk=>?_⟩
     ·simp only [List.mem_cons,List.not_mem_nil,or_false] at hb
      rw [Heap.size_push]
      rcases hb with rfl | rfl
      ·exact Nat.lt_succ_self _
      ·exact Nat.lt_succ_of_lt hlt
     ·rw [fin _ (by rw [hlen,← ra.length,r1.length]; simp)]
      exact ⟨.int _,H,I.kept (LSm.kept_iter hk),⟨t',rfl⟩,p'.ret RD.mkI hS⟩
    ·obtain ⟨its,r1,⟨o,ho,hcl,n,hd⟩,_⟩:=I.tuple sq
     have hlt:pa < s.heap.objs.size:=Heap.lt_size ho
     have hl:s.heap.IsTuple pa its.toArray:=⟨o,ho,hcl,n,hd⟩
     refine call_sum_walkG (wpAny_pyIter_tuple hl ?_)
     refine ⟨s.heap.objs.size,[s.heap.objs.size,pa],[s.heap.objs.size],its.toArray.size,_,_,fun i=>(ns[i]?).getD 0,rfl,Walks.tuple (A:=X.A.in1) (I.ok.hd hc) _ pa (Nat.ne_of_lt hlt) its.toArray,
      ⟨⟨_,Heap.get?_push_size _ rfl,rfl,rfl⟩,hl.push _⟩,fun b hb=>?_,fun i v hP=>oU ra r1 e i v (by simpa using hP),fun h' tk t' hk=>?_⟩
     ·simp only [List.mem_cons,List.not_mem_nil,or_false] at hb
      rw [Heap.size_push]
      rcases hb with rfl | rfl
      ·exact Nat.lt_succ_self _
      ·exact Nat.lt_succ_of_lt hlt
     ·rw [fin _ (by rw [hlen,← ra.length,r1.length]; simp)]
      exact ⟨.int _,H,I.kept (LSm.kept_iter hk),⟨t',rfl⟩,p'.ret RD.mkI hS⟩
 ·cases hz
end
end PD
namespace PD
open PySem PySem.Spec PyProof.Rows L2
section
variable {X:Cx} {E:XK}
end
end PD
namespace PD
open PySem PySem.Spec PyProof.Rows L2
theorem gk (t:TM) (b:SM):∀ (n k:Nat) (r:Rho) (S:Sto),cD t b n r S ≠ .bad→cD t b (n + k) r S=cD t b n r S
 | 0,k,r,S,h=>absurd rfl h
 | n + 1,k,r,S,h=>by
  rw [show n + 1 + k=(n + k) + 1 by omega]
  unfold cD at h ⊢
  cases e:t r S with
  | bad=>rfl
  | err x S1=>rfl
  | ok c S1=>
   rw [e] at h
   simp only [R.bind_ok] at h ⊢
   cases c with
   | false=>rfl
   | true=>
    simp only [if_true] at h ⊢
    cases e2:b r S1 with
    | bad=>rfl
    | err x S2=>rfl
    | ok f S2=>
     rw [e2] at h
     simp only [R.bind_ok] at h ⊢
     cases f with
     | nx r2=>exact gk t b n k r2 S2 h
     | ct r2=>exact gk t b n k r2 S2 h
     | bk r2=>rfl
     | rt d=>rfl
open Classical in
def sWh (t:TM) (b:SM):SM:=fun r S=>if h:∃ n,cD t b n r S ≠ .bad then cD t b h.choose r S else .bad
theorem AZ {t:TM} {b:SM} {r:Rho} {S:Sto} (n:Nat) (h:cD t b n r S ≠ .bad):sWh t b r S=cD t b n r S:=by
 have hx:∃ n,cD t b n r S ≠ .bad:=⟨n,h⟩
 unfold sWh
 rw [dif_pos hx]
 have hc:=hx.choose_spec
 rcases Nat.le_total n hx.choose with z | z
 ·obtain ⟨k,e⟩:=Nat.exists_eq_add_of_le z
  rw [e]
  exact gk t b n k r S h
 ·obtain ⟨k,e⟩:=Nat.exists_eq_add_of_le z
  have:=gk t b hx.choose k r S hc
  rw [← e] at this
  exact this.symm
section
variable {X:Cx} {E:XK} {c:Expr} {body:List Stmt} {mt:TM} {m:SM} {pos:Pos}
theorem wz (hp:PassesOwn (model X.prog X.w) X.A X.env X.xe) (hc:ST X E c mt) (hb:SSs X E body m):SS X E (.While c body [] pos) (sWh mt m):=⟨
 fD (vF hp hc.out hb.out) fun D s H zq=>ex6 zq fun w r S hr hS hp=>by
  have h0:∃ n,aE X.K E (RF X.K) w H (cD mt m n r S) (FV.to D):=by
   have hp':aE X.K E (RF X.K) w H (sWh mt m r S) (FV.to D):=hp
   unfold sWh at hp'
   split at hp'
   ·exact ⟨_,hp'⟩
   ·exact hp'.elim
  obtain ⟨n0,hp0⟩:=h0
  refine ⟨fun n s' H'=>∃ w' r' S',RSt X.K w' H' r' s'∧RS X.K w' H' S'∧aE X.K E (RF X.K) w' H' (cD mt m n r' S') (FV.to D),⟨n0,w,r,S,hr,hS,hp0⟩,?_⟩
  rintro n s1 H1 ⟨w1,r1,S1,hr1,hS1,hp1⟩
  cases n with
  | zero=>exact hp1.elim
  | succ n=>
   unfold cD at hp1
   refine ⟨w1,r1,S1,hr1,hS1,hp1.bind hS1 fun k S2 w2 H2 v x2 q2 s2 p2=>?_⟩
   have e:v=k:=q2
   subst e
   cases v with
   | false=>exact oB (aE.ret (b:=FV.nx s1) p2 ⟨s1,rfl,hr1.ext x2⟩ s2)
   | true=>
    refine oC ⟨fun s' H'=>∃ w' r' S',RSt X.K w' H' r' s'∧RS X.K w' H' S'∧aE X.K E (RF X.K) w' H' (cD mt m n r' S') (FV.to D),fun s' H' hN=>⟨n,Nat.lt_succ_self n,hN⟩,?_⟩
    simp only [if_true] at p2
    refine ⟨w2,r1,S2,hr1.ext x2,s2,aE.bind (rel:=RF X.K) p2 s2 fun f S5 w5 H5 fv x5 q5 s5 p5=>?_⟩
    cases f with
    | nx r6=>obtain ⟨s6,rfl,q6⟩:=q5; exact ⟨w5,r6,S5,q6,s5,p5⟩
    | ct r6=>obtain ⟨s6,rfl,q6⟩:=q5; exact ⟨w5,r6,S5,q6,s5,p5⟩
    | bk r6=>obtain ⟨s6,rfl,q6⟩:=q5; have z:=aE.ret (Q:=FV.to D) (rel:=RF X.K) (a:=F.nx r6) (b:=FV.nx s6) p5 ⟨s6,rfl,q6⟩ s5; exact z
    | rt d6=>obtain ⟨v6,rfl,q6⟩:=q5; have z:=aE.ret (Q:=FV.to D) (rel:=RF X.K) (a:=F.rt d6) (b:=FV.rt v6) p5 ⟨v6,rfl,q6⟩ s5; exact z⟩
end
end PD
namespace PD
open PySem PySem.Spec PyProof.Rows L2
section
variable {X:Cx} {E:XK}
def eqP (a b:D):Option Bool:=match eqS a b with
 | some c=>some c
 | none=>match toPy a,toPy b with
  | some p,some q=>if SeqAt.shaped p=true∧SeqAt.shaped q=true then some (PyData.eqv p q) else none
  | _,_=>none
def fE:Sto→D→D→Option D:=fun _ a b=>(eqP a b).map .bl
def eu:Sto→D→D→Option D:=fun _ a b=>(eqP a b).map fun c=>.bl (!c)
theorem nF {a b:D} {c:Bool} (h:eqP a b=some c):eqS a b=some c ∨ ∃ p q,toPy a=some p∧toPy b=some q∧SeqAt.shaped p=true∧SeqAt.shaped q=true∧c=PyData.eqv p q:=by
 unfold eqP at h
 split at h
 ·rename_i c' e; cases h; exact .inl e
 ·split at h
  ·rename_i p q e1 e2
   split at h
   ·rename_i hs; cases h; exact .inr ⟨p,q,e1,e2,hs.1,hs.2,rfl⟩
   ·cases h
  ·cases h
theorem g8 {k:Nat} (hr:Room k X.A):OpR X (compareOp .Eq) (xO X.K E fE):=by
 rintro pins s σ H x y v u Q I rx ry ⟨w,S,d,e,hS,qd,qe,p⟩
 obtain ⟨z,hz,p⟩:=p.of
 unfold fE at hz
 cases h:eqP d e with
 | none=>rw [h] at hz; cases hz
 | some c=>
  rw [h] at hz; cases hz
  rcases nF h with h | ⟨a,b,e1,e2,s1,s2,rfl⟩
  ·exact CH pins s σ H x y v u Q I rx ry ⟨w,S,d,e,hS,qd,qe,by unfold oEq; rw [h]; exact p⟩
  ·obtain ⟨as,r1,_⟩:=gM I d x v a qd rx e1
   obtain ⟨bs,r2,_⟩:=gM I e y u b qe ry e2
   exact eq_dataH r1 r2 s1 s2 hr.units ⟨.bl _,H,I,rfl,p.ret RD.mkB hS⟩
theorem dX {k:Nat} (hr:Room k X.A):OpR X (compareOp .NotEq) (xO X.K E eu):=by
 rintro pins s σ H x y v u Q I rx ry ⟨w,S,d,e,hS,qd,qe,p⟩
 obtain ⟨z,hz,p⟩:=p.of
 unfold eu at hz
 cases h:eqP d e with
 | none=>rw [h] at hz; cases hz
 | some c=>
  rw [h] at hz; cases hz
  rcases nF h with h | ⟨a,b,e1,e2,s1,s2,rfl⟩
  ·exact CI pins s σ H x y v u Q I rx ry ⟨w,S,d,e,hS,qd,qe,by unfold oNe; rw [h]; exact p⟩
  ·obtain ⟨as,r1,_⟩:=gM I d x v a qd rx e1
   obtain ⟨bs,r2,_⟩:=gM I e y u b qe ry e2
   exact ne_dataH r1 r2 s1 s2 hr.units ⟨.bl _,H,I,rfl,p.ret RD.mkB hS⟩
end
end PD
namespace PD
open PySem PySem.Spec PyProof.Rows L2
theorem yq {f:FM} (h:∀ ns:List Int,ns.length≤63→∃ S,f [.fz (ns.map .int)] []=.ok (.bl true) S) (K:PySem.W.Frag) (H:Hp) (a:Addr) (ns:List Int) (hn:ns.length≤63) (ho:vT H) (hs:SqL K H a (ns.map V.int)):
  spN K 1 f [.ref a] H (fun v _=>v=.bl true) fun _ _ _=>False:=AX h K H a ns hn ho hs
theorem A1 {P:Program} {w:World} {l:List Env} {H:Hp} {s s':Shared} {e:Value} (h:CX1 P w l H s (fun _ _ _=>False) e s'):False:=by
 obtain ⟨_,_,_,_,_,_,_,_,_,z⟩:=h
 exact z
end PD
namespace SQ
open PySem PySem.Spec PyProof.Rows
open Sem (wp)
def nm:Bool→String
 | true=>"tuple_iterator"
 | false=>"list_iterator"
def Is:Bool→Heap→Addr→Array Value→Prop
 | true,h,a,xs=>h.IsTuple a xs
 | false,h,a,xs=>h.IsList a xs
def It (k:Bool) (h:Heap) (it a:Addr) (i:Nat):Prop:=∃ o,h.get? it=some o∧o.cls=.type (nm k)∧o.data=.fields #[.ref a,.int i 0]
theorem It.move {k:Bool} {h h':Heap} {it a:Addr} {i:Nat} (x:It k h it a i) (q:∀ o,h.get? it=some o→h'.get? it=some o):It k h' it a i:=let ⟨o,e,r⟩:=x; ⟨o,q o e,r⟩
theorem Is.move {k:Bool} {h h':Heap} {a:Addr} {xs:Array Value} (x:Is k h a xs) (q:∀ o,h.get? a=some o→h'.get? a=some o):Is k h' a xs:=by
 cases k with
 | true=>obtain ⟨o,e,r⟩:=x; exact ⟨o,q o e,r⟩
 | false=>obtain ⟨o,e,r⟩:=x; exact ⟨o,q o e,r⟩
theorem Is.obj {k:Bool} {h:Heap} {a:Addr} {xs:Array Value} (x:Is k h a xs):∃ o,h.get? a=some o∧(o.cls=.type "tuple" ∨ o.cls=.type "list")∧∃ n,o.data=.seq xs n:=by
 cases k with
 | true=>obtain ⟨o,e,c,n,d⟩:=x; exact ⟨o,e,.inl c,n,d⟩
 | false=>obtain ⟨o,e,c,n,d⟩:=x; exact ⟨o,e,.inr c,n,d⟩
section
variable {prog:Program} {w:World} {A:Around} {E:Value→Shared→Prop} {s:Shared}
theorem iter {k:Bool} {t:Addr} {items} {Q:Value→Shared→Prop} (ht:Is k s.heap t items)
  (hQ:Q (.ref s.heap.objs.size) { s with heap:=s.heap.push { cls:=.type (nm k),data:=.fields #[.ref t,.int 0 0] } }):wpAny (model prog w) A (pyIter (.ref t)) Q E s:=by
 cases k with
 | true=>exact wpAny_pyIter_tuple ht hQ
 | false=>exact wpAny_pyIter_list ht hQ
theorem wA {it l:Addr} {i:Nat} {items} {x:Value} {Q:Value→Shared→Prop} (hit:s.heap.IsTupleIter it l i) (hl:s.heap.IsTuple l items) (hx:items[i]?=some x)
  (hQ:∀ h',h'.IsTupleIter it l (i + 1)→Heap.SameBut it s.heap h'→Q x { s with heap:=h' }):wpAny (model prog w) A (Builtin.SmallTypes.nextOf (.ref it)) Q E s:=by
 obtain ⟨o,ho,hc,hd⟩:=id hit; obtain ⟨ol,hol,_,nl,hdl⟩:=hl
 unfold Builtin.SmallTypes.nextOf; refine wpAny_bind (wpAny_callSpecial?_slot (name:=Str.ofString "__next__") hit.typeIs F.slot_tuple_iterator_next (wpAny_call_entry F.slot_tuple_iterator_next hit.typeIs F.entry_tuple_iterator_next ?_ (F.args_tuple_iterator_next_1 _)))
 show wpAny _ _ (field (.ref it) 0 >>= _) _ _ s; refine wpAny_bind (wpAny_field ho hd (x:=.ref l) rfl ?_); show wpAny _ _ (if (Value.ref l == Value.none)=true then _ else _) _ _ s
 rw [if_neg (show ¬ ((Value.ref l == Value.none)=true) from Bool.false_ne_true)]; show wpAny _ _ (field (.ref it) 1 >>= _) _ _ s; refine wpAny_bind (wpAny_field ho hd (x:=.int i 0) rfl ?_)
 show wpAny _ _ (seqItems? (.ref l) >>= _) _ _ s; refine wpAny_bind (wpAny_seqItems hol hdl ?_); simp only [Int.toNat_natCast,hx]
 refine wpAny_bind (wpAny_setField ho hd (by simp) (wpAny_pure ⟨x,rfl,wpAny_pure (hQ _ ?_ (Heap.SameBut.update ..))⟩)); exact ⟨_,Heap.get?_update_self _ ho (Obj.isFreed_of_fields (Obj.data_mapFields hd _)),(Obj.cls_mapFields ..).trans hc,by rw [Obj.data_mapFields hd]; simp [rawInt]⟩
theorem yr {it l:Addr} {i:Nat} {items} {Q:Value→Shared→Prop} (hh:A.handled=none) (hit:s.heap.IsTupleIter it l i) (hl:s.heap.IsTuple l items) (hx:items[i]?=none)
  (hE:∀ h' e,Heap.ExtBut it s.heap h'→(∃ o,h'.get? e=some o∧o.cls=.type "StopIteration")→E (.ref e) { s with heap:=h' }):wpAny (model prog w) A (Builtin.SmallTypes.nextOf (.ref it)) Q E s:=by
 obtain ⟨o,ho,hc,hd⟩:=id hit; obtain ⟨ol,hol,_,nl,hdl⟩:=hl
 unfold Builtin.SmallTypes.nextOf; refine wpAny_bind (wpAny_callSpecial?_slot (name:=Str.ofString "__next__") hit.typeIs F.slot_tuple_iterator_next (wpAny_call_entry F.slot_tuple_iterator_next hit.typeIs F.entry_tuple_iterator_next ?_ (F.args_tuple_iterator_next_1 _)))
 show wpAny _ _ (field (.ref it) 0 >>= _) _ _ s; refine wpAny_bind (wpAny_field ho hd (x:=.ref l) rfl ?_); show wpAny _ _ (if (Value.ref l == Value.none)=true then _ else _) _ _ s
 rw [if_neg (show ¬ ((Value.ref l == Value.none)=true) from Bool.false_ne_true)]; show wpAny _ _ (field (.ref it) 1 >>= _) _ _ s; refine wpAny_bind (wpAny_field ho hd (x:=.int i 0) rfl ?_)
 show wpAny _ _ (seqItems? (.ref l) >>= _) _ _ s; refine wpAny_bind (wpAny_seqItems hol hdl ?_); simp only [Int.toNat_natCast,hx]
 refine wpAny_bind (wpAny_rule (wpAny_bind (wpAny_setField ho hd (by simp) ?_))); show wpAny _ _ (newExc (.type "StopIteration") [] >>= _) _ _ _; refine wpAny_bind ?_
 simp only [newExc,newTuple]; refine wpAny_bind (wpAny_newObj_type ?_ (by size_fits)); refine wpAny_bind (m:=firstArgMember _ _) (wpAny_of_eq (a:=Value.none) (by first | rfl | (simp only [firstArgMember]; rfl)) ?_)
 refine wpAny_newObj_type ?_ (by size_fits); simp only [raiseNew]; refine wpAny_bind (wpAny_handled ?_); first | rw [show A.in1.handled=none from hh] | rw [hh]
 refine wpAny_bind (wpAny_pure (wpAny_throw ?_)); exact hE _ _ (((Heap.SameBut.update ..).extBut.push _).push _) ⟨_,Heap.get?_push_size _ rfl,rfl⟩
theorem next {k:Bool} {it l:Addr} {i:Nat} {items} {x:Value} {Q:Value→Shared→Prop} (hit:It k s.heap it l i) (hl:Is k s.heap l items) (hx:items[i]?=some x)
  (hQ:∀ h',It k h' it l (i + 1)→Heap.SameBut it s.heap h'→Q x { s with heap:=h' }):wpAny (model prog w) A (Builtin.SmallTypes.nextOf (.ref it)) Q E s:=by
 cases k with
 | true=>exact wA hit hl hx hQ
 | false=>exact wpAny_nextOf_list_item hit hl hx hQ
theorem ends {k:Bool} {it l:Addr} {i:Nat} {items} {Q:Value→Shared→Prop} (hh:A.handled=none) (hit:It k s.heap it l i) (hl:Is k s.heap l items) (hx:items[i]?=none)
  (hE:∀ h' e,Heap.ExtBut it s.heap h'→(∃ o,h'.get? e=some o∧o.cls=.type "StopIteration")→E (.ref e) { s with heap:=h' }):wpAny (model prog w) A (Builtin.SmallTypes.nextOf (.ref it)) Q E s:=by
 cases k with
 | true=>exact yr hh hit hl hx hE
 | false=>exact wpAny_nextOf_list_end hh hit hl hx hE
structure Apart (z TI TO i1 i2 l1 l2:Addr):Prop where
 a:TI ≠ z∧TO ≠ z∧i1 ≠ z∧i2 ≠ z∧TI ≠ TO∧TI ≠ i1∧TI ≠ i2
 b:TO ≠ i1∧TO ≠ i2∧i1 ≠ i2
 c:l1 ≠ z∧l1 ≠ TO∧l1 ≠ i1∧l1 ≠ i2
 d:l2 ≠ z∧l2 ≠ TO∧l2 ≠ i1∧l2 ≠ i2
theorem sb {t b:Addr} {h h':Heap} {o:Obj} (hs:Heap.SameBut t h h') (n:b ≠ t) (e:h.get? b=some o):h'.get? b=some o:=(hs.2 b n).trans e
theorem wB {k m:Bool} {z TI TO i1 i2 l1 l2:Addr} {k1 k2:Nat} {xs ys:Array Value} {x y a b:Value} {Q:Value→Shared→Prop} (D:Apart z TI TO i1 i2 l1 l2)
  (hz:IsZip s.heap z TI TO .none) (hTI:IsPair s.heap TI (.ref i1) (.ref i2)) (hTO:IsPair s.heap TO a b)
  (h1:It k s.heap i1 l1 k1) (h2:It m s.heap i2 l2 k2) (hl1:Is k s.heap l1 xs) (hl2:Is m s.heap l2 ys) (hx:xs[k1]?=some x) (hy:ys[k2]?=some y)
  (hQ:∀ h',IsZip h' z TI TO (rawInt s.heap.objs.size)→IsPair h' TO x y→It k h' i1 l1 (k1 + 1)→It m h' i2 l2 (k2 + 1)→IsPair h' s.heap.objs.size x y→h'.objs.size=s.heap.objs.size + 1→
   (∀ c o,c ∉ [z,TI,TO,i1,i2]→s.heap.get? c=some o→h'.get? c=some o)→IsPair h' TI (.ref i1) (.ref i2)→Q (.ref s.heap.objs.size) { s with heap:=h' }):
  wpAny (model prog w) A (Builtin.«zip.__next__» ⟨[.ref z],[]⟩) (fun fin s'=>∃ v,fin=.done (.ret v)∧Q v s') E s:=by
 obtain ⟨⟨nTIz,nTOz,n1z,n2z,nTITO,nTI1,nTI2⟩,⟨nTO1,nTO2,n12⟩,⟨p1,p2,p3,p4⟩,⟨q1,q2,q3,q4⟩⟩:=D
 show wpAny _ _ (field (.ref z) 2 >>= _) _ _ _; refine wpAny_bind (wpAny_field hz rfl (x:=.bool false) rfl ?_); show wpAny _ _ (field (.ref z) 3 >>= _) _ _ _
 refine wpAny_bind (wpAny_field hz rfl (x:=.ref TI) rfl ?_); refine wpAny_bind (wpAny_seqItems hTI rfl ?_); show wpAny _ _ (Builtin.SmallTypes.ownedTupleIsFree (.ref z) >>= _) _ _ _
 refine wpAny_bind ?_; unfold Builtin.SmallTypes.ownedTupleIsFree; refine wpAny_bind (wpAny_field hz rfl (x:=.none) rfl (wpAny_pure ?_)); simp only [if_true]
 refine wpAny_bind (wpAny_rule ?_); refine wpAny_bind (wpAny_field hz rfl (x:=.ref TO) rfl ?_); refine wpAny_bind (wpAny_setField_rec hz (by simp) fun h₁ hz₁ s1=>?_)
 replace hz₁:IsZip h₁ z TI TO .ellipsis:=hz₁; refine wpAny_bind ?_; simp only [List.zipIdx_cons,List.zipIdx_nil,List.forIn_cons,List.forIn_nil]
 refine wpAny_bind (wpAny_bind (wpAny_onRaise ?_)); show wpAny _ _ (Builtin.SmallTypes.nextOf (.ref i1) >>= _) _ _ _
 refine wpAny_bind (next (h1.move fun o=>sb s1 n1z) (hl1.move fun o=>sb s1 p1) hx fun h₂ h1₂ s2=>wpAny_pure ?_)
 have hTO₂:IsPair h₂ TO a b:=sb s2 nTO1 (sb s1 nTOz hTO)
 refine wpAny_bind (wpAny_seqItems hTO₂ rfl ?_); refine wpAny_bind (wpAny_updateSeq_pair hTO₂ fun h₃ hTO₃ s3=>?_)
 replace hTO₃:IsPair h₃ TO x b:=hTO₃
 refine wpAny_bind (wpAny_letGo (wpAny_pure ?_)); refine wpAny_bind (wpAny_bind (wpAny_onRaise ?_)); show wpAny _ _ (Builtin.SmallTypes.nextOf (.ref i2) >>= _) _ _ _
 refine wpAny_bind (next (h2.move fun o e=>sb s3 nTO2.symm (sb s2 n12.symm (sb s1 n2z e))) (hl2.move fun o e=>sb s3 q2 (sb s2 q3 (sb s1 q1 e))) hy fun h₄ h2₄ s4=>wpAny_pure ?_)
 have hTO₄:IsPair h₄ TO x b:=sb s4 nTO2 hTO₃
 refine wpAny_bind (wpAny_seqItems hTO₄ rfl ?_); refine wpAny_bind (wpAny_updateSeq_pair hTO₄ fun h₅ hTO₅ s5=>?_)
 replace hTO₅:IsPair h₅ TO x y:=hTO₅
 refine wpAny_bind (wpAny_letGo (wpAny_pure (wpAny_pure ?_))); refine wpAny_bind (wpAny_seqItems hTO₅ rfl ?_); refine wpAny_bind (wpAny_newTuple ?_)
 have hsz:h₅.objs.size=s.heap.objs.size:=by rw [s5.1,s4.1,s3.1,s2.1,s1.1]
 have k5:∀ c o,c ≠ z→c ≠ TO→c ≠ i1→c ≠ i2→s.heap.get? c=some o→h₅.get? c=some o:=fun c o c1 c2 c3 c4 e=>sb s5 c2 (sb s4 c4 (sb s3 c2 (sb s2 c3 (sb s1 c1 e))))
 have hz₅:IsZip h₅ z TI TO .ellipsis:=sb s5 nTOz.symm (sb s4 n2z.symm (sb s3 nTOz.symm (sb s2 n1z.symm hz₁)))
 have h1₅:It k h₅ i1 l1 (k1 + 1):=h1₂.move fun o e=>sb s5 nTO1.symm (sb s4 n12 (sb s3 nTO1.symm e))
 have h2₅:It m h₅ i2 l2 (k2 + 1):=h2₄.move fun o e=>sb s5 nTO2.symm e
 have zlt:z < h₅.objs.size:=Heap.lt_size hz₅
 show wpAny _ _ (Builtin.SmallTypes.ownedTupleHandOut (.ref z) (.ref h₅.objs.size) >>= _) _ _ _; refine wpAny_bind ?_; unfold Builtin.SmallTypes.ownedTupleHandOut
 have hz₆:IsZip (h₅.push { cls:=.type "tuple",data:=.seq #[x,y] }) z TI TO .ellipsis:=Heap.get?_push_of_some _ hz₅
 refine wpAny_bind (wpAny_setField_rec hz₆ (by simp) fun h₇ hz₇ s7=>?_); replace hz₇:IsZip h₇ z TI TO (rawInt h₅.objs.size):=hz₇
 refine wpAny_setField_rec hz₇ (by simp) fun h₈ hz₈ s8=>?_; replace hz₈:IsZip h₈ z TI TO (rawInt h₅.objs.size):=hz₈
 have up:∀ c o,c ≠ z→h₅.get? c=some o→h₈.get? c=some o:=fun c o c1 e=>sb s8 c1 (sb s7 c1 (Heap.get?_push_of_some _ e))
 have hT₈:IsPair h₈ h₅.objs.size x y:=sb s8 (Nat.ne_of_gt zlt) (sb s7 (Nat.ne_of_gt zlt) (Heap.get?_push_size _ rfl))
 have hz8:h₈.objs.size=h₅.objs.size + 1:=by rw [s8.1,s7.1,Heap.size_push]
 rw [hsz] at hz₈ hT₈ hz8; refine wpAny_pure ⟨_,rfl,?_⟩; show Q (.ref h₅.objs.size) _; rw [hsz]
 refine hQ h₈ hz₈ (up _ _ nTOz hTO₅) (h1₅.move fun o e=>up _ o n1z e) (h2₅.move fun o e=>up _ o n2z e) hT₈ hz8 (fun c o hc e=>?_) (up _ _ nTIz (k5 _ _ nTIz nTITO nTI1 nTI2 hTI))
 simp only [List.mem_cons,List.not_mem_nil,or_false,not_or] at hc; exact up c o hc.1 (k5 c o hc.1 hc.2.2.1 hc.2.2.2.1 hc.2.2.2.2 e)
theorem yt {k m:Bool} {z TI TO i1 i2 l1 l2:Addr} {k1 k2:Nat} {xs ys:Array Value} {a b:Value} {Q:Fin→Shared→Prop} (hh:A.handled=none) (D:Apart z TI TO i1 i2 l1 l2)
  (hz:IsZip s.heap z TI TO .none) (hTI:IsPair s.heap TI (.ref i1) (.ref i2)) (hTO:IsPair s.heap TO a b)
  (h1:It k s.heap i1 l1 k1) (h2:It m s.heap i2 l2 k2) (hl1:Is k s.heap l1 xs) (hl2:Is m s.heap l2 ys) (hend:xs[k1]?=none ∨ ys[k2]?=none)
  (hE:∀ h' e,(∀ c o,c ∉ [z,TI,TO,i1,i2]→s.heap.get? c=some o→h'.get? c=some o)→(∃ o,h'.get? e=some o∧o.cls=.type "StopIteration")→E (.ref e) { s with heap:=h' }):
  wpAny (model prog w) A (Builtin.«zip.__next__» ⟨[.ref z],[]⟩) Q E s:=by
 obtain ⟨⟨nTIz,nTOz,n1z,n2z,nTITO,nTI1,nTI2⟩,⟨nTO1,nTO2,n12⟩,⟨p1,p2,p3,p4⟩,⟨q1,q2,q3,q4⟩⟩:=D
 show wpAny _ _ (field (.ref z) 2 >>= _) _ _ _; refine wpAny_bind (wpAny_field hz rfl (x:=.bool false) rfl ?_); show wpAny _ _ (field (.ref z) 3 >>= _) _ _ _
 refine wpAny_bind (wpAny_field hz rfl (x:=.ref TI) rfl ?_); refine wpAny_bind (wpAny_seqItems hTI rfl ?_); show wpAny _ _ (Builtin.SmallTypes.ownedTupleIsFree (.ref z) >>= _) _ _ _
 refine wpAny_bind ?_; unfold Builtin.SmallTypes.ownedTupleIsFree; refine wpAny_bind (wpAny_field hz rfl (x:=.none) rfl (wpAny_pure ?_)); simp only [if_true]
 refine wpAny_bind (wpAny_rule ?_); refine wpAny_bind (wpAny_field hz rfl (x:=.ref TO) rfl ?_); refine wpAny_bind (wpAny_setField_rec hz (by simp) fun h₁ hz₁ s1=>?_)
 replace hz₁:IsZip h₁ z TI TO .ellipsis:=hz₁; refine wpAny_bind ?_; simp only [List.zipIdx_cons,List.zipIdx_nil,List.forIn_cons,List.forIn_nil]
 refine wpAny_bind (wpAny_bind (wpAny_onRaise ?_)); show wpAny _ _ (Builtin.SmallTypes.nextOf (.ref i1) >>= _) _ _ _
 cases hx:xs[k1]? with
 | none=>
  refine wpAny_bind (ends hh (h1.move fun o=>sb s1 n1z) (hl1.move fun o=>sb s1 p1) hx fun h₂ e s2 he=>?_)
  obtain ⟨oe,hoe,hce⟩:=he; have hz₂:IsZip h₂ z TI TO .ellipsis:=s2 _ _ n1z.symm hz₁
  have hez:e ≠ z:=fun x=>by subst x; rw [hz₂] at hoe; cases hoe; simp at hce
  refine wpAny_setField_rec hz₂ (by simp) fun h₃ _ s3=>hE h₃ e (fun c o hc x=>?_) ⟨oe,sb s3 hez hoe,hce⟩
  simp only [List.mem_cons,List.not_mem_nil,or_false,not_or] at hc; exact sb s3 hc.1 (s2 _ _ hc.2.2.2.1 (sb s1 hc.1 x))
 | some x=>
  have hy:ys[k2]?=none:=hend.resolve_left fun h=>by rw [hx] at h; cases h
  refine wpAny_bind (next (h1.move fun o=>sb s1 n1z) (hl1.move fun o=>sb s1 p1) hx fun h₂ h1₂ s2=>wpAny_pure ?_)
  have hTO₂:IsPair h₂ TO a b:=sb s2 nTO1 (sb s1 nTOz hTO)
  refine wpAny_bind (wpAny_seqItems hTO₂ rfl ?_); refine wpAny_bind (wpAny_updateSeq_pair hTO₂ fun h₃ hTO₃ s3=>?_)
  refine wpAny_bind (wpAny_letGo (wpAny_pure ?_)); refine wpAny_bind (wpAny_bind (wpAny_onRaise ?_)); show wpAny _ _ (Builtin.SmallTypes.nextOf (.ref i2) >>= _) _ _ _
  refine wpAny_bind (ends hh (h2.move fun o e=>sb s3 nTO2.symm (sb s2 n12.symm (sb s1 n2z e))) (hl2.move fun o e=>sb s3 q2 (sb s2 q3 (sb s1 q1 e))) hy fun h₄ e s4 he=>?_)
  obtain ⟨oe,hoe,hce⟩:=he; have hz₄:IsZip h₄ z TI TO .ellipsis:=s4 _ _ n2z.symm (sb s3 nTOz.symm (sb s2 n1z.symm hz₁))
  have hez:e ≠ z:=fun x=>by subst x; rw [hz₄] at hoe; cases hoe; simp at hce
  refine wpAny_setField_rec hz₄ (by simp) fun h₅ _ s5=>hE h₅ e (fun c o hc x=>?_) ⟨oe,sb s5 hez hoe,hce⟩
  simp only [List.mem_cons,List.not_mem_nil,or_false,not_or] at hc; exact sb s5 hc.1 (s4 _ _ hc.2.2.2.2 (sb s3 hc.2.2.1 (sb s2 hc.2.2.2.1 (sb s1 hc.1 x))))
theorem zip_next {k m:Bool} {z TI TO i1 i2 l1 l2:Addr} {k1 k2:Nat} {xs ys:Array Value} {x y a b:Value} {Q:Option Value→Shared→Prop} (D:Apart z TI TO i1 i2 l1 l2)
  (hz:IsZip s.heap z TI TO .none) (hTI:IsPair s.heap TI (.ref i1) (.ref i2)) (hTO:IsPair s.heap TO a b)
  (h1:It k s.heap i1 l1 k1) (h2:It m s.heap i2 l2 k2) (hl1:Is k s.heap l1 xs) (hl2:Is m s.heap l2 ys) (hx:xs[k1]?=some x) (hy:ys[k2]?=some y)
  (hQ:∀ h',IsZip h' z TI TO (rawInt s.heap.objs.size)→IsPair h' TO x y→It k h' i1 l1 (k1 + 1)→It m h' i2 l2 (k2 + 1)→IsPair h' s.heap.objs.size x y→h'.objs.size=s.heap.objs.size + 1→
   (∀ c o,c ∉ [z,TI,TO,i1,i2]→s.heap.get? c=some o→h'.get? c=some o)→IsPair h' TI (.ref i1) (.ref i2)→Q (some (.ref s.heap.objs.size)) { s with heap:=h' }):wpAny (model prog w) A (pyNext (.ref z)) Q E s:=by
 have hT:s.TypeIs (.ref z) "zip":=⟨_,hz,rfl⟩; unfold pyNext
 exact wpAny_bind (wpAny_attempt (wpAny_callSpecial?_slot (name:=Str.ofString "__next__") hT F.slot_zip_next (wpAny_call_entry F.slot_zip_next hT F.entry_zip_next (wB D hz hTI hTO h1 h2 hl1 hl2 hx hy fun h' a1 a2 a3 a4 a5 a6 a7 a8=>wpAny_pure (hQ h' a1 a2 a3 a4 a5 a6 a7 a8)) (F.args_zip_next_1 _))))
theorem zip_stop {k m:Bool} {z TI TO i1 i2 l1 l2:Addr} {k1 k2:Nat} {xs ys:Array Value} {a b:Value} {Q:Option Value→Shared→Prop} (hh:A.handled=none) (D:Apart z TI TO i1 i2 l1 l2)
  (hz:IsZip s.heap z TI TO .none) (hTI:IsPair s.heap TI (.ref i1) (.ref i2)) (hTO:IsPair s.heap TO a b)
  (h1:It k s.heap i1 l1 k1) (h2:It m s.heap i2 l2 k2) (hl1:Is k s.heap l1 xs) (hl2:Is m s.heap l2 ys) (hend:xs[k1]?=none ∨ ys[k2]?=none)
  (hQ:∀ h',(∀ c o,c ∉ [z,TI,TO,i1,i2]→s.heap.get? c=some o→h'.get? c=some o)→Q none { s with heap:=h' }):wpAny (model prog w) A (pyNext (.ref z)) Q E s:=by
 have hT:s.TypeIs (.ref z) "zip":=⟨_,hz,rfl⟩; unfold pyNext
 refine wpAny_bind (wpAny_attempt (wpAny_callSpecial?_slot (name:=Str.ofString "__next__") hT F.slot_zip_next (wpAny_call_entry F.slot_zip_next hT F.entry_zip_next (yt hh D hz hTI hTO h1 h2 hl1 hl2 hend fun h' e hk he=>?_) (F.args_zip_next_1 _))))
 obtain ⟨o,ho,hc⟩:=he; refine wpAny_bind (wpAny_isInstance (T:="StopIteration") (b:=true) ⟨o,ho,hc⟩ isSubtype_stop ?_); exact wpAny_pure (hQ _ hk)
end
abbrev z1 (k:Bool) (h:Heap) (l1:Addr):Heap:=h.push { cls:=.type (nm k),data:=.fields #[.ref l1,.int 0 0] }
abbrev z2 (k m:Bool) (h:Heap) (l1 l2:Addr):Heap:=(z1 k h l1).push { cls:=.type (nm m),data:=.fields #[.ref l2,.int 0 0] }
abbrev z3 (k m:Bool) (h:Heap) (l1 l2:Addr):Heap:=(z2 k m h l1 l2).push { cls:=.type "tuple",data:=.seq #[.ref h.objs.size,.ref (z1 k h l1).objs.size] }
abbrev z4 (k m:Bool) (h:Heap) (l1 l2:Addr):Heap:=(z3 k m h l1 l2).push { cls:=.type "tuple",data:=.seq #[.none,.none] }
abbrev z5 (k m:Bool) (h:Heap) (l1 l2:Addr):Heap:=(z4 k m h l1 l2).push { cls:=.type "zip",data:=.fields #[.none,.bool false,.bool false,.ref (z2 k m h l1 l2).objs.size,.ref (z3 k m h l1 l2).objs.size] }
theorem uV (k m:Bool) (l1 l2:Addr) (xs ys:Array Value):
  Meets (Builtin.«zip.__new__» ⟨[.type "zip",.ref l1,.ref l2],[]⟩) (fun _ R s=>Is k s.heap l1 xs∧Is m s.heap l2 ys∧R (.ok (.ret (.ref (z4 k m s.heap l1 l2).objs.size))) { s with heap:=z5 k m s.heap l1 l2 }):=
 .of_wp fun prog w A R s h=>by
  obtain ⟨hp,g,d,tk,os⟩:=s; obtain ⟨hl1,hl2,h⟩:=h; have hsub:=sub_zip
  have hL1:Is k (Shared.heap ⟨hp,g,d,tk,os⟩) l1 xs:=hl1
  have hL2:Is m (Shared.heap ⟨hp.push { cls:=.type (nm k),data:=.fields #[.ref l1,.int 0 0] },g,d,tk,os⟩) l2 ys:=hl2.move fun o e=>Heap.get?_push_of_some _ e
  wp_walk using iter hL1,iter hL2
  exact ⟨_,rfl,h⟩
section
variable {prog:Program} {w:World} {A:Around} {E:Value→Shared→Prop} {s:Shared}
theorem call_zip {k m:Bool} {l1 l2:Addr} {xs ys:Array Value} {Q:Value→Shared→Prop} (hl1:Is k s.heap l1 xs) (hl2:Is m s.heap l2 ys)
  (h:∀ h',IsZip h' (s.heap.objs.size + 4) (s.heap.objs.size + 2) (s.heap.objs.size + 3) .none→IsPair h' (s.heap.objs.size + 2) (.ref s.heap.objs.size) (.ref (s.heap.objs.size + 1))→
   IsPair h' (s.heap.objs.size + 3) .none .none→It k h' s.heap.objs.size l1 0→It m h' (s.heap.objs.size + 1) l2 0→h'.objs.size=s.heap.objs.size + 5→
   (∀ c o,s.heap.get? c=some o→h'.get? c=some o)→Q (.ref (s.heap.objs.size + 4)) { s with heap:=h' }):wpAny (model prog w) A (call (.type "zip") [.ref l1,.ref l2]) Q E s:=by
 refine callType_new F.called_zip (by decide) (F.typeCall_zip_2 _ _) (F.newCall_zip_2 _ _) (fun obj=>F.args_object_init_3 obj _ _) F.entry_zip_new (uV k m l1 l2 xs ys) ⟨hl1,hl2,?_⟩
 have e1:(z1 k s.heap l1).objs.size=s.heap.objs.size + 1:=Heap.size_push ..
 have e2:(z2 k m s.heap l1 l2).objs.size=s.heap.objs.size + 2:=by rw [Heap.size_push,e1]
 have e3:(z3 k m s.heap l1 l2).objs.size=s.heap.objs.size + 3:=by rw [Heap.size_push,e2]
 have e4:(z4 k m s.heap l1 l2).objs.size=s.heap.objs.size + 4:=by rw [Heap.size_push,e3]
 have e5:(z5 k m s.heap l1 l2).objs.size=s.heap.objs.size + 5:=by rw [Heap.size_push,e4]
 have g5:(z5 k m s.heap l1 l2).get? (z4 k m s.heap l1 l2).objs.size=some _:=Heap.get?_push_size _ rfl
 have g4:(z5 k m s.heap l1 l2).get? (z3 k m s.heap l1 l2).objs.size=some _:=Heap.get?_push_of_some _ (Heap.get?_push_size _ rfl)
 have g3:(z5 k m s.heap l1 l2).get? (z2 k m s.heap l1 l2).objs.size=some _:=Heap.get?_push_of_some _ (Heap.get?_push_of_some _ (Heap.get?_push_size _ rfl))
 have g2:(z5 k m s.heap l1 l2).get? (z1 k s.heap l1).objs.size=some _:=Heap.get?_push_of_some _ (Heap.get?_push_of_some _ (Heap.get?_push_of_some _ (Heap.get?_push_size _ rfl)))
 have g1:(z5 k m s.heap l1 l2).get? s.heap.objs.size=some _:=Heap.get?_push_of_some _ (Heap.get?_push_of_some _ (Heap.get?_push_of_some _ (Heap.get?_push_of_some _ (Heap.get?_push_size _ rfl))))
 show _∧_; rw [e2,e3,e4] at g5; rw [e1,e2] at g3; rw [e3] at g4; rw [e1] at g2; rw [e4]
 exact ⟨⟨_,g5,rfl⟩,h _ g5 g3 g4 ⟨_,g1,rfl,rfl⟩ ⟨_,g2,rfl,rfl⟩ e5 fun c o x=>Heap.get?_push_of_some _ (Heap.get?_push_of_some _ (Heap.get?_push_of_some _ (Heap.get?_push_of_some _ (Heap.get?_push_of_some _ x))))⟩
end
theorem rQ (k:Bool) (l:Addr) (items:Array Value) (ob:Obj):
  Meets (Builtin.«enumerate.__new__» ⟨[.type "enumerate",.ref l],[]⟩) (fun _ R s=>Is k s.heap l items∧s.heap.get? l=some ob∧
   R (.ok (.ret (.ref (s.heap.push { cls:=.type (nm k),data:=.fields #[.ref l,.int 0 0] }).objs.size)))
    { s with heap:=(s.heap.push { cls:=.type (nm k),data:=.fields #[.ref l,.int 0 0] }).push { cls:=.type "enumerate",data:=.fields #[.none,.bool false,.ref s.heap.objs.size,rawInt 0,.none,.none] } }):=
 .of_wp fun prog w A R s h=>by
  obtain ⟨hp,g,d,tk,os⟩:=s; obtain ⟨hl,ho,h⟩:=h; have hsub:=sub_enumerate
  have hL:Is k (Shared.heap ⟨hp,g,d,tk,os⟩) l items:=hl
  wp_walk using AutoSeq1.wpAny_loadPart' ho
  refine wpAny_stack_any fun st=>wpAny_pure ?_
  split
  ·rename_i c _ _ _ _ _; cases (c == Value.type "enumerate")
   ·wp_walk using AutoSeq1.wpAny_loadPart' ho,iter hL
    exact ⟨_,rfl,h⟩
   ·wp_walk using AutoSeq1.wpAny_loadPart' ho,iter hL
    exact ⟨_,rfl,h⟩
  ·wp_walk using AutoSeq1.wpAny_loadPart' ho,iter hL
   exact ⟨_,rfl,h⟩
section
variable {prog:Program} {w:World} {A:Around} {E:Value→Shared→Prop} {s:Shared}
theorem call_enum {k:Bool} {l:Addr} {items:Array Value} {Q:Value→Shared→Prop} (hL:Is k s.heap l items)
  (h:∀ h',IsEnum h' (s.heap.objs.size + 1) s.heap.objs.size 0 .none→It k h' s.heap.objs.size l 0→h'.objs.size=s.heap.objs.size + 2→
   (∀ b o,s.heap.get? b=some o→h'.get? b=some o)→Q (.ref (s.heap.objs.size + 1)) { s with heap:=h' }):wpAny (model prog w) A (call (.type "enumerate") [.ref l]) Q E s:=by
 obtain ⟨ob,ho,_,_,_⟩:=hL.obj
 refine callType_new F.called_enumerate (by decide) (F.typeCall_enumerate_1 _) (F.newCall_enumerate_1 _) (fun obj=>F.args_object_init_2 obj _) F.entry_enumerate_new (rQ k l items ob) ⟨hL,ho,?_⟩
 have hz:(s.heap.push { cls:=.type (nm k),data:=.fields #[.ref l,.int 0 0] }).objs.size=s.heap.objs.size + 1:=Heap.size_push ..
 show _∧_; rw [hz]
 have he:IsEnum ((s.heap.push { cls:=.type (nm k),data:=.fields #[.ref l,.int 0 0] }).push { cls:=.type "enumerate",data:=.fields #[.none,.bool false,.ref s.heap.objs.size,rawInt 0,.none,.none] }) (s.heap.objs.size + 1) s.heap.objs.size 0 .none:=by
  have:=Heap.get?_push_size (s.heap.push { cls:=.type (nm k),data:=.fields #[.ref l,.int 0 0] }) (o:={ cls:=.type "enumerate",data:=.fields #[.none,.bool false,.ref s.heap.objs.size,rawInt 0,.none,.none] }) rfl
  rw [hz] at this; exact this
 exact ⟨⟨_,he,rfl⟩,h _ he ⟨_,Heap.get?_push_of_some _ (Heap.get?_push_size _ rfl),rfl,rfl⟩ (by rw [Heap.size_push,hz]) fun b o x=>Heap.get?_push_of_some _ (Heap.get?_push_of_some _ x)⟩
end
theorem draws {prog:Program} {w:World} {A:Around} (k:Bool) (hh:A.handled=none) (it l:Addr) (hne:l ≠ it) (items:Array Value):
  Draws prog w A it [it,l] items.size (fun i v=>items[i]?=some v) (fun i h=>It k h it l i∧Is k h l items) where
 live:=fun _ _ st=>let ⟨o,ho,_⟩:=st.1; ⟨o,ho⟩
 frame:=fun _ _ _ st hk=>⟨st.1.move fun o e=>hk it (by simp) o e,st.2.move fun o e=>hk l (by simp) o e⟩
 item:=fun i s Q E hi st hQ=>next st.1 st.2 (x:=items[i]) (by simp [hi]) fun h' hit' hs'=>hQ _ h' s.toks (by simp [hi]) ⟨hit',st.2.move fun o=>sb hs' hne⟩ hs'
 done:=fun s Q E st hE=>ends hh st.1 st.2 (by simp) hE
end SQ
namespace L2
open PySem PySem.Spec PyProof.Rows
section
variable {X:Cx} {pins:List (Addr × Obj)} {σ:St} {H:Hp} {s:Shared} {h':Heap}
theorem Inv.turnedS {t':Nat} {fp:List Addr} (I:Inv X pins σ H s) (k:∀ b o,b ∉ fp→s.heap.get? b=some o→h'.get? b=some o) (hf:∀ b ∈ fp,FpOk X pins H b):Inv X pins σ H { s with heap:=h',toks:=t' }:=by
 refine I.step (g':=s.gens) (d':=s.drawn) (ch:=fp) (fun b hb=>?_) (fun b o _ _ hc e _=>k b o hc e) (fun b o _ _ hc e _=>⟨o.slots,k b o hc e⟩) (fun _ _ _ _ n=>n)
  (fun b o hc e=>⟨o,k b o hc e⟩) (fun _ _ e=>e) (fun _ _ _ e=>e) (fun b ps e=>⟨#[],by rw [e]; simp⟩) (fun m hm=>?_) (fun b u e=>?_) I.bare
 ·obtain ⟨f0,f1,f2,f3,f4,f5⟩:=hf b hb; exact ⟨f3,f1,f4,f5⟩
 ·obtain ⟨o,es,ep,ho,r⟩:=hm
  exact ⟨o,es,ep,k _ o (fun z=>(hf _ z).2.1 rfl) ho,r⟩
 ·refine (I.hok b u e).stay (fun c v hc q=>k c v (fun z=>?_) q) (fun _ q=>q) fun _ _ q=>q
  have hn:=(hf c z).1
  rcases hc with y | y
  ·rw [y,e] at hn; cases hn
  ·rw [y] at hn; cases hn
theorem Inv.turnedP {t':Nat} {fp:List Addr} {x y:V} {u v:Value} (I:Inv X pins σ H s) (hf:∀ b ∈ fp,FpOk X pins H b) (hlt:∀ b ∈ fp,b < s.heap.objs.size) (rx:RelV x u) (ry:RelV y v)
  (k:∀ b o,b ∉ fp→s.heap.get? b=some o→h'.get? b=some o) (hp:IsPair h' s.heap.objs.size u v):Inv X pins σ (upd H s.heap.objs.size (.tup [x,y])) { s with heap:=h',toks:=t' }:=by
 have I1:Inv X pins σ (upd H s.heap.objs.size (.tup [x,y])) { s with heap:=s.heap.push { cls:=.type "tuple",data:=.seq #[u,v] },toks:=t' }:=
  I.laid (t':=t') (fun b u e=>Heap.get?_push_of_some _ e) (Nat.le_refl _) ⟨by show 2≤sizeLine; decide,[u,v],.cons rx (.cons ry .nil),⟨_,Heap.get?_push_size _ rfl,rfl,_,rfl⟩⟩
 refine Inv.turnedS (s:={ s with heap:=s.heap.push { cls:=.type "tuple",data:=.seq #[u,v] },toks:=t' }) (fp:=fp) (t':=t') (h':=h') I1 (fun b o hb e=>?_) fun b hb=>?_
 ·rcases Heap.get?_push_cases e with ⟨rfl,rfl⟩ | e
  ·exact hp
  ·exact k b o hb e
 ·obtain ⟨f0,f1⟩:=hf b hb
  exact ⟨by rw [aB (Nat.ne_of_lt (hlt b hb))]; exact f0,f1⟩
theorem oW {fp:List Addr} (hf:∀ b ∈ fp,FpOk X pins H b) (hlt:∀ b ∈ fp,b < s.heap.objs.size) {o:HO}:∀ b ∈ fp,upd H s.heap.objs.size o b=none:=fun b hb=>by
 rw [aB (Nat.ne_of_lt (hlt b hb))]; exact (hf b hb).1
end
def SqK (K:PySem.W.Frag):Bool→Hp→Addr→List V→Prop
 | true,H,a,xs=>SqT K H a xs
 | false,H,a,xs=>SqL K H a xs
theorem Inv.sqk {X:Cx} {pins:List (Addr × Obj)} {σ:St} {H:Hp} {s:Shared} {k:Bool} {a:Addr} {xs:List V} (I:Inv X pins σ H s) (h:SqK X.K k H a xs):∃ its:List Value,Vals xs its∧SQ.Is k s.heap a its.toArray∧xs.length≤sizeLine:=by
 cases k with
 | true=>obtain ⟨its,r,p,z⟩:=I.tuple h; exact ⟨its,r,show s.heap.IsTuple a its.toArray from p,z⟩
 | false=>obtain ⟨its,r,p,z⟩:=I.list h; exact ⟨its,r,p.isList,z⟩
theorem Inv.sqk_inj {X:Cx} {pins:List (Addr × Obj)} {σ:St} {H:Hp} {s:Shared} {k:Bool} {a:Addr} {xs ys:List V} (I:Inv X pins σ H s) (h:SqK X.K k H a xs) (h2:SqK X.K k H a ys):xs=ys:=by
 cases k with
 | true=>exact I.tuple_inj h h2
 | false=>exact I.list_inj h h2
def Itz (K:PySem.W.Frag) (k m:Bool) (a b:Addr):It:=
  ⟨fun i H=>∃ xs ys x y,SqK K k H a xs∧SqK K m H b ys∧xs[i]?=some x∧ys[i]?=some y,
   fun i H v H'=>∃ p x y,v=.ref p∧H p=none∧H'=upd H p (.tup [x,y])∧∀ xs ys,SqK K k H a xs→SqK K m H b ys→xs[i]?=some x∧ys[i]?=some y,
   fun i H=>∃ xs ys,SqK K k H a xs∧SqK K m H b ys∧(xs.length≤i ∨ ys.length≤i)⟩
def Ite (K:PySem.W.Frag) (k:Bool) (a:Addr):It:=
  ⟨fun i H=>∃ xs x,SqK K k H a xs∧xs[i]?=some x,
   fun i H v H'=>∃ p x,v=.ref p∧H p=none∧H'=upd H p (.tup [.int i,x])∧∀ xs,SqK K k H a xs→xs[i]?=some x,
   fun i H=>∃ xs,SqK K k H a xs∧xs.length≤i⟩
structure Zst (k m:Bool) (z TI TO i1 i2 a b:Addr) (i:Nat) (h:Heap):Prop where
 hz:IsZip h z TI TO .none
 hTI:IsPair h TI (.ref i1) (.ref i2)
 hTO:∃ u v,IsPair h TO u v
 h1:SQ.It k h i1 a i
 h2:SQ.It m h i2 b i
structure Znd (z TI TO i1 i2:Addr):Prop where
 a:TI ≠ z∧TO ≠ z∧i1 ≠ z∧i2 ≠ z∧TI ≠ TO∧TI ≠ i1∧TI ≠ i2
 b:TO ≠ i1∧TO ≠ i2∧i1 ≠ i2
theorem wC {P:Program} {w:World} {K:PySem.W.Frag} {es:List Expr} {n:Nat} {pos:Pos} {k m:Bool} (z TI TO i1 i2 a b:Addr) (N:Znd z TI TO i1 i2) (na:a ∉ [z,TI,TO,i1,i2]) (nb:b ∉ [z,TI,TO,i1,i2]):
  Turn false P w K (.Tuple es n pos) (Itz K k m a b) [z,TI,TO,i1,i2] z (Zst k m z TI TO i1 i2 a b) where
 mem:=by simp
 obj:=fun i h st c hc=>by
  obtain ⟨hz,hTI,⟨u,v,hTO⟩,⟨o1,e1,c1,d1⟩,⟨o2,e2,c2,d2⟩⟩:=st
  simp only [List.mem_cons,List.not_mem_nil,or_false] at hc
  rcases hc with rfl | rfl | rfl | rfl | rfl
  ·exact ⟨_,hz,fun v z=>by cases z⟩
  ·exact ⟨_,hTI,fun v z=>by cases z⟩
  ·exact ⟨_,hTO,fun v z=>by cases z⟩
  ·exact ⟨_,e1,fun v z=>by rw [d1] at z; cases z⟩
  ·exact ⟨_,e2,fun v z=>by rw [d2] at z; cases z⟩
 keep:=fun i h h' ⟨hz,hTI,⟨u,v,hTO⟩,h1,h2⟩ q=>⟨q z (by simp) _ hz,q TI (by simp) _ hTI,⟨u,v,q TO (by simp) _ hTO⟩,h1.move fun o e=>q i1 (by simp) o e,h2.move fun o e=>q i2 (by simp) o e⟩
 item:=by
  intro X hP hw hK hc i pins s σ H E I hf st hg
  subst hP hw hK
  obtain ⟨xs,ys,x,y,hq,hr,hx,hy⟩:=hg
  obtain ⟨us,ru,pu,_⟩:=I.sqk hq
  obtain ⟨vs,rv,pv,_⟩:=I.sqk hr
  obtain ⟨u,hu,rxu⟩:=ru.get hx
  obtain ⟨v,hv,ryv⟩:=rv.get hy
  obtain ⟨hz,hTI,⟨u0,v0,hTO⟩,h1,h2⟩:=st
  simp only [List.mem_cons,List.not_mem_nil,or_false,not_or] at na nb
  have D:SQ.Apart z TI TO i1 i2 a b:=⟨N.a,N.b,⟨na.1,na.2.2.1,na.2.2.2.1,na.2.2.2.2⟩,⟨nb.1,nb.2.2.1,nb.2.2.2.1,nb.2.2.2.2⟩⟩
  have hlt:∀ c ∈ [z,TI,TO,i1,i2],c < s.heap.objs.size:=fun c hc=>by
   simp only [List.mem_cons,List.not_mem_nil,or_false] at hc
   rcases hc with rfl | rfl | rfl | rfl | rfl
   ·exact Heap.lt_size hz
   ·exact Heap.lt_size hTI
   ·exact Heap.lt_size hTO
   ·obtain ⟨_,e,_⟩:=h1; exact Heap.lt_size e
   ·obtain ⟨_,e,_⟩:=h2; exact Heap.lt_size e
  refine SQ.zip_next D hz hTI hTO h1 h2 pu pv (x:=u) (y:=v) (by simpa using hu) (by simpa using hv) fun h' a1 a2 a3 a4 a5 a6 a7 a8=>⟨_,rfl,?_⟩
  refine wpAny_letOwnedTupleGo_zip (s:={ s with heap:=h' }) a1 fun h2' hz' hs'=>?_
  have up:∀ c o,c ≠ z→h'.get? c=some o→h2'.get? c=some o:=fun c o n e=>SQ.sb hs' n e
  obtain ⟨⟨nTIz,nTOz,n1z,n2z,_⟩,_⟩:=id N
  refine ⟨.ref s.heap.objs.size,_,I.turnedP (t':=s.toks) (h':=h2') hf hlt rxu ryv (fun c o hc e=>up c o (fun q=>hc (by simp [q])) (a7 c o hc e)) (up _ _ (Nat.ne_of_gt (Heap.lt_size hz)) a5),rfl,
   ⟨_,x,y,rfl,I.fresh,rfl,fun xs' ys' q1 q2=>⟨by rw [I.sqk_inj q1 hq]; exact hx,by rw [I.sqk_inj q2 hr]; exact hy⟩⟩,
   ⟨hz',up _ _ nTIz a8,⟨_,_,up _ _ nTOz a2⟩,a3.move fun o e=>up _ o n1z e,a4.move fun o e=>up _ o n2z e⟩,oW hf hlt⟩
 done:=by
  intro X hP hw hK hc i pins s σ H E I hf st hg
  subst hP hw hK
  obtain ⟨xs,ys,hq,hr,hx⟩:=hg
  obtain ⟨us,ru,pu,_⟩:=I.sqk hq
  obtain ⟨vs,rv,pv,_⟩:=I.sqk hr
  obtain ⟨hz,hTI,⟨u0,v0,hTO⟩,h1,h2⟩:=st
  simp only [List.mem_cons,List.not_mem_nil,or_false,not_or] at na nb
  have D:SQ.Apart z TI TO i1 i2 a b:=⟨N.a,N.b,⟨na.1,na.2.2.1,na.2.2.2.1,na.2.2.2.2⟩,⟨nb.1,nb.2.2.1,nb.2.2.2.1,nb.2.2.2.2⟩⟩
  have l1:=ru.length
  have l2:=rv.length
  refine SQ.zip_stop (I.ok.hd hc.cm) D hz hTI hTO h1 h2 pu pv (hx.imp (fun q=>by simp; omega) fun q=>by simp; omega) fun h' kk=>⟨rfl,I.turnedS (t':=s.toks) kk hf⟩
 self:=fun _ _ _ _ _ st h=>wpAny_pyIter_zip st.hz h
structure Est (k:Bool) (e it a:Addr) (i:Nat) (h:Heap):Prop where
 he:∃ old,IsEnum h e it i old
 h1:SQ.It k h it a i
theorem uW {P:Program} {w:World} {K:PySem.W.Frag} {es:List Expr} {n:Nat} {pos:Pos} {k:Bool} (e it a:Addr) (ne:e ≠ it) (na:a ≠ e∧a ≠ it):
  Turn false P w K (.Tuple es n pos) (Ite K k a) [e,it] e (Est k e it a) where
 mem:=by simp
 obj:=fun i h st c hc=>by
  obtain ⟨⟨old,he⟩,⟨o1,e1,c1,d1⟩⟩:=st
  simp only [List.mem_cons,List.not_mem_nil,or_false] at hc
  rcases hc with rfl | rfl
  ·exact ⟨_,he,fun v z=>by cases z⟩
  ·exact ⟨_,e1,fun v z=>by rw [d1] at z; cases z⟩
 keep:=fun i h h' ⟨⟨old,he⟩,h1⟩ q=>⟨⟨old,q e (by simp) _ he⟩,h1.move fun o x=>q it (by simp) o x⟩
 item:=by
  intro X hP hw hK hc i pins s σ H E I hf st hg
  subst hP hw hK
  obtain ⟨xs,x,hq,hx⟩:=hg
  obtain ⟨us,ru,pu,_⟩:=I.sqk hq
  obtain ⟨u,hu,rxu⟩:=ru.get hx
  obtain ⟨⟨old,he⟩,h1⟩:=st
  have hlt:∀ c ∈ [e,it],c < s.heap.objs.size:=fun c hc=>by
   simp only [List.mem_cons,List.not_mem_nil,or_false] at hc
   rcases hc with rfl | rfl
   ·exact Heap.lt_size he
   ·obtain ⟨_,e,_⟩:=h1; exact Heap.lt_size e
  have hi:i < us.toArray.size:=by
   have:=(List.getElem?_eq_some_iff.mp hu).1
   simpa using this
  have D:=SQ.draws (prog:=X.prog) (w:=X.w) (A:=X.A.in1) k (I.ok.hd hc.cm) it a na.2 us.toArray
  refine wpAny_pyNext_enum_itemD D he ⟨h1,pu⟩ hi ne (by simp [ne,Ne.symm na.1]) fun y h' tk hy a1 a2 a3 a4 a5=>⟨_,rfl,?_⟩
  have ey:y=u:=by simpa [hu] using hy.symm
  subst ey
  refine wpAny_letOwnedTupleGo_enum (s:={ s with heap:=h',toks:=tk + 1 }) a1 fun h2' hz' hs'=>?_
  have up:∀ c o,c ≠ e→h'.get? c=some o→h2'.get? c=some o:=fun c o n q=>SQ.sb hs' n q
  refine ⟨.ref s.heap.objs.size,_,Inv.turnedP (s:=s) (t':=tk + 1) (h':=h2') (x:=.int i) (u:=.int i tk) I hf hlt ⟨tk,rfl⟩ rxu (fun c o hc q=>up c o (fun r=>hc (by simp [r])) (a5 c o (fun r=>hc (by simp [r])) (fun r=>hc (by simp [r])) q)) (up _ _ (Nat.ne_of_gt (Heap.lt_size he)) a3),rfl,
   ⟨_,x,rfl,I.fresh,rfl,fun xs' q1=>by rw [I.sqk_inj q1 hq]; exact hx⟩,
   ⟨⟨y,by simpa using hz'⟩,a2.1.move fun o q=>up _ o (Ne.symm ne) q⟩,oW hf hlt⟩
 done:=by
  intro X hP hw hK hc i pins s σ H E I hf st hg
  subst hP hw hK
  obtain ⟨xs,hq,hx⟩:=hg
  obtain ⟨us,ru,pu,_⟩:=I.sqk hq
  obtain ⟨⟨old,he⟩,h1⟩:=st
  have l1:=ru.length
  have hT:s.TypeIs (.ref e) "enumerate":=⟨_,he,rfl⟩
  unfold pyNext
  refine wpAny_bind (wpAny_attempt (wpAny_callSpecial?_slot (name:=Str.ofString "__next__") hT F.slot_enumerate_next (wpAny_call_entry F.slot_enumerate_next hT F.entry_enumerate_next ?_ (F.args_enumerate_next_1 _))))
  show wpAny _ _ (field (.ref e) 2 >>= _) _ _ _; refine wpAny_bind (wpAny_field he rfl (x:=.ref it) rfl ?_)
  refine wpAny_bind (SQ.ends (I.ok.hd hc.cm) h1 pu (by simp; omega) fun h' x he' hx'=>?_)
  obtain ⟨o,ho,hcl⟩:=hx'; refine wpAny_bind (wpAny_isInstance (T:="StopIteration") (b:=true) ⟨o,ho,hcl⟩ isSubtype_stop ?_)
  exact wpAny_pure ⟨rfl,I.turnedS (t':=s.toks) (fun b o hb q=>he' b o (fun r=>hb (by simp [r])) q) hf⟩
 self:=fun _ _ _ _ _ st h=>let ⟨⟨_,he⟩,_⟩:=st; wpAny_pyIter_enum he h
end L2
namespace L2
open PySem PySem.Spec PyProof.Rows
section
variable {X:Cx} {es:List Expr} {n:Nat} {tp:Pos}
theorem boot_zip:bootBuiltins "zip" = some (.type "zip"):=by decide +kernel
theorem boot_enumerate:bootBuiltins "enumerate" = some (.type "enumerate"):=by decide +kernel
theorem A3 (n:Nat):Znd (n + 4) (n + 2) (n + 3) n (n + 1):=by
 have h:((n + 2 ≠ n + 4∧n + 3 ≠ n + 4∧n ≠ n + 4∧n + 1 ≠ n + 4∧n + 2 ≠ n + 3∧n + 2 ≠ n∧n + 2 ≠ n + 1)∧(n + 3 ≠ n∧n + 3 ≠ n + 1∧n ≠ n + 1)):=by omega
 exact ⟨h.1,h.2⟩
theorem nG (n a:Nat) (h:a < n):a ∉ [n + 4,n + 2,n + 3,n,n + 1]:=by
 intro hc
 simp only [List.mem_cons,List.not_mem_nil,or_false] at hc
 omega
theorem nH (n c:Nat) (hc:c ∈ [n + 4,n + 2,n + 3,n,n + 1]):n≤c:=by
 simp only [List.mem_cons,List.not_mem_nil,or_false] at hc
 omega
theorem sT (n a:Nat) (h:a < n):(n + 1 ≠ n)∧a ≠ n + 1∧a ≠ n:=by omega
theorem lR (n c:Nat) (hc:c ∈ [n + 1,n]):n≤c:=by
 simp only [List.mem_cons,List.not_mem_nil,or_false] at hc
 omega
def Dp (K:PySem.W.Frag) (ta:TA):TI:=fun σ H R=>ta σ H fun vs H1=>∃ a b k m,vs=[.ref a,.ref b]∧(∃ xs,SqK K k H1 a xs)∧(∃ ys,SqK K m H1 b ys)∧R (Itz K k m a b) H1
def CJ (K:PySem.W.Frag) (ta:TA):TI:=fun σ H R=>ta σ H fun vs H1=>∃ a k,vs=[.ref a]∧(∃ xs,SqK K k H1 a xs)∧R (Ite K k a) H1
theorem A4 {a b:Expr} {ta:TA} {p pos:Pos} (hg:Gl X "zip") (hm:X.mg "zip" = none) (ha:PA X [a,b] ta) (hs:autoParam (starEach [a,b] X.env=[(false,eval a X.env),(false,eval b X.env)]) Au.h0._auto_1) (hs2:autoParam (starEach [b] X.env=[(false,eval b X.env)]) Au.h0._auto_1):
  PI X (.Tuple es n tp) (.Call (.Name "zip" p) [a,b] [] pos) (Dp X.K ta):=by
 intro pins s σ H R I h
 refine Call_ (iB I hg hm boot_zip (PyProof.Rows.callWith_type1 (thn (ha pos pins s σ H _ I h) fun us s1 zq=>?_) (by rw [hs,hs2]) (by rw [hs2]; rfl)))
 obtain ⟨vs,H1,I1,r1,q1⟩:=zq
 obtain ⟨a,b,k,m,e,⟨xs,hx⟩,⟨ys,hy⟩,q⟩:=q1
 subst e
 cases r1 with
 | cons r rr=>
  cases rr with
  | cons r' rr=>
   cases rr
   cases r
   cases r'
   obtain ⟨us,ru,pu,_⟩:=I1.sqk hx
   obtain ⟨vs,rv,pv,_⟩:=I1.sqk hy
   refine SQ.call_zip pu pv fun h' a1 a2 a3 a4 a5 a6 a7=>?_
   have I2:Inv X pins σ H1 { s1 with heap:=h' }:=I1.kept (t':=s1.toks) a7
   obtain ⟨oa,ea,_⟩:=pu.obj
   obtain ⟨ob,eb,_⟩:=pv.obj
   have la:=Heap.lt_size ea
   have lb:=Heap.lt_size eb
   refine wpAny_pyIter_zip (s:={ s1 with heap:=h' }) a1 ⟨_,[s1.heap.objs.size + 4,s1.heap.objs.size + 2,s1.heap.objs.size + 3,s1.heap.objs.size,s1.heap.objs.size + 1],_,_,H1,rfl,I2,
    wC (k:=k) (m:=m) _ _ _ _ _ a b (A3 _) (nG _ a la) (nG _ b lb),⟨a1,a2,⟨_,_,a3⟩,a4,a5⟩,fun c hc=>?_,q⟩
   exact I1.fpOk (nH _ c hc) (I1.hok.fresh (nH _ c hc))
theorem yu {a:Expr} {ta:TA} {p pos:Pos} (hg:Gl X "enumerate") (hm:X.mg "enumerate" = none) (ha:PA X [a] ta) (hs:autoParam (starEach [a] X.env=[(false,eval a X.env)]) Au.h0._auto_1):
  PI X (.Tuple es n tp) (.Call (.Name "enumerate" p) [a] [] pos) (CJ X.K ta):=by
 intro pins s σ H R I h
 refine Call_ (iB I hg hm boot_enumerate (PyProof.Rows.callWith_type1 (thn (ha pos pins s σ H _ I h) fun us s1 zq=>?_) hs rfl))
 obtain ⟨vs,H1,I1,r1,q1⟩:=zq
 obtain ⟨a,k,e,⟨xs,hx⟩,q⟩:=q1
 subst e
 cases r1 with
 | cons r rr=>
  cases rr
  cases r
  obtain ⟨us,ru,pu,_⟩:=I1.sqk hx
  refine SQ.call_enum pu fun h' a1 a2 a3 a4=>?_
  have I2:Inv X pins σ H1 { s1 with heap:=h' }:=I1.kept (t':=s1.toks) a4
  obtain ⟨oa,ea,_⟩:=pu.obj
  have la:=Heap.lt_size ea
  refine wpAny_pyIter_enum (s:={ s1 with heap:=h' }) a1 ⟨_,[s1.heap.objs.size + 1,s1.heap.objs.size],_,_,H1,rfl,I2,uW (k:=k) _ _ a (sT _ a la).1 (sT _ a la).2,⟨⟨_,a1⟩,a2⟩,fun c hc=>?_,q⟩
  exact I1.fpOk (lR _ c hc) (I1.hok.fresh (lR _ c hc))
end
end L2
namespace PD
open PySem PySem.Spec PyProof.Rows L2
def mQ:D→Option (List D)
 | .tup ds=>some ds
 | .lst ds=>some ds
 | .fz ds=>some ds
 | _=>none
def kU:List D→List D→List D
 | x :: xs,y :: ys=>.tup [x,y] :: kU xs ys
 | _,_=>[]
def numbered:Nat→List D→List D
 | _,[]=>[]
 | i,x :: xs=>.tup [.int i,x] :: numbered (i + 1) xs
def yw (t:AM):AM:=fun r S=>(t r S).bind fun xs S1=>match xs with
 | [a,b]=>match mQ a,mQ b with
  | some us,some vs=>.ok (kU us vs) S1
  | _,_=>.bad
 | _=>.bad
def kI (t:AM):AM:=fun r S=>(t r S).bind fun xs S1=>match xs with
 | [a]=>match mQ a with
  | some us=>.ok (numbered 0 us) S1
  | _=>.bad
 | _=>.bad
theorem jN:∀ (us vs:List D) (i:Nat),(i < (kU us vs).length↔i < us.length∧i < vs.length)∧∀ x y,us[i]?=some x→vs[i]?=some y→(kU us vs)[i]?=some (.tup [x,y])
 | [],vs,i=>by simp [kU]
 | _ :: _,[],i=>by simp [kU]
 | u :: us,v :: vs,0=>by simp [kU]
 | u :: us,v :: vs,i + 1=>by
  have ih:=jN us vs i
  simp only [kU,List.length_cons,List.getElem?_cons_succ,Nat.add_lt_add_iff_right]
  exact ih
theorem fU:∀ (us:List D) (j i:Nat),(numbered j us).length=us.length∧∀ x,us[i]?=some x→(numbered j us)[i]?=some (.tup [.int ((j + i:Nat):Int),x])
 | [],j,i=>by simp [numbered]
 | u :: us,j,0=>by simp [numbered,(fU us (j + 1) 0).1]
 | u :: us,j,i + 1=>by
  have ih:=fU us (j + 1) i
  simp only [numbered,List.length_cons,List.getElem?_cons_succ,ih.1,true_and]
  intro x hx
  rw [ih.2 x hx]
  congr 4
  omega
theorem rR {K:PySem.W.Frag} {w:Wd} {H:Hp} {d:D} {ds:List D} {v:V} (e:mQ d=some ds) (q:RD K w H d v):∃ p k vs,v=.ref p∧RDs K w H ds vs∧∀ w' H',Ext w H w' H'→SqK K k H' p vs:=by
 cases d with
 | tup us=>
  cases e
  unfold RD at q
  obtain ⟨p,vs,rfl,h1,q⟩:=q
  exact ⟨p,true,vs,rfl,q,fun w' H' x'=>cR (h1.imp x'.at id)⟩
 | lst us=>
  cases e
  unfold RD at q
  obtain ⟨p,vs,rfl,h1,q⟩:=q
  exact ⟨p,false,vs,rfl,q,fun w' H' x'=>SqL.of (x'.at h1).1⟩
 | fz us=>
  cases e
  unfold RD at q
  obtain ⟨p,vs,rfl,h1,q⟩:=q
  exact ⟨p,false,vs,rfl,q,fun w' H' x'=>rM.sq (w:=w') (h1.imp (fun ⟨o,z⟩=>⟨o,x'.at z⟩) id)⟩
 | _=>cases e
section
variable {X:Cx} {E:XK} {a b:Expr} {pos:Pos}
theorem A5 {es:List Expr} {n:Nat} {tp:Pos} {ms:AM} {p:Pos} (hg:Gl X "zip") (hm:X.mg "zip" = none) (ha:SA X E [a,b] ms) (hs:autoParam (starEach [a,b] X.env=[(false,eval a X.env),(false,eval b X.env)]) Au.h0._auto_1) (hs2:autoParam (starEach [b] X.env=[(false,eval b X.env)]) Au.h0._auto_1):
  SI X E (.Tuple es n tp) (.Call (.Name "zip" p) [a,b] [] pos) (yw ms):=⟨
 eW (A4 hg hm ha.out hs hs2) fun s H Q zq=>ex6 zq fun w r S hr hS hp=>⟨w,r,S,hr,hS,hp.bind hS fun ds S1 w1 H1 vs x1 q1 s1 p1=>by
  match ds,q1,p1 with
  | [d,e],q1,p1=>
   obtain ⟨v,u,rfl,q2,q3⟩:=q1.two_inv
   change aE X.K E (RI X.K) w1 H1 (match mQ d,mQ e with | some us,some vs=>R.ok (kU us vs) S1 | _,_=>R.bad) Q at p1
   cases e1:mQ d with
   | none=>rw [e1] at p1; exact p1.elim
   | some us=>
    cases e2:mQ e with
    | none=>rw [e1,e2] at p1; exact p1.elim
    | some vs=>
     rw [e1,e2] at p1
     obtain ⟨pa,k,xs,rfl,ra,sa⟩:=rR e1 q2
     obtain ⟨pb,m,ys,rfl,rb,sbb⟩:=rR e2 q3
     refine ⟨pa,pb,k,m,rfl,⟨xs,sa _ _ (Ext.refl _ _)⟩,⟨ys,sbb _ _ (Ext.refl _ _)⟩,aE.ret p1 ?_ s1⟩
     intro i w' H' x'
     have ra':=RDs.ext x' _ _ ra
     have rb':=RDs.ext x' _ _ rb
     have la:=ra.length
     have lb:=rb.length
     refine ⟨fun hi=>?_,fun hi=>⟨xs,ys,sa _ _ x',sbb _ _ x',?_⟩⟩
     ·obtain ⟨h1,h2⟩:=(jN us vs i).1.mp hi
      refine ⟨⟨xs,ys,xs[i]'(by omega),ys[i]'(by omega),sa _ _ x',sbb _ _ x',List.getElem?_eq_getElem _,List.getElem?_eq_getElem _⟩,fun v H'' y=>?_⟩
      obtain ⟨p,x,y,rfl,hp,rfl,q⟩:=y
      obtain ⟨qx,qy⟩:=q xs ys (sa _ _ x') (sbb _ _ x')
      obtain ⟨x0,ex,rx⟩:=ra'.get (List.getElem?_eq_getElem h1)
      obtain ⟨y0,ey,ry⟩:=rb'.get (List.getElem?_eq_getElem h2)
      rw [qx] at ex; cases ex
      rw [qy] at ey; cases ey
      refine ⟨.inr ⟨p,_,hp,rfl⟩,fun S hS=>⟨_,(jN us vs i).2 _ _ (List.getElem?_eq_getElem h1) (List.getElem?_eq_getElem h2),?_⟩⟩
      unfold RD
      refine ⟨p,[x,y],rfl,.inl ⟨aH,hS.fresh hp⟩,?_⟩
      unfold RDs RDs RDs
      exact ⟨x,[y],rfl,RD.ext (Ext.new hp) _ _ rx,y,[],rfl,RD.ext (Ext.new hp) _ _ ry,rfl⟩
     ·have:=(jN us vs i).1
      omega
  | [],_,p1=>exact p1.elim
  | [_],_,p1=>exact p1.elim
  | _ :: _ :: _ :: _,_,p1=>exact p1.elim⟩⟩
theorem sU {es:List Expr} {n:Nat} {tp:Pos} {ms:AM} {p:Pos} (hg:Gl X "enumerate") (hm:X.mg "enumerate" = none) (ha:SA X E [a] ms) (hs:autoParam (starEach [a] X.env=[(false,eval a X.env)]) Au.h0._auto_1):
  SI X E (.Tuple es n tp) (.Call (.Name "enumerate" p) [a] [] pos) (kI ms):=⟨
 eW (yu hg hm ha.out hs) fun s H Q zq=>ex6 zq fun w r S hr hS hp=>⟨w,r,S,hr,hS,hp.bind hS fun ds S1 w1 H1 vs x1 q1 s1 p1=>by
  match ds,q1,p1 with
  | [d],q1,p1=>
   obtain ⟨v,rfl,q2⟩:=q1.one_inv
   change aE X.K E (RI X.K) w1 H1 (match mQ d with | some us=>R.ok (numbered 0 us) S1 | _=>R.bad) Q at p1
   cases e1:mQ d with
   | none=>rw [e1] at p1; exact p1.elim
   | some us=>
    rw [e1] at p1
    obtain ⟨pa,k,xs,rfl,ra,sa⟩:=rR e1 q2
    refine ⟨pa,k,rfl,⟨xs,sa _ _ (Ext.refl _ _)⟩,aE.ret p1 ?_ s1⟩
    intro i w' H' x'
    have ra':=RDs.ext x' _ _ ra
    have la:=ra.length
    have ln:=(fU us 0 i).1
    refine ⟨fun hi=>?_,fun hi=>⟨xs,sa _ _ x',by omega⟩⟩
    have h1:i < us.length:=by omega
    refine ⟨⟨xs,xs[i]'(by omega),sa _ _ x',List.getElem?_eq_getElem _⟩,fun v H'' y=>?_⟩
    obtain ⟨p,x,rfl,hp,rfl,q⟩:=y
    have qx:=q xs (sa _ _ x')
    obtain ⟨x0,ex,rx⟩:=ra'.get (List.getElem?_eq_getElem h1)
    rw [qx] at ex; cases ex
    refine ⟨.inr ⟨p,_,hp,rfl⟩,fun S hS=>⟨_,(fU us 0 i).2 _ (List.getElem?_eq_getElem h1),?_⟩⟩
    unfold RD
    refine ⟨p,[.int i,x],rfl,.inl ⟨aH,hS.fresh hp⟩,?_⟩
    unfold RDs RDs RDs
    exact ⟨.int i,[x],rfl,by unfold RD; simp,x,[],rfl,RD.ext (Ext.new hp) _ _ rx,rfl⟩
  | [],_,p1=>exact p1.elim
  | _ :: _ :: _,_,p1=>exact p1.elim⟩⟩
end
end PD
namespace PD
open PySem PySem.Spec PyProof.Rows L2
def uX (x:Int):List Int→List Int
 | []=>[x]
 | y :: r=>if x≤y then x :: y :: r else y :: uX x r
def jh:List Int→List Int
 | []=>[]
 | x :: r=>uX x (jh r)
theorem kr (x:Int):∀ l:List Int,(uX x l).Perm (x :: l)
 | []=>.refl _
 | y :: r=>by
  unfold uX
  split
  ·exact .refl _
  ·exact ((kr x r).cons y).trans (.swap x y r)
theorem ft:∀ l:List Int,(jh l).Perm l
 | []=>.refl _
 | x :: r=>(kr x _).trans ((ft r).cons x)
theorem kJ (x:Int):∀ l:List Int,l.Pairwise (· ≤ ·)→(uX x l).Pairwise (· ≤ ·)
 | [],_=>List.pairwise_singleton _ _
 | y :: r,h=>by
  obtain ⟨h1,h2⟩:=List.pairwise_cons.mp h
  unfold uX
  split
  ·rename_i hxy
   exact List.pairwise_cons.mpr ⟨fun z hz=>by
    rcases List.mem_cons.mp hz with rfl | hz
    ·exact hxy
    ·exact Int.le_trans hxy (h1 z hz),h⟩
  ·rename_i hxy
   exact List.pairwise_cons.mpr ⟨fun z hz=>by
    rcases List.mem_cons.mp ((kr x r).mem_iff.mp hz) with rfl | hz
    ·omega
    ·exact h1 z hz,kJ x r h2⟩
theorem g9:∀ l:List Int,(jh l).Pairwise (· ≤ ·)
 | []=>.nil
 | x :: r=>kJ x _ (g9 r)
theorem kK:∀ {a b:List Int},a.Perm b→a.Pairwise (· ≤ ·)→b.Pairwise (· ≤ ·)→a=b
 | [],b,p,_,_=>p.nil_eq
 | x :: r,[],p,_,_=>absurd p.length_eq (by simp)
 | x :: r,y :: t,p,h1,h2=>by
  obtain ⟨a1,a2⟩:=List.pairwise_cons.mp h1
  obtain ⟨b1,b2⟩:=List.pairwise_cons.mp h2
  have e:x=y:=by
   have hx:x ∈ y :: t:=p.mem_iff.mp (.head _)
   have hy:y ∈ x :: r:=p.mem_iff.mpr (.head _)
   rcases List.mem_cons.mp hx with h | h
   ·exact h
   ·rcases List.mem_cons.mp hy with h' | h'
    ·exact h'.symm
    ·exact Int.le_antisymm (a1 y h') (b1 x h)
  subst e
  rw [kK (List.Perm.cons_inv p) a2 b2]
end PD
namespace SQ
open PySem PySem.Spec PyProof.Rows
section
variable {prog:Program} {w:World} {A:Around} {E:Value→Shared→Prop} {s:Shared}
theorem qj {l:Addr} {vs:List Value} {Q:List Value→Shared→Prop} (hl:s.heap.IsTuple l vs.toArray)
  (h:Q vs { s with heap:=(s.heap.push (seqObj "list" #[] 0)).update s.heap.objs.size (Obj.mapSeq (· ++ vs.toArray)) }) (hsz:vs.length≤sizeLine):wpAny (model prog w) A (collect (.ref l)) Q E s:=by
 obtain ⟨o,ho,hc,n,hd⟩:=id hl; unfold collect; refine wpAny_bind (wpAny_runValue (codeAny_builtin entry_proto_collect' ?_))
 show wpAny _ _ (do again (.builtin "list.__iadd__" ⟨[← newList [],.ref l],[]⟩)) _ _ s; refine wpAny_bind (wpAny_newList (wpAny_pure ⟨Code.quiet_builtin _ (by decide +kernel),codeAny_builtin entry_list_iadd' ?_⟩))
 show wpAny _ _ (Builtin.List.listExtendWith (.ref s.heap.objs.size) (.ref l) (.ref s.heap.objs.size)) _ _ { s with heap:=s.heap.push (seqObj "list" #[] 0) }; unfold Builtin.List.listExtendWith
 have ho':(s.heap.push (seqObj "list" #[] 0)).get? l=some o:=Heap.get?_push_of_some _ ho
 refine wpAny_bind (wpAny_typeOf (T:="tuple") ⟨o,ho',hc⟩ ?_)
 have ht:(Value.type "tuple" == Value.type "tuple")=true:=by rfl
 rw [if_pos (by rw [ht]; simp)]; refine wpAny_bind (listItems_at ho' hd ?_); refine wpAny_bind (listItems_at (xs:=#[]) (n:=0) (Heap.get?_push_size _ rfl) rfl ?_); rw [if_neg (by simp)]
 refine wpAny_bind (listUpdate_at (xs:=#[]) (n:=0) (Heap.get?_push_size _ rfl) rfl ?_ (Nat.zero_le _) (by show (#[] ++ vs.toArray).size≤sizeLine + 1; simp only [Array.size_append,List.size_toArray,List.length_nil]; omega)); refine wpAny_pure ?_
 show wpAny (model prog w) A (do
   let o ← load s.heap.objs.size
   match o.data with
   | .seq xs _=>pure xs.toList
   | _=>unsupported "internal:collect") Q E { s with heap:=(s.heap.push (seqObj "list" #[] 0)).update s.heap.objs.size (Obj.mapSeq (· ++ vs.toArray)) }
 refine wpAny_bind (wpAny_load (get?_update_seq (Heap.get?_push_size _ rfl) _) ?_); show wpAny _ _ (pure ((#[]:Array Value) ++ vs.toArray).toList) Q E _
 rw [show ((#[]:Array Value) ++ vs.toArray).toList=vs by simp]; exact wpAny_pure h
theorem collects {k:Bool} {l:Addr} {vs:List Value} {Q:List Value→Shared→Prop} (hl:Is k s.heap l vs.toArray)
  (h:Q vs { s with heap:=(s.heap.push (seqObj "list" #[] 0)).update s.heap.objs.size (Obj.mapSeq (· ++ vs.toArray)) }) (hsz:vs.length≤sizeLine):wpAny (model prog w) A (collect (.ref l)) Q E s:=by
 cases k with
 | true=>exact qj hl h hsz
 | false=>exact collect_list hl h hsz
end
end SQ
namespace PD
open PySem PySem.Spec PyProof.Rows L2
section
variable {X:Cx} {E:XK}
theorem lS {K:PySem.W.Frag} {w:Wd} {H:Hp}:∀ {ds:List D} {vs:List V} {us:List Value} {ns:List Int},RDs K w H ds vs→Vals vs us→intsOf ds=some ns→IntsAre us ns
 | [],_,_,_,q,r,h=>by
  rw [q.nil_inv] at r
  cases r
  unfold intsOf at h
  cases h
  exact .nil
 | d :: ds,_,_,ns,q,r,h=>by
  obtain ⟨y,vs,rfl,p,t⟩:=q.cons_inv
  cases d with
  | int b=>
   unfold intsOf at h
   cases e':intsOf ds with
   | none=>rw [e'] at h; cases h
   | some cs=>
    rw [e'] at h; cases h
    cases p.int
    cases r with
    | cons r1 r2=>
     obtain ⟨t',rfl⟩:=r1
     exact .cons _ _ (lS t r2 e')
  | _=>unfold intsOf at h; cases h
theorem sV:∀ {us:List Value} {ns:List Int},IntsAre us ns→Vals (ns.map .int) us
 | _,_,.nil=>.nil
 | _,_,.cons _ _ h=>.cons ⟨_,rfl⟩ (sV h)
theorem ql {K:PySem.W.Frag} {w:Wd} {H:Hp}:∀ ns:List Int,RDs K w H (ns.map .int) (ns.map .int)
 | []=>.nil
 | n :: ns=>.cons (by unfold RD; rfl) (ql ns)
def fc (neg:Bool):Sto→D→D→Option D:=fun _ a b=>match b with
 | .non=>match a with
  | .non=>some (.bl (!neg))
  | .int _=>some (.bl neg)
  | .bl _=>some (.bl neg)
  | .str _=>some (.bl neg)
  | .tup _=>some (.bl neg)
  | .lst _=>some (.bl neg)
  | .ref _=>some (.bl neg)
  | .dic _=>some (.bl neg)
  | _=>none
 | _=>none
theorem lT {neg:Bool} {S:Sto} {a b z:D} (h:fc neg S a b=some z):b=.non∧((a=.non∧z=.bl (!neg)) ∨ (z=.bl neg∧∀ (K:PySem.W.Frag) (w:Wd) (H:Hp) (v:V),RD K w H a v→v ≠ .non)):=by
 cases b <;> first | (cases h; done) | skip
 refine ⟨rfl,?_⟩
 cases a with
 | non=>cases h; exact .inl ⟨rfl,rfl⟩
 | int i=>cases h; exact .inr ⟨rfl,fun K w H v q z=>by cases q.int; cases z⟩
 | bl i=>cases h; exact .inr ⟨rfl,fun K w H v q z=>by cases q.bl; cases z⟩
 | str i=>cases h; exact .inr ⟨rfl,fun K w H v q z=>by cases q.str; cases z⟩
 | tup i=>cases h; exact .inr ⟨rfl,fun K w H v q z=>by obtain ⟨p,vs,e,_⟩:=q.tupI; rw [e] at z; cases z⟩
 | lst i=>cases h; exact .inr ⟨rfl,fun K w H v q z=>by obtain ⟨p,vs,e,_⟩:=q.lstI; rw [e] at z; cases z⟩
 | ref i=>cases h; exact .inr ⟨rfl,fun K w H v q z=>by obtain ⟨p,e,_⟩:=q.refI; rw [e] at z; cases z⟩
 | dic i=>cases h; exact .inr ⟨rfl,fun K w H v q z=>by unfold RD at q; obtain ⟨p,vs,e,_⟩:=q; rw [e] at z; cases z⟩
 | _=>cases h
theorem nI {v:Value} (hb:∀ id,v ≠ .builtin id):plainIs v .none=true:=by
 cases v <;> first | rfl | (exact absurd rfl (hb _))
theorem sW {x:V} {v:Value} (r:RelV x v):∀ id,v ≠ .builtin id:=by
 intro id e
 subst e
 cases x <;> first | (cases r; done) | (obtain ⟨_,e⟩:=r; cases e; done) | skip
theorem nJ {x:V} {v:Value} (r:RelV x v) (h:x ≠ .non):v ≠ .none:=by
 intro e
 subst e
 cases x <;> first | (exact h rfl) | (cases r; done) | (obtain ⟨_,e⟩:=r; cases e; done) | skip
theorem lU:OpR X (compareOp .Is) (xO X.K E (fc false)):=by
 rintro pins s σ H x y v u Q I rx ry ⟨w,S,d,e,hS,qd,qe,p⟩
 obtain ⟨z,hz,p⟩:=p.of
 obtain ⟨rfl,h⟩:=lT hz
 have ey:y=.non:=by unfold RD at qe; exact qe
 subst ey
 cases ry
 rcases h with ⟨rfl,rfl⟩ | ⟨rfl,h⟩
 ·have ex:x=.non:=by unfold RD at qd; exact qd
  subst ex
  cases rx
  exact wpAny_is_self rfl ⟨.bl true,H,I,rfl,p.ret RD.mkB hS⟩
 ·have hx:=h _ _ _ _ qd
  exact wpAny_is_other (nI (sW rx)) (nJ rx hx) ⟨.bl false,H,I,rfl,p.ret RD.mkB hS⟩
theorem gO:OpR X (compareOp .IsNot) (xO X.K E (fc true)):=by
 rintro pins s σ H x y v u Q I rx ry ⟨w,S,d,e,hS,qd,qe,p⟩
 obtain ⟨z,hz,p⟩:=p.of
 obtain ⟨rfl,h⟩:=lT hz
 have ey:y=.non:=by unfold RD at qe; exact qe
 subst ey
 cases ry
 rcases h with ⟨rfl,rfl⟩ | ⟨rfl,h⟩
 ·have ex:x=.non:=by unfold RD at qd; exact qd
  subst ex
  cases rx
  exact wpAny_isNot_self rfl ⟨.bl false,H,I,rfl,p.ret RD.mkB hS⟩
 ·have hx:=h _ _ _ _ qd
  exact wpAny_isNot_other (nI (sW rx)) (nJ rx hx) ⟨.bl true,H,I,rfl,p.ret RD.mkB hS⟩
end
end PD
namespace PD
open PySem PySem.Spec PyProof.Rows L2
def eBR (f:Sto→List D→R D) (t:AM):EM:=fun r S=>(t r S).bind fun xs S1=>f S1 xs
def xCR (K:PySem.W.Frag) (E:XK) (f:Sto→List D→R D):List V→Hp→VK→Prop:=fun xs H Q=>∃ w S ds,RS K w H S∧RDs K w H ds xs∧aE K E (RD K) w H (f S ds) Q
section
variable {X:Cx} {E:XK} {a b:Expr} {es:List Expr} {ms:AM} {x:Str} {p pos:Pos}
theorem rS {T:String} {f:Sto→List D→R D} (hc:bL X (.type T) (xCR X.K E f)) (hg:Gl X x) (hm:X.mg x=none) (hv:bootBuiltins x=some (.type T)) (ha:SA X E (a :: es) ms) (hn:autoParam (x ≠ "__name__") Au.h3._auto_1) (hdb:autoParam ((x == ("__debug__":Str))=false) Au.h3._auto_1)
  (he:autoParam (starEach (a :: es) X.env=(false,eval a X.env) :: starEach es X.env) Au.h0._auto_1) (hpl:autoParam ((backTo pos (starEach es X.env)).any (·.1)=false) Au.h0._auto_1):SE X E (.Call (.Name x p) (a :: es) [] pos) (eBR f ms):=⟨
 bc (nv hc hg hm hv ha.out hn hdb he hpl) fun s H Q zq=>ex6 zq fun w r S hr hS hp=>⟨w,r,S,hr,hS,hp.bind hS fun ds S1 w1 H1 vs x1 q1 s1 p1=>⟨w1,S1,ds,s1,q1,p1⟩⟩⟩
end
end PD
namespace PD
open PySem PySem.Spec PyProof.Rows L2
section
variable {M:Model} {A:Around} {E:Value→Shared→Prop} {s:Shared}
end
section
variable {X:Cx} {pins:List (Addr × Obj)} {σ:L2.St} {H:Hp} {s:Shared}
end
end PD
namespace PD
open PySem PySem.Spec PyProof.Rows L2
end PD
namespace PD
open PySem PySem.Spec PyProof.Rows L2
def du (S:Sto):D→Option (List (KD × D))
 | .dic kvs=>some kvs
 | .ref n=>match S[n]? with
  | some (.dic kvs)=>some kvs
  | some (.fdic kvs)=>some kvs
  | _=>none
 | _=>none
def cU (kvs:List (KD × D)) (k:KD):Option D:=(kvs.find? fun kv=>decide (kv.1=k)).map (·.2)
section
variable {K:PySem.W.Frag} {w:Wd} {H:Hp} {S:Sto}
theorem hJ {d:D} {v:V} {kvs:List (KD × D)} (hS:RS K w H S) (q:RD K w H d v) (h:du S d=some kvs):∃ p us,v=.ref p∧Rd H p (.dK us)∧RDk K w H kvs us:=by
 unfold du at h
 split at h
 ·cases h
  unfold RD at q
  obtain ⟨p,us,rfl,z,r⟩:=q
  exact ⟨p,us,rfl,.inl z.1,r⟩
 ·rename_i n
  obtain ⟨p,rfl,hp⟩:=q.refI
  split at h
  ·rename_i e; cases h
   obtain ⟨p',hp',us,hv,r⟩:=hS.obj _ _ e
   rw [hp] at hp'; cases hp'
   exact ⟨p,us,rfl,.inl hv,r⟩
  ·rename_i e; cases h
   obtain ⟨p',hp',o,us,hv,r⟩:=hS.obj _ _ e
   rw [hp] at hp'; cases hp'
   exact ⟨p,us,rfl,.inr ⟨o,hv⟩,r⟩
  ·cases h
 ·cases h
theorem RDk.get (k:KD):∀ {ds:List (KD × D)} {us:List (Key × V)},RDk K w H ds us→(∀ d,cU ds k=some d→∃ v,gI us k=some v∧RD K w H d v)∧(cU ds k=none→gI us k=none)
 | [],us,q=>by
  rw [q.nil_inv]
  exact ⟨fun d h=>(by cases h),fun _=>rfl⟩
 | (j,d) :: ds,_,q=>by
  obtain ⟨v,r,rfl,p,t⟩:=q.cons_inv
  by_cases hj:j=k
  ·have e1:cU ((j,d) :: ds) k=some d:=by unfold cU; rw [List.find?_cons]; simp [hj]
   have e2:gI ((j,v) :: r) k=some v:=by unfold gI; rw [List.find?_cons]; simp [hj]
   rw [e1,e2]
   exact ⟨fun d' h=>by cases h; exact ⟨v,rfl,p⟩,fun h=>by cases h⟩
  ·have e1:cU ((j,d) :: ds) k=cU ds k:=by unfold cU; rw [List.find?_cons]; simp [hj]
   have e2:gI ((j,v) :: r) k=gI r k:=by unfold gI; rw [List.find?_cons]; simp [hj]
   rw [e1,e2]
   exact RDk.get k t
theorem RDk.getO {ds:List (KD × D)} {us:List (Key × V)} (q:RDk K w H ds us) (k:KD):(gI us k).isSome=(cU ds k).isSome:=by
 obtain ⟨h1,h2⟩:=q.get k
 cases e:cU ds k with
 | none=>rw [h2 e]; rfl
 | some d=>obtain ⟨v,hv,_⟩:=h1 d e; rw [hv]; rfl
end
section
variable {X:Cx} {E:XK}
theorem zB {f:Value→Value→Sem Value} {o o1 o2:Sto→D→D→Option D} (h1:OpR X f (xO X.K E o1)) (h2:OpR X f (xO X.K E o2)) (h:∀ S x y,o S x y=o1 S x y ∨ o S x y=o2 S x y):OpR X f (xO X.K E o):=by
 rintro pins s σ H x y v u Q I rx ry ⟨w,S,d,e,hS,qd,qe,p⟩
 rcases h S d e with z | z
 ·exact h1 pins s σ H x y v u Q I rx ry ⟨w,S,d,e,hS,qd,qe,z ▸ p⟩
 ·exact h2 pins s σ H x y v u Q I rx ry ⟨w,S,d,e,hS,qd,qe,z ▸ p⟩
theorem CK {o o1 o2:Sto→D→D→Option D} (h1:IxR X (xO X.K E o1)) (h2:IxR X (xO X.K E o2)) (h:∀ S x y,o S x y=o1 S x y ∨ o S x y=o2 S x y):IxR X (xO X.K E o):=by
 rintro va sl pins s σ H x y v u Q I rx ry ⟨w,S,d,e,hS,qd,qe,p⟩ hsub
 rcases h S d e with z | z
 ·exact h1 va sl pins s σ H x y v u Q I rx ry ⟨w,S,d,e,hS,qd,qe,z ▸ p⟩ hsub
 ·exact h2 va sl pins s σ H x y v u Q I rx ry ⟨w,S,d,e,hS,qd,qe,z ▸ p⟩ hsub
theorem Room.hu {k:Nat} {A:Around} (r:Room k A):A.units + 1 < cLine:=by have:=r.un; omega
def oX (neg:Bool):Sto→D→D→Option D:=fun S x y=>match du S y,gN x with
 | some kvs,some k=>some (.bl (if neg then !(cU kvs k).isSome else (cU kvs k).isSome))
 | _,_=>none
def gD (neg:Bool):Sto→D→D→Option D:=fun S x y=>if (bg S y).isSome then oIn neg S x y else oX neg S x y
theorem A6 {k:Nat} (hr:Room k X.A):OpR X (compareOp .In) (xO X.K E (oX false)):=by
 rintro pins s σ H x y v u Q I rx ry ⟨w,S,d,e,hS,qd,qe,p⟩
 obtain ⟨z,hz,p⟩:=p.of
 unfold oX at hz
 split at hz
 ·rename_i kvs k e1 e2
  cases hz
  obtain ⟨pp,us,rfl,rd,rk⟩:=hJ hS qe e1
  cases ry
  have ex:=gj qd e2
  subst ex
  refine Dj (Room.hu hr) I (.inl ⟨us,k,rd,rfl,rfl⟩) rx fun s' I'=>⟨.bl _,H,I',rfl,?_⟩
  rw [rk.getO k]
  exact p.ret RD.mkB hS
 ·cases hz
theorem uY {k:Nat} (hr:Room k X.A):OpR X (compareOp .NotIn) (xO X.K E (oX true)):=by
 rintro pins s σ H x y v u Q I rx ry ⟨w,S,d,e,hS,qd,qe,p⟩
 obtain ⟨z,hz,p⟩:=p.of
 unfold oX at hz
 split at hz
 ·rename_i kvs k e1 e2
  cases hz
  obtain ⟨pp,us,rfl,rd,rk⟩:=hJ hS qe e1
  cases ry
  have ex:=gj qd e2
  subst ex
  refine yb (Room.hu hr) I (.inl ⟨us,k,rd,rfl,rfl⟩) rx fun s' I'=>⟨.bl _,H,I',rfl,?_⟩
  rw [rk.getO k]
  exact p.ret RD.mkB hS
 ·cases hz
theorem A7 {k:Nat} (hr:Room k X.A):OpR X (compareOp .In) (xO X.K E (gD false)):=zB zx (A6 hr) fun S x y=>by
 unfold gD
 cases (bg S y).isSome with
 | true=>exact .inl rfl
 | false=>exact .inr rfl
theorem kx {k:Nat} (hr:Room k X.A):OpR X (compareOp .NotIn) (xO X.K E (gD true)):=zB jM (uY hr) fun S x y=>by
 unfold gD
 cases (bg S y).isSome with
 | true=>exact .inl rfl
 | false=>exact .inr rfl
def yx:Sto→D→D→Option D:=fun S x y=>match du S x,gN y with
 | some kvs,some k=>cU kvs k
 | _,_=>none
def rT:Sto→D→D→Option D:=fun S x y=>if (bg S x).isSome then oIx S x y else yx S x y
theorem A8 {k:Nat} (hr:Room k X.A):IxR X (xO X.K E yx):=by
 rintro va sl pins s σ H x y v u Q I rx ry ⟨w,S,d,e,hS,qd,qe,p⟩ hsub
 obtain ⟨z,hz,p⟩:=p.of
 unfold yx at hz
 split at hz
 ·rename_i kvs k e1 e2
  obtain ⟨pp,us,rfl,rd,rk⟩:=hJ hS qd e1
  cases rx
  have ey:=gj qe e2
  subst ey
  obtain ⟨vv,hv,rv⟩:=(rk.get k).1 z hz
  have g:ow H pp (kV k) (some vv):=.inl ⟨us,k,rd,rfl,hv.symm⟩
  have hT:=pX I g
  have h2:wpAny (model X.prog X.w) X.A (getItem (.ref pp) u) (EP X pins σ Q) X.xe s:=uD (Room.hu hr) I g ry fun w' s' I' r'=>⟨vv,H,I',r',p.ret rv hS⟩
  unfold subscriptTail; refine wpAny_bind ?_; rw [getitemInPython_of_ne hT.not_modules]; refine wpAny_bind (wpAny_specialOf hT PySem.F.slot_dict_getitem.lookup ?_)
  have fin:wpAny (model X.prog X.w) X.A (subscripted sl false (.ref pp) u) (fun r s₃=>wpAny (model X.prog X.w) X.A (letTemporaryGo va (.ref pp) r >>= fun _=>pure r) (EP X pins σ Q) X.xe s₃) X.xe s:=by
   rw [hsub]; exact wpAny_operating (wpAny_mono h2 (fun r s₃ h₃=>wpAny_bind (wpAny_letTemporaryGo (wpAny_pure h₃))) fun _ _ x=>x)
  first | exact wpAny_pure (wpAny_bind fin) | exact wpAny_bind (wpAny_pure (wpAny_bind fin)) | exact wpAny_bind fin
 ·cases hz
theorem wD {k:Nat} (hr:Room k X.A):IxR X (xO X.K E rT):=CK eY (A8 hr) fun S x y=>by
 unfold rT
 cases (bg S x).isSome with
 | true=>exact .inl rfl
 | false=>exact .inr rfl
def sX:Sto→D→D→D→Option Sto
 | S,.ref n,y,v=>match S[n]? with
  | some (.dic kvs)=>match gN y with
   | some k=>if kvs.length < sizeLine then some (S.set n (.dic (putD kvs k v))) else none
   | none=>none
  | _=>none
 | _,_,_,_=>none
def sY (S:Sto):D→Bool
 | .ref n=>match S[n]? with
  | some (.dic _)=>true
  | _=>false
 | _=>false
def nK:Sto→D→D→D→Option Sto:=fun S x y v=>if sY S x then sX S x y v else wo S x y v
theorem yy {k:Nat} (hr:Room k X.A):oj X (xS X.K sX):=by
 rintro pins s σ H o i v ov iv u Q I ro ri ru ⟨w,S,x,y,z,S',hS,qx,qy,qz,hf,kk⟩
 unfold sX at hf
 split at hf
 ·rename_i n
  split at hf
  ·rename_i kvs hn
   split at hf
   ·rename_i ky hk
    split at hf
    ·rename_i hl
     cases hf
     obtain ⟨pp,rfl,hp⟩:=qx.refI
     cases ro
     obtain ⟨p',hp',us,hv,rk⟩:=hS.obj _ _ hn
     rw [hp] at hp'; cases hp'
     have ey:=gj qy hk
     subst ey
     have hm:pp ∈ w.st:=List.mem_of_getElem? hp
     have hul:us.length < sizeLine:=by rw [rk.length]; exact hl
     refine uF (Room.hu hr) I (ya.k hv hul) ri ru fun s' I'=>⟨_,I',kk w _ (Ext.mut hm hv) (hS.mut hp hv ⟨_,aH,?_⟩)⟩
     exact RDk.ext (Ext.mut hm hv) _ _ (rk.put ky qz)
    ·cases hf
   ·cases hf
  ·cases hf
 ·cases hf
theorem CL {f f1 f2:Sto→D→D→D→Option Sto} (h1:oj X (xS X.K f1)) (h2:oj X (xS X.K f2)) (h:∀ S x y v,f S x y v=f1 S x y v ∨ f S x y v=f2 S x y v):oj X (xS X.K f):=by
 rintro pins s σ H o i v ov iv u Q I ro ri ru ⟨w,S,x,y,z,S',hS,qx,qy,qz,hf,kk⟩
 rcases h S x y z with e | e
 ·exact h1 pins s σ H o i v ov iv u Q I ro ri ru ⟨w,S,x,y,z,S',hS,qx,qy,qz,e ▸ hf,kk⟩
 ·exact h2 pins s σ H o i v ov iv u Q I ro ri ru ⟨w,S,x,y,z,S',hS,qx,qy,qz,e ▸ hf,kk⟩
theorem yz {k:Nat} (hr:Room k X.A):oj X (xS X.K nK):=CL (yy hr) wq fun S x y v=>by
 unfold nK
 cases sY S x with
 | true=>exact .inl rfl
 | false=>exact .inr rfl
def ji (o a b:EM):EM:=fun r S=>(o r S).bind fun d S1=>if (du S1 d).isSome=true then (a r S1).bind fun y S2=>(b r S2).bind fun z S3=>(match du S3 d,gN y with
  | some kvs,some k=>R.ok ((cU kvs k).getD z) S3
  | _,_=>R.bad) else R.bad
theorem wF {o e f:Expr} {m:Str} {apos cpos:Pos} (h1:attributeBase o m X.env (eval o X.env)=eval o X.env) (h2:((backTo cpos (starEach [e,f] X.env)).all (fun x=>!x.1) && (backToKw cpos (keywordEach [] X.env)).all (fun x=>x.1.isSome)
  && decide (([e,f]:List Expr).length + ([]:List Keyword).length + (if ([]:List Keyword).isEmpty then 0 else 1) < 30))=true) (h3:(apos.endLine == cpos.line)=true) (h4:backTo cpos (starEach [e,f] X.env)=[(false,eval e X.env),(false,eval f X.env)]):M2 X o m apos e f cpos:=⟨h1,h2,h3,h4⟩
theorem oY {o e f:Expr} {mo ma mb:EM} {apos cpos:Pos} {k:Nat} (hr:Room k X.A) (ho:SE X E o mo) (ha:SE X E e ma) (hb:SE X E f mb) (m:M2 X o "get" apos e f cpos):SE X E (.Call (.Attribute o "get" apos) [e,f] [] cpos) (ji mo ma mb):=⟨
 bc (vS (Room.hu hr) ho.out ha.out hb.out m) fun s H Q zq=>ex6 zq fun w r S hrr hS hp=>⟨w,r,S,hrr,hS,hp.bind hS fun d S1 w1 H1 v x1 q1 s1 p1=>by
  cases hd:du S1 d with
  | none=>rw [hd] at p1; exact p1.elim
  | some kvs=>
   rw [hd] at p1
   obtain ⟨pp,us,rfl,rd,rk⟩:=hJ s1 q1 hd
   refine ⟨pp,rfl,.inl ⟨us,rd⟩,w1,r,S1,hrr.ext x1,s1,aE.bind (rel:=RD X.K) p1 s1 fun y S2 w2 H2 vy x2 q2 s2 p2=>⟨w2,r,S2,(hrr.ext x1).ext x2,s2,aE.bind (rel:=RD X.K) p2 s2 fun z S3 w3 H3 vz x3 q3 s3 p3=>?_⟩⟩
   have q1':=RD.ext x3 _ _ (RD.ext x2 _ _ q1)
   have q2':=RD.ext x3 _ _ q2
   cases hd3:du S3 d with
   | none=>rw [hd3] at p3; exact p3.elim
   | some kvs3=>
    cases hk:gN y with
    | none=>rw [hd3,hk] at p3; exact p3.elim
    | some ky=>
     rw [hd3,hk] at p3
     obtain ⟨pp3,us3,e3,rd3,rk3⟩:=hJ s3 q1' hd3
     cases e3
     have ey:=gj q2' hk
     subst ey
     refine ⟨gI us3 ky,.inl ⟨us3,ky,rd3,rfl,rfl⟩,?_⟩
     obtain ⟨g1,g2⟩:=rk3.get ky
     have p4:aE X.K E (RD X.K) w3 H3 (R.ok ((cU kvs3 ky).getD z) S3) Q:=p3
     cases hg:cU kvs3 ky with
     | none=>rw [hg] at p4; rw [g2 hg]; exact aE.ret p4 q3 s3
     | some dd=>rw [hg] at p4; obtain ⟨vd,hv,rv⟩:=g1 dd hg; rw [hv]; exact aE.ret p4 rv s3⟩⟩
end
end PD
namespace L2
open PySem PySem.Spec PyProof.Rows
theorem lV {P:Program} {w:World} {k:Key} {u:Value} (h:(aP P w).is k u=true):RelV (kV k) u:=by
 rw [rG] at h
 cases k with
 | inl i=>obtain ⟨t,e⟩:=Value.isInt_shape (k:=i) (v:=u) h; exact ⟨t,e⟩
 | inr x=>obtain ⟨t,e⟩:=Value.isStrOf_shape (x:=x) (v:=u) h; exact ⟨t,e⟩
theorem KV.getI {kvs:List (Key × V)} {vs:List (Key × Value)} (r:KV kvs vs) {i:Nat} {k:Key} {x:V} (h:kvs[i]?=some (k,x)):∃ v,vs[i]?=some (k,v)∧RelV x v:=by
 unfold KV at r
 induction r generalizing i with
 | nil=>simp at h
 | cons hd tl ih=>
  cases i with
  | zero=>
   simp at h
   rename_i p q _ _
   obtain ⟨e,rv⟩:=hd
   subst h
   exact ⟨q.2,by simp; exact Prod.ext e.symm rfl,rv⟩
  | succ i=>simpa using ih (by simpa using h)
def Iti (a:Addr) (o:Obj) (us:List (Key × V)):It:=
  ⟨fun i H=>H a=some (.frz o (.dK us))∧∃ kv,us[i]?=some kv,
   fun i H v H'=>∃ p k x,v=.ref p∧H p=none∧H'=upd H p (.tup [kV k,x])∧us[i]?=some (k,x),
   fun i H=>H a=some (.frz o (.dK us))∧us.length≤i⟩
theorem kz {X:Cx} {pins:List (Addr × Obj)} {σ:St} {H:Hp} {s:Shared} {a:Addr} {o:Obj} {us:List (Key × V)} {es:Array DictEntry} {ep:Nat} (I:Inv X pins σ H s) (h:H a=some (.frz o (.dK us))) (ed:o.data=.dict es ep):
  ∃ vs,KV us vs∧s.heap.DictAt (aP X.prog X.w) a vs ep∧(a == sysModules)=false:=by
 obtain ⟨e,z,hd,vs,rel,⟨o',es',ep',ho,hx,hdat,k1,k2,k3⟩⟩:s.heap.get? a=some o∧bG X.prog X.w H s.heap a (.dK us):=I.hok a _ h
 rw [e] at ho; cases ho
 rw [ed] at hdat; cases hdat
 exact ⟨vs,rel,⟨o,es,e,hx,ed,k1,k2,k3⟩,hd⟩
theorem oZ:entryFor table "dict_itemiterator.__iter__" = some Builtin.«dict_keyiterator.__iter__»:=
 entryFor_alias (id':="dict_keyiterator.__iter__") (by kernel_rfl) (by first | rfl | decide +kernel | (unfold String.splitOn; simp +decide [String.splitOnAux])) (by decide +kernel) (by kernel_rfl)
theorem qm {prog:Program} {w:World} {A:Around} {E:Value→Shared→Prop} {s:Shared} {it d:Addr} {i n ep:Nat} {ok ov:Value} {Q:Value→Shared→Prop} (hz:IsItemIter s.heap it d i n ep ok ov) (h:Q (.ref it) s):wpAny (model prog w) A (pyIter (.ref it)) Q E s:=by
 have hT:s.TypeIs (.ref it) "dict_itemiterator":=⟨_,hz,rfl⟩
 refine wpAny_pyIter_slot hT F.slot_dict_itemiterator_iter (wpAny_call_entry F.slot_dict_itemiterator_iter hT oZ ?_ (F.args_dict_itemiterator_iter_1 _))
 show wpAny _ _ (ret (.ref it)) _ _ s
 exact wpAny_pure ⟨_,rfl,"dict_itemiterator",_,hT,F.slot_dict_itemiterator_next.lookup,h⟩
theorem rV {P:Program} {w:World} {K:PySem.W.Frag} {es:List Expr} {n:Nat} {pos:Pos} (it a:Addr) (o:Obj) (us:List (Key × V)) (ee:Array DictEntry) (ep:Nat) (ed:o.data=.dict ee ep) (na:a ≠ it):
  Turn false P w K (.Tuple es n pos) (Iti a o us) [it] it (fun i h=>∃ ok ov,IsItemIter h it a i us.length ep ok ov) where
 mem:=by simp
 obj:=fun i h ⟨ok,ov,st⟩ c hc=>by
  simp only [List.mem_cons,List.not_mem_nil,or_false] at hc
  subst hc
  exact ⟨_,st,fun v z=>by cases z⟩
 keep:=fun i h h' ⟨ok,ov,st⟩ q=>⟨ok,ov,q it (by simp) _ st⟩
 item:=by
  intro X hP hw hK hc i pins s σ H E I hf ⟨ok,ov,st⟩ hg
  subst hP hw hK
  obtain ⟨ha,⟨k,x⟩,hx⟩:=hg
  obtain ⟨vs,rel,dd,_⟩:=kz I ha ed
  obtain ⟨v,hv,rv⟩:=rel.getI hx
  have hl:=rel.length
  rw [hl] at st
  have hlt:∀ c ∈ [it],c < s.heap.objs.size:=fun c hc=>by
   simp only [List.mem_cons,List.not_mem_nil,or_false] at hc
   subst hc
   exact Heap.lt_size st
  refine wpAny_pyNext_items_item st dd hv fun key h' hk a1 a2 a3 a4=>⟨_,rfl,?_⟩
  refine wpAny_letOwnedTupleGo_items (s:={ s with heap:=h' }) a1 fun h2' hz' hs'=>?_
  have up:∀ c ob,c ≠ it→h'.get? c=some ob→h2'.get? c=some ob:=fun c ob n q=>SQ.sb hs' n q
  refine ⟨.ref s.heap.objs.size,_,I.turnedP (t':=s.toks) (h':=h2') hf hlt (lV hk) rv (fun c ob hc q=>up c ob (fun r=>hc (by simp [r])) (a4 c ob (fun r=>hc (by simp [r])) q)) (up _ _ (Nat.ne_of_gt (Heap.lt_size st)) a2),rfl,
   ⟨_,k,x,rfl,I.fresh,rfl,hx⟩,⟨_,_,by rw [hl]; exact hz'⟩,oW hf hlt⟩
 done:=by
  intro X hP hw hK hc i pins s σ H E I hf ⟨ok,ov,st⟩ hg
  subst hP hw hK
  obtain ⟨ha,hx⟩:=hg
  obtain ⟨vs,rel,dd,_⟩:=kz I ha ed
  have hl:=rel.length
  rw [hl] at st
  exact wpAny_pyNext_items_end (I.ok.hd hc.cm) st dd (by simp; omega) fun h' eb=>⟨rfl,I.turnedS (t':=s.toks) (fun b ob hb q=>eb b ob (fun r=>hb (by simp [r])) q) hf⟩
 self:=fun _ _ _ _ _ ⟨_,_,st⟩ h=>qm st h
theorem Inv.freeze {X:Cx} {pins:List (Addr × Obj)} {σ:St} {H:Hp} {s:Shared} {a:Addr} {us:List (Key × V)} (I:Inv X pins σ H s) (h:H a=some (.dK us)):∃ o,Inv X pins σ (upd H a (.frz o (.dK us))) s:=by
 obtain ⟨z,hd,vs,rel,⟨o,es,ep,ho,r⟩⟩:bG X.prog X.w H s.heap a (.dK us):=I.hok a _ h
 have I2:Inv X pins σ (upd H a (.frz o (.dK us))) { s with heap:=s.heap,toks:=s.toks }:=I.write (x:=a) (e:=a) (by rw [h]; exact True.intro) (.inl rfl) (fun b u _ q=>q) ⟨o,ho⟩ ⟨ho,z,hd,vs,rel,⟨o,es,ep,ho,r⟩⟩
 exact ⟨o,I2⟩
def A9 (td:TE):TI:=fun σ H R=>td σ H fun x H1=>∃ a us,x=.ref a∧((H1 a=some (.dK us)∧∀ o,R (Iti a o us) (upd H1 a (.frz o (.dK us)))) ∨ ∃ o,H1 a=some (.frz o (.dK us))∧R (Iti a o us) H1)
theorem wG {X:Cx} {es:List Expr} {n:Nat} {tp:Pos} {d:Expr} {td:TE} {apos pos:Pos} (hd:PE X d td) (hbase:autoParam (attributeBase d "items" X.env (eval d X.env)=eval d X.env) Au.h0._auto_1) (hline:autoParam ((apos.endLine == pos.line)=true) Au.h0._auto_1)
  (hfew:autoParam (((backTo pos (starEach [] X.env)).all (fun x=>!x.1) && (backToKw pos (keywordEach [] X.env)).all (fun x=>x.1.isSome) && decide (([]:List Expr).length + ([]:List Keyword).length + (if ([]:List Keyword).isEmpty then 0 else 1) < 30))=true) Au.h0._auto_1):
  PI X (.Tuple es n tp) (.Call (.Attribute d "items" apos) [] [] pos) (A9 td):=by
 intro pins s σ H R I h
 refine wpAny_Call_method (T:="dict") (id:="dict.items") hbase hfew hline F.plainAttrs_dict F.slot_dict_items F.type_dict_items (thn (hd pins s σ H _ I h) fun u s1 zq=>?_)
 obtain ⟨x,H1,I1,rx,a,us,ex,q1⟩:=zq
 subst ex
 obtain rfl:u=Value.ref a:=rx
 have main:∀ (H2:Hp) (o:Obj),Inv X pins σ H2 s1→H2 a=some (.frz o (.dK us))→R (Iti a o us) H2→s1.TypeIs (.ref a) "dict"∧(∀ b,Value.ref a=.ref b→∃ ob,s1.heap.get? b=some ob∧ob.dict=none)∧
   wpAny (model X.prog X.w) X.A (callWith pos (.builtin "dict.items") [.ref a] (backTo pos (starEach [] X.env)) []) (fun v s2=>wpAny (model X.prog X.w) X.A (pyIter v) (PIE X pins σ (.Tuple es n tp) R) X.xe s2) X.xe s1:=fun H2 o I2 hH2 q=>by
  obtain ⟨t1,t2,t3⟩:=oA I2 (a:=a) (.inl ⟨us,.inr ⟨o,hH2⟩⟩)
  refine ⟨t1,t2,?_⟩
  obtain ⟨eo,z,hdd,vs,rel,⟨o',ee,ep,ho,hx,hdat,k1,k2,k3⟩⟩:s1.heap.get? a=some o∧bG X.prog X.w H2 s1.heap a (.dK us):=I2.hok a _ hH2
  rw [eo] at ho; cases ho
  have dat:s1.heap.DictAt (aP X.prog X.w) a vs ep:=⟨o,ee,eo,hx,hdat,k1,k2,k3⟩
  show wpAny _ _ (callWith pos (.builtin "dict.items") [.ref a] [] []) _ _ s1
  refine method_meetsIn F.slot_dict_items F.entry_dict_items rfl (PySem.evalArgs_none ⟨rfl,t1,F.args_dict_items_1 _,_,meets_dict_items (aP X.prog X.w) a t3,⟨vs,dat.dictOf⟩,?_⟩)
  have I3:Inv X pins σ H2 { s1 with heap:=s1.heap.push { cls:=.type "dict_items",data:=.fields #[.ref a] } }:=I2.kept (t':=s1.toks) fun b u e=>Heap.get?_push_of_some _ e
  refine wpAny_pyIter_items (s:={ s1 with heap:=s1.heap.push { cls:=.type "dict_items",data:=.fields #[.ref a] } }) ⟨_,Heap.get?_push_size _ rfl,rfl,rfl⟩ (dat.push _) ?_
  have hl:=rel.length
  have la:a < s1.heap.objs.size:=Heap.lt_size eo
  have sz:({ s1 with heap:=s1.heap.push { cls:=.type "dict_items",data:=.fields #[.ref a] } }:Shared).heap.objs.size=s1.heap.objs.size + 1:=Heap.size_push ..
  refine ⟨_,[_],_,_,H2,rfl,I3.kept (t':=s1.toks) fun b u e=>Heap.get?_push_of_some _ e,rV _ a o us ee ep hdat (by rw [sz]; exact Nat.ne_of_lt (Nat.lt_succ_of_lt la)),⟨.none,.none,by rw [hl]; exact Heap.get?_push_size _ rfl⟩,fun c hc=>?_,q⟩
  have ec:c=({ s1 with heap:=s1.heap.push { cls:=.type "dict_items",data:=.fields #[.ref a] } }:Shared).heap.objs.size:=by simpa using hc
  subst ec
  exact I3.fpOk (Nat.le_refl _) (I3.hok.fresh (Nat.le_refl _))
 rcases q1 with ⟨hH,q⟩ | ⟨o,hH,q⟩
 ·obtain ⟨o,I2⟩:=I1.freeze hH
  exact main _ o I2 aH (q o)
 ·exact main _ o I1 hH q
end L2
namespace PD
open PySem PySem.Spec PyProof.Rows L2
def kD:KD→D
 | .inl i=>.int i
 | .inr x=>.str x
def pairD (kv:KD × D):D:=.tup [kD kv.1,kv.2]
def o6 (m:EM):AM:=fun r S=>(m r S).bind fun d S1=>match d with
 | .ref n=>match S1[n]? with
  | some (.dic kvs)=>.ok (kvs.map pairD) (S1.set n (.fdic kvs))
  | some (.fdic kvs)=>.ok (kvs.map pairD) S1
  | _=>.bad
 | _=>.bad
theorem RDk.getI {K:PySem.W.Frag} {w:Wd} {H:Hp}:∀ {ds:List (KD × D)} {us:List (Key × V)} {i:Nat} {k:KD} {d:D},RDk K w H ds us→ds[i]?=some (k,d)→∃ v,us[i]?=some (k,v)∧RD K w H d v
 | [],_,_,_,_,_,h=>by simp at h
 | (j,e) :: ds,_,i,k,d,q,h=>by
  obtain ⟨v,r,rfl,p,t⟩:=q.cons_inv
  cases i with
  | zero=>simp at h; obtain ⟨rfl,rfl⟩:=h; exact ⟨v,by simp,p⟩
  | succ i=>simpa using RDk.getI t (by simpa using h)
theorem wH {K:PySem.W.Frag} {w:Wd} {H:Hp} (k:KD):RD K w H (kD k) (kV k):=by
 cases k with
 | inl i=>unfold kD RD; rfl
 | inr x=>unfold kD RD; rfl
theorem qo {K:PySem.W.Frag} {w:Wd} {H:Hp} {a:Addr} {o:Obj} {kvs:List (KD × D)} {us:List (Key × V)} (hst:∀ w' H',Ext w H w' H'→H' a=some (.frz o (.dK us))) (rk:RDk K w H kvs us):RI K w H (kvs.map pairD) (Iti a o us):=by
 intro i w' H' x'
 have rk':=RDk.ext x' _ _ rk
 have hl:=rk.length
 have ha:=hst w' H' x'
 refine ⟨fun hi=>?_,fun hi=>⟨ha,by rw [List.length_map] at hi; omega⟩⟩
 rw [List.length_map] at hi
 refine ⟨⟨ha,us[i]'(by omega),List.getElem?_eq_getElem _⟩,fun v H'' y=>?_⟩
 obtain ⟨p,k,x,rfl,hp,rfl,hx⟩:=y
 obtain ⟨v2,e2,r2⟩:=rk'.getI (i:=i) (k:=kvs[i].1) (d:=kvs[i].2) (by rw [List.getElem?_eq_getElem hi])
 rw [hx] at e2
 cases e2
 refine ⟨.inr ⟨p,_,hp,rfl⟩,fun S hS=>⟨pairD kvs[i],by simp [hi],?_⟩⟩
 unfold pairD RD
 refine ⟨p,[kV kvs[i].1,x],rfl,.inl ⟨aH,hS.fresh hp⟩,?_⟩
 unfold RDs RDs RDs
 exact ⟨_,_,rfl,wH _,_,_,rfl,RD.ext (Ext.new hp) _ _ r2,rfl⟩
section
variable {X:Cx} {E:XK}
theorem wI {es:List Expr} {n:Nat} {tp:Pos} {d:Expr} {md:EM} {apos pos:Pos} (ha:SE X E d md) (hbase:autoParam (attributeBase d "items" X.env (eval d X.env)=eval d X.env) Au.h0._auto_1) (hline:autoParam ((apos.endLine == pos.line)=true) Au.h0._auto_1)
  (hfew:autoParam (((backTo pos (starEach [] X.env)).all (fun x=>!x.1) && (backToKw pos (keywordEach [] X.env)).all (fun x=>x.1.isSome) && decide (([]:List Expr).length + ([]:List Keyword).length + (if ([]:List Keyword).isEmpty then 0 else 1) < 30))=true) Au.h0._auto_1):
  SI X E (.Tuple es n tp) (.Call (.Attribute d "items" apos) [] [] pos) (o6 md):=⟨
 eW (wG ha.out hbase hline hfew) fun s H Q zq=>ex6 zq fun w r S hr hS hp=>⟨w,r,S,hr,hS,hp.bind hS fun d S1 w1 H1 v x1 q1 s1 p1=>by
  cases d with
  | ref m=>
   obtain ⟨pp,rfl,hp⟩:=q1.refI
   have hm:pp ∈ w1.st:=List.mem_of_getElem? hp
   cases e:S1[m]? with
   | none=>simp only [e] at p1; exact p1.elim
   | some ob=>
    obtain ⟨p',hp',ro⟩:=s1.obj _ _ e
    rw [hp] at hp'; cases hp'
    cases ob with
    | dic kvs=>
     simp only [e] at p1
     obtain ⟨us,hv,rk⟩:=ro
     refine ⟨pp,us,rfl,.inl ⟨hv,fun o=>?_⟩⟩
     have rk':=RDk.ext (Ext.mut hm hv (o:=.frz o (.dK us))) _ _ rk
     exact aE.at p1 (Ext.mut hm hv) (qo (fun w' H' x'=>x'.frz _ _ _ aH) rk') (s1.mut hp hv ⟨o,us,aH,rk'⟩)
    | fdic kvs=>
     simp only [e] at p1
     obtain ⟨o,us,hv,rk⟩:=ro
     exact ⟨pp,us,rfl,.inr ⟨o,hv,aE.ret p1 (qo (fun w' H' x'=>x'.frz _ _ _ hv) rk) s1⟩⟩
    | lst xs=>simp only [e] at p1; exact p1.elim
    | ins c fs=>simp only [e] at p1; exact p1.elim
    | flst xs=>simp only [e] at p1; exact p1.elim
  | _=>exact p1.elim⟩⟩
end
end PD
namespace PD
open PySem PySem.Spec PyProof.Rows L2
def TupAt (K:PySem.W.Frag) (mg:Str→Option Value) (x:Str) (is:List Int):Prop:=∃ a,mg x=some (.ref a)∧oD K a (is.map .int)
section
variable {X:Cx} {E:XK}
theorem rdi {K:PySem.W.Frag} {w:Wd} {H:Hp}:∀ is:List Int,RDs K w H (is.map .int) (is.map .int)
 | []=>.nil
 | i :: is=>.cons (by unfold RD; rfl) (rdi is)
theorem jj {x:Str} {is:List Int} {pos:Pos} (h:TupAt X.K X.mg x is) (hg:Gl X x) (hd:autoParam ((x == ("__debug__":Str))=false) Au.h3._auto_1):SE X E (.Name x pos) (eC (.tup (is.map .int))):=by
 obtain ⟨a,hm,k⟩:=h
 exact uL (sH hg hm (v:=.ref a) rfl hd) fun _ _=>by unfold RD; exact ⟨a,_,rfl,.inr k,rdi is⟩
end
theorem yA {K:PySem.W.Frag} {h:Heap} {mg:Str→Option Value} (X:K.In h) (G:h.Ns mainGlobals mg) {x:Str} {a:Addr} {od:Option Addr} {n:Nat} {sl:Array (Option Value)} {i j:Int} {t1 t2:Tok} (hn:PySem.W.nsIn K mainGlobals x=some (some (.ref a))) (hl:K.lookup a=some ⟨.type "tuple",od,.seq #[.int i t1,.int j t2] n,sl⟩):TupAt K mg x [i,j]:=
 ⟨a,PySem.W.mg_of X G hn,_,_,n,hl,rfl,rfl,by show 2≤sizeLine; decide,.cons ⟨t1,rfl⟩ (.cons ⟨t2,rfl⟩ .nil)⟩
theorem yB {K:PySem.W.Frag} {h:Heap} {mg:Str→Option Value} (X:K.In h) (G:h.Ns mainGlobals mg) {x:Str} {a:Addr} {od:Option Addr} {n:Nat} {sl:Array (Option Value)} {i j k:Int} {t1 t2 t3:Tok} (hn:PySem.W.nsIn K mainGlobals x=some (some (.ref a))) (hl:K.lookup a=some ⟨.type "tuple",od,.seq #[.int i t1,.int j t2,.int k t3] n,sl⟩):TupAt K mg x [i,j,k]:=
 ⟨a,PySem.W.mg_of X G hn,_,_,n,hl,rfl,rfl,by show 3≤sizeLine; decide,.cons ⟨t1,rfl⟩ (.cons ⟨t2,rfl⟩ (.cons ⟨t3,rfl⟩ .nil))⟩
section
variable {K:PySem.W.Frag} {w:Wd} {H:Hp}
theorem Mv.adopt {p:Addr} {o:HO} (hh:p ∈ w.hid):Mv w H ((w.unhide p).add p) (upd H p o):=
  ⟨fun n a h=>by
      show (w.st ++ [p])[n]?=some a
      rw [List.getElem?_append_left (List.getElem?_eq_some_iff.mp h).1]; exact h,
   fun a u h=>⟨by rw [aB (fun z:a=p=>h.2.2 (z ▸ hh))]; exact h.1,fun z=>by
      rcases List.mem_append.mp z with z | z
      · exact h.2.1 z
      · exact h.2.2 (by rw [List.mem_singleton.mp z]; exact hh),fun z=>h.2.2 (Wd.mem_unhide z).1⟩⟩
theorem RS.adopt {p:Addr} {o:HO} {so:SO} {S:Sto} (s:RS K w H S) (hh:p ∈ w.hid) (r:RO K ((w.unhide p).add p) (upd H p o) p so):RS K ((w.unhide p).add p) (upd H p o) (S ++ [so]):=by
 have np:=(s.hid p hh).1
 refine ⟨?_,by simp [Wd.add,Wd.unhide,s.len],fun n so' e=>?_,fun a ha=>?_⟩
 ·show (w.st ++ [p]).Nodup
  rw [List.nodup_append]
  exact ⟨s.nd,by simp,fun a ha b hb=>by
   have:b=p:=by simpa using hb
   subst this
   rintro rfl
   exact np ha⟩
 ·by_cases hn:n < S.length
  ·rw [List.getElem?_append_left hn] at e
   obtain ⟨a,ha,q⟩:=s.obj n so' e
   have ne:a ≠ p:=fun z=>np (z ▸ List.mem_of_getElem? ha)
   exact ⟨a,(Mv.adopt (H:=H) (o:=o) hh).st n a ha,q.mv (Mv.adopt hh) fun u z=>by rw [aB ne]; exact z⟩
  ·have hn':n=S.length:=by
    have:=(List.getElem?_eq_some_iff.mp e).1
    simp at this; omega
   subst hn'
   simp at e; subst e
   exact ⟨p,by show (w.st ++ [p])[S.length]?=some p; rw [← s.len]; simp,r⟩
 ·obtain ⟨h1,h2⟩:=Wd.mem_unhide ha
  obtain ⟨h3,u,e⟩:=s.hid a h1
  refine ⟨?_,u,by rw [aB h2]; exact e⟩
  show a ∉ w.st ++ [p]
  intro z
  rcases List.mem_append.mp z with z | z
  ·exact h3 z
  ·exact h2 (by simpa using z)
end
section
variable {X:Cx} {E:XK} {pos:Pos}
theorem o7 {keys:List (Option Expr)} {values:List Expr} {ms:List (EM × EM)} (h:SPs X E pos keys values ms) (hall:autoParam (keys.all (·.isSome)=true) Au.h0._auto_1) (hl:autoParam (keys.length=values.length) Au.h0._auto_1) (h0:keys ≠ []:=by intro z; cases z) (h15:autoParam (keys.length≤15) Au.h3._auto_1):
  SE X E (.Dict keys values pos) (lO ms):=⟨
 bc (yd h.out hall hl h0 h15) fun s H Q q=>uR (keys:=keys) (values:=values) (m:=lO ms) (fin:=fun kvs S1=>R.ok (D.ref S1.length) (S1 ++ [SO.dic (g7 [] kvs)])) (fun r S=>rfl) (fun kvs us w0 w H0 H S0 S p hp s0 s x hh rk p1=>by
  have hpn:=(s.hid p hh).1
  refine aE.at p1 (w1:=(w.unhide p).add p) ⟨fun a o h n=>by rw [aB (aL h hp)]; exact x.keep a o h n,?_,fun a h=>List.mem_filter.mpr ⟨x.hid a h,decide_eq_true fun z=>(s0.fresh hp).2 (z ▸ h)⟩,fun a h=>x.hnew a (Wd.mem_unhide h).1,fun a o u h=>by rw [aB (aL h hp)]; exact x.frz a o u h⟩ ?_ (s.adopt hh ⟨_,aH,RDk.mv (Mv.adopt hh) _ _ rk⟩)
  ·obtain ⟨l,e,f⟩:=x.sub
   exact ⟨l ++ [p],by show w.st ++ [p]=_; rw [e,List.append_assoc],fun a ha=>(List.mem_append.mp ha).elim (f a) fun z=>by rw [List.mem_singleton.mp z]; exact hp⟩
  ·unfold RD
   exact ⟨p,rfl,by show (w.st ++ [p])[S.length]?=some p; rw [← s.len]; simp⟩) q⟩
def zC:EM:=fun _ S=>.ok (.ref S.length) (S ++ [.dic []])
theorem yC:SE X E (.Dict [] [] pos) zC:=⟨
 bc vP fun s H Q zq=>ex6 zq fun w r S hr hS hp=>fun p hpn=>aE.at hp (Ext.alloc hpn) hS.lastRef (hS.alloc hpn ⟨[],aH,RDk.nil⟩)⟩
end
end PD
namespace PD
open PySem PySem.Spec PyProof.Rows L2
def iz:Int→List Int→Int
 | m,[]=>m
 | m,x :: r=>iz (if x < m then x else m) r
theorem sZ:∀ (l:List Int) (m:Int),(iz m l≤m∧∀ x ∈ l,iz m l≤x)∧(iz m l=m ∨ iz m l ∈ l)
 | [],m=>⟨⟨Int.le_refl _,fun x h=>nomatch h⟩,.inl rfl⟩
 | x :: r,m=>by
  obtain ⟨⟨h1,h2⟩,h3⟩:=sZ r (if x < m then x else m)
  show (iz (if x < m then x else m) r≤m∧∀ y ∈ x :: r,iz (if x < m then x else m) r≤y)∧(iz (if x < m then x else m) r=m ∨ iz (if x < m then x else m) r ∈ x :: r)
  generalize iz (if x < m then x else m) r=z at *
  by_cases hx:x < m
  ·rw [if_pos hx] at h1 h3
   refine ⟨⟨by omega,fun y hy=>?_⟩,.inr ?_⟩
   ·rcases List.mem_cons.mp hy with e | hy
    ·rw [e]; exact h1
    ·exact h2 y hy
   ·rcases h3 with e | h3
    ·rw [e]; exact .head _
    ·exact .tail _ h3
  ·rw [if_neg hx] at h1 h3
   refine ⟨⟨h1,fun y hy=>?_⟩,?_⟩
   ·rcases List.mem_cons.mp hy with e | hy
    ·rw [e]; omega
    ·exact h2 y hy
   ·rcases h3 with e | h3
    ·exact .inl e
    ·exact .inr (.tail _ h3)
def qp (S:Sto):D→Option (List D)
 | .lst a=>some a
 | .ref n=>match S[n]? with
  | some (.lst a)=>some a
  | _=>none
 | _=>none
def wJ:Sto→List D→Option D
 | S,[d]=>match qp S d with
  | some a=>match intsOf a with
   | some (n :: ns)=>some (.int (iz n ns))
   | _=>none
  | none=>none
 | _,_=>none
def nL:Sto→List D→Option D:=fun S ds=>if ds.length=1 then wJ S ds else uO S ds
section
variable {X:Cx} {E:XK}
theorem mR {prog:Program} {w:World} {A:Around} {Ex:Value→Shared→Prop} {s:Shared} {l:Addr} {vs:List Value} {ns:List Int} {Q:Value→Shared→Prop} (hh:A.handled=none) (hl:s.heap.IsList l vs.toArray) (hi:IntsAre vs ns) (hne:0 < ns.length)
  (h:∀ h' M (t:Tok) tk,(∀ b o,s.heap.get? b=some o→h'.get? b=some o)→M ∈ ns→(∀ a,a ∈ ns→M≤a)→Q (.int M t) { s with heap:=h',toks:=tk }):wpAny (model prog w) A (call (.builtin "min") [.ref l]) Q Ex s:=by
 obtain ⟨xs,e⟩:=hi.allInts.items
 have hns:ns=xs.toList.map (·.1):=(by rw [← hi.numsOf,← nums_intItems,← e])
 have hsz:0 < xs.size:=(by have h3:=hne; rw [hns,List.length_map,Array.length_toList] at h3; exact h3)
 rw [e] at hl
 refine min_intList hh hl hsz fun v h' tk hv hk=>?_
 obtain ⟨t,rfl⟩:=intItems_at hv; obtain ⟨h1,h2⟩:=argBest_lt (numAt xs) (xs.size - 1)
 refine h _ _ t tk hk ?_ fun a ha=>?_
 ·rw [hns,numAt_eq]; exact getD_mem (by rw [List.length_map,Array.length_toList]; omega)
 ·rw [hns] at ha; obtain ⟨j,hj,rfl⟩:=mem_getD ha; rw [List.length_map,Array.length_toList] at hj; rw [← numAt_eq]; exact h2 j (by omega)
theorem wK {K:PySem.W.Frag} {w:Wd} {H:Hp} {S:Sto} {d:D} {v:V} {a:List D} (s:RS K w H S) (q:RD K w H d v) (h:qp S d=some a):∃ p vs,v=.ref p∧SqL K H p vs∧RDs K w H a vs:=by
 unfold qp at h
 split at h
 ·cases h; obtain ⟨p,vs,e,z,r⟩:=q.lstI; exact ⟨p,vs,e,SqL.of z.1,r⟩
 ·rename_i n
  split at h
  ·rename_i e; cases h
   obtain ⟨p,rfl,hp⟩:=q.refI
   obtain ⟨p',hp',vs,hv,r⟩:=s.obj _ _ e
   rw [hp] at hp'; cases hp'
   exact ⟨p,vs,rfl,SqL.of hv,r⟩
  ·cases h
 ·cases h
theorem yD (hc:X.calm=true):bL X (.builtin "min") (xC X.K E wJ):=by
 rintro pins s σ H xs us Q I r ⟨w,S,ds,hS,qs,p⟩
 obtain ⟨z,hz,p'⟩:=p.of
 clear p
 unfold wJ at hz
 split at hz
 ·rename_i d
  obtain ⟨v,rfl,q⟩:=qs.one_inv
  split at hz
  ·rename_i a ha
   split at hz
   ·rename_i n ns hns
    cases hz
    obtain ⟨pa,vs,rfl,sq,ra⟩:=wK hS q ha
    obtain ⟨u,rfl,rx⟩:=vals1 r
    cases rx
    obtain ⟨its,r',pl,hz⟩:=I.list sq
    refine mR (I.ok.hd hc) pl.isList (lS ra r' hns) (by simp) fun h' M t tk hk h1 h2=>?_
    have eM:M=iz n ns:=by
     obtain ⟨⟨a1,a2⟩,a3⟩:=sZ ns n
     have b1:=h2 (iz n ns) (by rcases a3 with e | h; rw [e]; exact .head _; exact .tail _ h)
     have b2:iz n ns≤M:=by
      rcases List.mem_cons.mp h1 with e | h
      ·rw [e]; exact a1
      ·exact a2 M h
     omega
    subst eM
    exact ⟨.int _,H,I.kept (t':=tk) hk,⟨t,rfl⟩,p'.ret (by unfold RD; rfl) hS⟩
   ·cases hz
  ·cases hz
 ·cases hz
theorem CM {f:Value} {g g1 g2:Sto→List D→Option D} (h1:bL X f (xC X.K E g1)) (h2:bL X f (xC X.K E g2)) (h:∀ S ds,g S ds=g1 S ds ∨ g S ds=g2 S ds):bL X f (xC X.K E g):=by
 rintro pins s σ H xs us Q I r ⟨w,S,ds,hS,qs,p⟩
 rcases h S ds with z | z
 ·exact h1 pins s σ H xs us Q I r ⟨w,S,ds,hS,qs,z ▸ p⟩
 ·exact h2 pins s σ H xs us Q I r ⟨w,S,ds,hS,qs,z ▸ p⟩
theorem yE (hc:X.calm=true):bL X (.builtin "min") (xC X.K E nL):=CM (yD hc) (wk hc) fun S ds=>by
 unfold nL
 split
 ·exact .inl rfl
 ·exact .inr rfl
end
end PD
namespace L2
open PySem PySem.Spec PyProof.Rows
section
variable {X:Cx} {tg:Expr}
end
end L2
namespace PD
open PySem PySem.Spec PyProof.Rows L2
section
variable {X:Cx} {E:XK} {a b c:Expr} {pos:Pos}
end
end PD
namespace PySem
open PyProof.Rows
namespace F
theorem mS:Slot "reversed" "__init__" "object.__init__":=.of (owner:="object") (n:="__init__") (by rw [typeLookup_type,builtinLookup_eq_fast]; kernel_rfl) (by decide +kernel) (by decide +kernel) (by decide +kernel) (by first | exact .inl (by decide +kernel) | exact .inr (by decide +kernel)) (by rw [isSubtype_type]; kernel_rfl)
theorem rvd_called:TypeCalled "reversed" "reversed.__new__" "object.__init__":=⟨by decide +kernel,by decide +kernel,⟨_,_,mro_reversed⟩,made_reversed,by decide +kernel,by rw [isSubtype_type]; kernel_rfl,mS⟩
theorem rvd_slot_next:Slot "reversed" "__next__" "reversed.__next__":=.of (owner:="reversed") (n:="__next__") (by rw [typeLookup_type,builtinLookup_eq_fast]; kernel_rfl) (by decide +kernel) (by decide +kernel) (by decide +kernel) (by first | exact .inl (by decide +kernel) | exact .inr (by decide +kernel)) (by rw [isSubtype_type]; kernel_rfl)
theorem rvd_entry_next:entryFor table "reversed.__next__" = some Builtin.«reversed.__next__»:=entryFor_of_tree (by kernel_rfl)
theorem nM:Manifest.owners.lookup (String.ofList ['d','e','s','r','e','v','e','r'].reverse)=some Manifest.sig_reversed:=by kernel_rfl
theorem rvd_args_next (a:Value):argsOk "reversed.__next__" ⟨[a],[]⟩:=by
 unfold argsOk; rw [signature?_of (id:="reversed.__next__") (n:=['_','_','t','x','e','n','_','_']) (o:=['d','e','s','r','e','v','e','r']) (by kernel_rfl) nM]; kernel_rfl
theorem rvd_slot_iter:Slot "reversed" "__iter__" "reversed.__iter__":=.of (owner:="reversed") (n:="__iter__") (by rw [typeLookup_type,builtinLookup_eq_fast]; kernel_rfl) (by decide +kernel) (by decide +kernel) (by decide +kernel) (by first | exact .inl (by decide +kernel) | exact .inr (by decide +kernel)) (by rw [isSubtype_type]; kernel_rfl)
theorem rvd_args_iter (a:Value):argsOk "reversed.__iter__" ⟨[a],[]⟩:=by
 unfold argsOk; rw [signature?_of (id:="reversed.__iter__") (n:=['_','_','r','e','t','i','_','_']) (o:=['d','e','s','r','e','v','e','r']) (by kernel_rfl) nM]; kernel_rfl
theorem rvd_entry_iter:entryFor table "reversed.__iter__" = some Builtin.«dict_keyiterator.__iter__»:=
 entryFor_alias (id':="dict_keyiterator.__iter__") (by kernel_rfl) (by first | rfl | decide +kernel | (unfold String.splitOn; simp +decide [String.splitOnAux])) (by decide +kernel) (by kernel_rfl)
theorem tup_no_rev:typeLookup (.type "tuple") "__reversed__" = pure none:=by rw [typeLookup_type,builtinLookup_eq_fast]; kernel_rfl
theorem tup_no_dict:isSubtype (.type "tuple") (.type "dict")=pure false:=by rw [isSubtype_type]; kernel_rfl
end F
section
variable {prog:Program} {w:World} {A:Around} {E:Value→Shared→Prop} {s:Shared}
def kL (h:Heap) (a l:Addr) (i:Int):Prop:=∃ o,h.get? a=some o∧o.cls=.type "reversed"∧o.data=.fields #[.ref l,rawInt i]
theorem kL.typeIs {a l:Addr} {i:Int} (x:kL s.heap a l i):s.TypeIs (.ref a) "reversed":=let ⟨o,ho,hc,_⟩:=x; ⟨o,ho,hc⟩
theorem mT {it l:Addr} {i:Nat} {items:Array Value} {x:Value} {Q:Option Value→Shared→Prop} (hit:kL s.heap it l (i:Int)) (hl:IsTup s.heap l items) (hi:(i:Int) < 2 ^ 63) (hx:items[i]?=some x)
  (hQ:∀ h' t',kL h' it l ((i:Int) - 1)→Heap.SameBut it s.heap h'→Q (some x) { s with heap:=h',toks:=t' }):wpAny (model prog w) A (pyNext (.ref it)) Q E s:=by
 obtain ⟨o,ho,hc,hd⟩:=id hit
 have hlt:i < items.size:=(Array.getElem?_eq_some_iff.mp hx).1
 unfold pyNext
 refine wpAny_bind (wpAny_attempt (wpAny_callSpecial?_slot (name:=Str.ofString "__next__") hit.typeIs F.rvd_slot_next (wpAny_call_entry F.rvd_slot_next hit.typeIs F.rvd_entry_next ?_ (F.rvd_args_next _))))
 unfold Builtin.«reversed.__next__»
 refine wpAny_bind (wpAny_of_eq (a:=(Value.ref it,[])) rfl ?_)
 try dsimp only
 refine wpAny_bind (wpAny_field ho hd (x:=.ref l) rfl ?_)
 refine wpAny_bind (wpAny_field ho hd (x:=rawInt (i:Int)) rfl ?_)
 show wpAny _ _ (if (i:Int) < 0 then _ else _) _ _ s
 rw [if_neg (by omega)]
 refine wpAny_bind (wpAny_specialOf hl.typeIs PyProof.Rows.slot_tuple_getitem.lookup ?_)
 rw [if_neg (by simp)]
 refine wpAny_bind (wpAny_mkInt ?_)
 refine wpAny_bind (wpAny_attempt (PyProof.Rows.getItem_tuple (s:={ s with toks:=s.toks + 1 }) (j:=i) hl (by omega) hi (by first | (unfold seqIndex?; rw [if_neg (by omega)]; simp; omega) | (unfold seqIndex?; simp; omega)) hx ?_))
 try dsimp only
 refine wpAny_bind (wpAny_field (s:={ s with toks:=s.toks + 1 }) ho hd (x:=rawInt (i:Int)) rfl ?_)
 try dsimp only
 refine wpAny_bind (wpAny_setField (s:={ s with toks:=s.toks + 1 }) ho hd (by simp) ?_)
 first
 | refine wpAny_pure ⟨x,rfl,wpAny_pure (hQ _ _ ?_ (Heap.SameBut.update ..))⟩
 | refine wpAny_bind (wpAny_pure (wpAny_pure ⟨x,rfl,wpAny_pure (hQ _ _ ?_ (Heap.SameBut.update ..))⟩))
 exact ⟨_,Heap.get?_update_self _ ho (Obj.isFreed_of_fields (Obj.data_mapFields hd _)),(Obj.cls_mapFields ..).trans hc,by
  rw [Obj.data_mapFields hd]; simp⟩
theorem o8 {it l:Addr} {j:Int} {Q:Option Value→Shared→Prop} (hh:A.handled=none) (hit:kL s.heap it l j) (hj:j < 0)
  (hQ:∀ h',Heap.ExtBut it s.heap h'→Q none { s with heap:=h' }):wpAny (model prog w) A (pyNext (.ref it)) Q E s:=by
 obtain ⟨o,ho,hc,hd⟩:=id hit
 unfold pyNext
 refine wpAny_bind (wpAny_attempt (wpAny_callSpecial?_slot (name:=Str.ofString "__next__") hit.typeIs F.rvd_slot_next (wpAny_call_entry F.rvd_slot_next hit.typeIs F.rvd_entry_next ?_ (F.rvd_args_next _))))
 unfold Builtin.«reversed.__next__»
 refine wpAny_bind (wpAny_of_eq (a:=(Value.ref it,[])) rfl ?_)
 try dsimp only
 refine wpAny_bind (wpAny_field ho hd (x:=.ref l) rfl ?_)
 refine wpAny_bind (wpAny_field ho hd (x:=rawInt j) rfl ?_)
 show wpAny _ _ (if j < 0 then _ else _) _ _ s
 rw [if_pos hj]
 refine wpAny_bind (wpAny_rule ?_)
 show wpAny _ _ ((setField (.ref it) 1 (rawInt (-1)) >>= fun _=>setField (.ref it) 0 .none) >>= _) _ _ s
 refine wpAny_bind (wpAny_bind (wpAny_setField ho hd (by simp) ?_))
 have ho2:=Heap.get?_update_self (Obj.mapFields (·.setIfInBounds 1 (rawInt (-1)))) ho (Obj.isFreed_of_fields (Obj.data_mapFields hd _))
 have hd2:=Obj.data_mapFields hd (·.setIfInBounds 1 (rawInt (-1)))
 refine wpAny_setField ho2 hd2 (by simp) ?_
 first
 | show wpAny _ _ (newExc (.type "StopIteration") [] >>= _) _ _ _
 | (refine wpAny_bind ?_; show wpAny _ _ (newExc (.type "StopIteration") [] >>= _) _ _ _)
 refine wpAny_bind ?_
 simp only [newExc,newTuple]
 refine wpAny_bind (wpAny_newObj_type ?_ (by size_fits))
 refine wpAny_bind (m:=firstArgMember _ _) (wpAny_of_eq (a:=Value.none) (by first | rfl | (simp only [firstArgMember]; rfl)) ?_)
 refine wpAny_newObj_type ?_ (by size_fits)
 simp only [raiseNew]
 refine wpAny_bind (wpAny_handled ?_)
 first | rw [show A.in1.handled=none from hh] | rw [hh]
 refine wpAny_bind (wpAny_pure (wpAny_throw ?_))
 refine wpAny_bind (wpAny_isInstance (T:="StopIteration") (b:=true) ⟨_,Heap.get?_push_size _ rfl,rfl⟩ isSubtype_stop ?_)
 refine wpAny_pure (hQ _ ((Heap.ExtBut.push ?_ _).push _))
 exact fun b o hb e=>(Heap.get?_update_other _ _ (Ne.symm hb)).trans ((Heap.get?_update_other _ _ (Ne.symm hb)).trans e)
theorem qq {it l:Addr} {i:Int} {Q:Value→Shared→Prop} (hit:kL s.heap it l i) (h:Q (.ref it) s):wpAny (model prog w) A (pyIter (.ref it)) Q E s:=by
 refine wpAny_pyIter_slot hit.typeIs F.rvd_slot_iter (wpAny_call_entry F.rvd_slot_iter hit.typeIs F.rvd_entry_iter ?_ (F.rvd_args_iter _))
 show wpAny _ _ (ret (.ref it)) _ _ s
 exact wpAny_pure ⟨_,rfl,"reversed",_,hit.typeIs,F.rvd_slot_next.lookup,h⟩
theorem yF {l:Addr} {items:Array Value} (hfit:(items.size:Int) < 2 ^ 63):
  MeetsIn prog w (Builtin.«reversed.__new__» ⟨[.type "reversed",.ref l],[]⟩) (fun A R s=>IsTup s.heap l items∧∀ t',R (.ok (.ret (Value.ref s.heap.objs.size))) { s with heap:=s.heap.push { cls:=.type "reversed",data:=.fields #[.ref l,rawInt ((items.size:Int) - 1)] },toks:=t' }):=
 .of_wp fun A R s h=>by
  obtain ⟨hl,h⟩:=h
  unfold Builtin.«reversed.__new__»
  refine wpAny_bind (wpAny_of_eq (newClass_reversed _) ?_)
  try dsimp only
  refine wpAny_bind (wpAny_of_eq (a:=()) (by first | rfl | kernel_rfl) ?_)
  refine wpAny_bind (wpAny_of_eq (a:=()) (by first | rfl | kernel_rfl) ?_)
  try dsimp only
  refine wpAny_bind (wpAny_specialOf hl.typeIs F.tup_no_rev ?_)
  try dsimp only
  refine wpAny_bind ?_
  show wpAny _ _ (isInstance (.ref l) (.type "dict") >>= _) _ _ _
  refine wpAny_bind (wpAny_isInstance hl.typeIs F.tup_no_dict ?_)
  rw [if_neg (by decide)]
  refine wpAny_bind (wpAny_specialOf hl.typeIs PyProof.Rows.slot_tuple_getitem.lookup ?_)
  try dsimp only
  rw [if_pos (by decide)]
  refine wpAny_pure ?_
  rw [if_neg (by decide)]
  refine wpAny_bind (PyProof.Rows.len_tuple hl hfit ?_)
  refine wpAny_bind (wpAny_of_eq (a:=some (items.size:Int)) rfl ?_)
  try dsimp only
  show wpAny _ _ (newObj (.type "reversed") (.fields #[.ref l,rawInt ((items.size:Int) - 1)]) >>= _) _ _ _
  refine wpAny_bind (wpAny_newObj_type ?_ (by size_fits))
  exact wpAny_pure ⟨_,rfl,h _⟩
theorem wL {l:Addr} {items:Array Value} {Q:Value→Shared→Prop} (hl:IsTup s.heap l items) (hfit:(items.size:Int) < 2 ^ 63)
  (h:∀ t',Q (.ref s.heap.objs.size) { s with heap:=s.heap.push { cls:=.type "reversed",data:=.fields #[.ref l,rawInt ((items.size:Int) - 1)] },toks:=t' }):wpAny (model prog w) A (call (.type "reversed") [.ref l]) Q E s:=
 callType_newIn F.rvd_called (by decide) (F.typeCall_reversed_1 _) (F.newCall_reversed_1 _) (fun obj=>F.args_object_init_2 obj _) F.entry_reversed_new (yF hfit) ⟨hl,fun t'=>⟨⟨_,Heap.get?_push_size _ rfl,rfl⟩,h t'⟩⟩
end
end PySem
namespace L2
open PySem PySem.Spec PyProof.Rows
def Itv (K:PySem.W.Frag) (a:Addr) (n:Nat):It:=
 ⟨fun i H=>i < n∧∃ xs,SqT K H a xs∧xs.length=n,fun i H x H'=>H'=H∧∀ xs,SqT K H a xs→xs[n - 1 - i]?=some x,fun i H=>n≤i∧∃ xs,SqT K H a xs⟩
theorem wM {P : Program} {w : World} {K : PySem.W.Frag} {tg : Expr} (a it : Addr) (n : Nat) (hn : n ≤ sizeLine) : Turn false P w K tg (Itv K a n) [it] it (fun i h => kL h it a ((n : Int) - 1 - (i : Int))) where
  mem := by simp
  obj := fun i h st b hb => by
    have e : b = it := by simpa using hb
    subst e
    obtain ⟨o, e, c, d⟩ := st
    exact ⟨o, e, fun v z => by rw [d] at z; cases z⟩
  keep := fun i h h' st k => by
    obtain ⟨o, e, c⟩ := st
    exact ⟨o, k it (by simp) o e, c⟩
  item := by
    intro X hP hw hK hc i pins s σ H E I hf st hg
    subst hP hw hK
    obtain ⟨hi, xs, hq, hxn⟩ := hg
    obtain ⟨its, rv, p, hz⟩ := I.tuple hq
    have hl := rv.length
    have hlt : n - 1 - i < xs.length := by omega
    obtain ⟨u, hu, ru⟩ := rv.get (List.getElem?_eq_getElem hlt)
    obtain ⟨f0, f1, f2, f3, f4, f5⟩ := hf it (by simp)
    have e1 : (n : Int) - 1 - (i : Int) = ((n - 1 - i : Nat) : Int) := by omega
    rw [e1] at st
    have hsz : sizeLine < 2 ^ 63 := by decide
    refine mT st p (x := u) (by have : ((n - 1 - i : Nat) : Int) ≤ ((sizeLine : Nat) : Int) := by omega
                                have h2 : ((sizeLine : Nat) : Int) < 2 ^ 63 := by exact_mod_cast hsz
                                omega) (by simpa using hu) fun h' t' st' sb => ?_
    have I1 : Inv X pins σ H { s with heap := h', toks := t' } := I.turned (fun b o hb e => (sb.2 b hb).trans e) f0 f1 f3 f4 f5
    have e2 : ((n - 1 - i : Nat) : Int) - 1 = (n : Int) - 1 - ((i + 1 : Nat) : Int) := by omega
    rw [e2] at st'
    obtain ⟨o, e, c, d⟩ := id st'
    exact ⟨u, rfl, pP (s := { s with heap := h', toks := t' }) e c d (by decide) ⟨_, H, I1, ru, ⟨rfl, fun ys hy => by rw [I.tuple_inj hy hq]; exact List.getElem?_eq_getElem hlt⟩, st', fun b hb => (hf b hb).1⟩⟩
  done := by
    intro X hP hw hK hc i pins s σ H E I hf st hg
    subst hP hw hK
    obtain ⟨hi, xs, hq⟩ := hg
    obtain ⟨f0, f1, f2, f3, f4, f5⟩ := hf it (by simp)
    exact o8 (I.ok.hd hc.cm) st (by omega) fun h' eb => ⟨rfl, I.turned (t' := s.toks) (fun b o hb e => eb b o hb e) f0 f1 f3 f4 f5⟩
  self := fun _ _ _ _ _ st h => qq st h
section
variable {X:Cx} {tg:Expr}
def Dq (K:PySem.W.Frag) (ta:TA):TI:=fun σ H R=>ta σ H fun vs H1=>∃ a xs,vs=[.ref a]∧SqT K H1 a xs∧R (Itv K a xs.length) H1
theorem Ba {a:Expr} {ta:TA} {p pos:Pos} (hg:Gl X "reversed") (hm:X.mg "reversed" = none) (ha:PA X [a] ta) (hs:autoParam (starEach [a] X.env=[(false,eval a X.env)]) Au.h1._auto_1):PI X tg (.Call (.Name "reversed" p) [a] [] pos) (Dq X.K ta):=by
 intro pins s σ H R I h
 refine Call_ (iB I hg hm boot_reversed (PyProof.Rows.callWith_type1 (thn (ha pos pins s σ H _ I h) fun us s1 zq=>?_) hs rfl))
 obtain ⟨vs,H1,I1,r1,q1⟩:=zq
 obtain ⟨l,xs,e,hq,q⟩:=q1
 subst e
 cases r1 with
 | cons r rr=>
  cases rr
  cases r
  obtain ⟨its,rv,pt,hz⟩:=I1.tuple hq
  have hl:=rv.length
  have hsz:sizeLine < 2 ^ 63:=by decide
  refine wL pt (by
   have h1:((its.toArray.size:Nat):Int)≤((sizeLine:Nat):Int):=by simp; omega
   have h2:((sizeLine:Nat):Int) < 2 ^ 63:=by exact_mod_cast hsz
   omega) fun t'=>?_
  have e0:((its.toArray.size:Nat):Int) - 1=(xs.length:Int) - 1:=by simp; omega
  rw [e0]
  have st:kL (s1.heap.push { cls:=.type "reversed",data:=.fields #[.ref l,rawInt ((xs.length:Int) - 1)] }) s1.heap.objs.size l ((xs.length:Int) - 1 - ((0:Nat):Int)):=⟨_,Heap.get?_push_size _ rfl,rfl,by simp⟩
  refine qq (s:={ s1 with heap:=s1.heap.push { cls:=.type "reversed",data:=.fields #[.ref l,rawInt ((xs.length:Int) - 1)] },toks:=t' }) st ?_
  refine ⟨s1.heap.objs.size,[s1.heap.objs.size],_,_,H1,rfl,I1.kept (t':=t') fun b o e=>Heap.get?_push_of_some _ e,wM l _ xs.length hz,st,fun b hb=>?_,q⟩
  have e:b=s1.heap.objs.size:=by simpa using hb
  subst e
  exact I1.fpOk (Nat.le_refl _) (I1.hok.fresh (Nat.le_refl _))
end
end L2
namespace PD
open PySem PySem.Spec PyProof.Rows L2
section
variable {X:Cx} {E:XK} {a:Expr} {pos:Pos}
def yG:List D→Option (List D)
 | [.tup ds]=>some ds
 | _=>none
theorem wN {xs ds:List D} (h:yG xs=some ds):xs=[.tup ds]:=by
 unfold yG at h
 split at h
 ·cases h; rfl
 ·cases h
def yH (t:AM):AM:=fun r S=>(t r S).bind fun xs S1=>match yG xs with
 | some ds=>.ok ds.reverse S1
 | none=>.bad
theorem Bb {tg:Expr} {ms:AM} {p:Pos} (hg:Gl X "reversed") (hm:X.mg "reversed" = none) (ha:SA X E [a] ms) (hs:autoParam (starEach [a] X.env=[(false,eval a X.env)]) Au.h0._auto_1):SI X E tg (.Call (.Name "reversed" p) [a] [] pos) (yH ms):=⟨
 eW (Ba hg hm ha.out hs) fun s H Q zq=>ex6 zq fun w r S hr hS hp=>⟨w,r,S,hr,hS,hp.bind hS fun ds S1 w1 H1 vs x1 q1 s1 p1=>by
  cases hq:yG ds with
  | none=>rw [hq] at p1; exact p1.elim
  | some ys=>
   rw [hq] at p1
   cases wN hq
   obtain ⟨v,rfl,q2⟩:=q1.one_inv
   unfold RD at q2
   obtain ⟨p,us,rfl,h1,q⟩:=q2
   refine ⟨p,us,rfl,cR h1,aE.ret p1 ?_ s1⟩
   have hl:=q.length
   intro i w' H' x'
   have h1':At w' H' p (.tup us) ∨ oD X.K p us:=h1.imp x'.at id
   have q':=RDs.ext x' _ _ q
   refine ⟨fun hi=>?_,fun hi=>?_⟩
   ·rw [List.length_reverse] at hi
    refine ⟨⟨by omega,us,cR h1',rfl⟩,fun x H'' y=>?_⟩
    obtain ⟨rfl,y⟩:=y
    have hlt:us.length - 1 - i < us.length:=by omega
    have hlt':us.length - 1 - i < ys.length:=by omega
    refine ⟨.inl rfl,fun S _=>⟨ys[us.length - 1 - i],?_,?_⟩⟩
    ·rw [List.getElem?_reverse (by omega),← hl,List.getElem?_eq_getElem hlt']
    ·obtain ⟨v,e,rv⟩:=q'.get (List.getElem?_eq_getElem hlt')
     rw [y us (cR h1')] at e
     cases e
     exact rv
   ·rw [List.length_reverse] at hi
    exact ⟨by omega,us,cR h1'⟩⟩⟩
end
end PD
namespace PD
open PySem PySem.Spec PyProof.Rows L2
section
variable {X:Cx} {E:XK} {pos:Pos}
end
end PD
namespace L2
open PySem PySem.Spec PyProof.Rows
def Itk (a:Addr) (o:Obj) (us:List (Key × V)):It:=
  ⟨fun i H=>H a=some (.frz o (.dK us))∧∃ kv,us[i]?=some kv,
   fun i H v H'=>H'=H∧∃ k x,v=kV k∧us[i]?=some (k,x),
   fun i H=>H a=some (.frz o (.dK us))∧us.length≤i⟩
theorem uZ {P:Program} {w:World} {K:PySem.W.Frag} {tg:Expr} (it a:Addr) (o:Obj) (us:List (Key × V)) (ee:Array DictEntry) (ep:Nat) (ed:o.data=.dict ee ep):
  Turn false P w K tg (Itk a o us) [it] it (fun i h=>h.IsKeyIter it a i us.length ep) where
 mem:=by simp
 obj:=fun i h st b hb=>by
  have e:b=it:=by simpa using hb
  subst e
  obtain ⟨ob,e,c,d⟩:=st
  exact ⟨ob,e,fun v z=>by rw [d] at z; cases z⟩
 keep:=fun i h h' st k=>st.at fun ob e=>k it (by simp) ob e
 item:=by
  intro X hP hw hK hc i pins s σ H E I hf st hg
  subst hP hw hK
  obtain ⟨ha,⟨k,x⟩,hx⟩:=hg
  obtain ⟨vs,rel,dd,_⟩:=kz I ha ed
  obtain ⟨v,hv,rv⟩:=rel.getI hx
  have hl:=rel.length
  rw [hl] at st
  obtain ⟨f0,f1,f2,f3,f4,f5⟩:=hf it (by simp)
  refine wpAny_pyNext_dict_item st dd hv fun key h' hk st' sb=>?_
  have I1:Inv X pins σ H { s with heap:=h' }:=I.turned (t':=s.toks) (fun b ob hb e=>(sb.2 b hb).trans e) f0 f1 f3 f4 f5
  rw [← hl] at st'
  obtain ⟨ob,e,c,d⟩:=id st'
  exact ⟨key,rfl,pP (s:={ s with heap:=h' }) e c d (by decide) ⟨kV k,H,I1,lV hk,⟨rfl,k,x,rfl,hx⟩,st',fun b hb=>(hf b hb).1⟩⟩
 done:=by
  intro X hP hw hK hc i pins s σ H E I hf st hg
  subst hP hw hK
  obtain ⟨ha,hx⟩:=hg
  obtain ⟨vs,rel,dd,_⟩:=kz I ha ed
  have hl:=rel.length
  rw [hl] at st
  obtain ⟨f0,f1,f2,f3,f4,f5⟩:=hf it (by simp)
  exact wpAny_pyNext_dict_end (I.ok.hd hc.cm) st dd (by simp; omega) fun h' eb=>⟨rfl,I.turned (t':=s.toks) (fun b ob hb e=>eb b ob hb e) f0 f1 f3 f4 f5⟩
 self:=fun _ _ _ _ _ st h=>wpAny_pyIter_keyiter st h
section
variable {X:Cx} {tg:Expr}
def CN (td:TE):TI:=fun σ H R=>td σ H fun x H1=>∃ a us,x=.ref a∧((H1 a=some (.dK us)∧∀ o,R (Itk a o us) (upd H1 a (.frz o (.dK us)))) ∨ ∃ o,H1 a=some (.frz o (.dK us))∧R (Itk a o us) H1)
theorem yI {d:Expr} {td:TE} (hd:PE X d td):PI X tg d (CN td):=by
 intro pins s σ H R I h
 refine thn (hd pins s σ H _ I h) fun u s1 zq=>?_
 obtain ⟨x,H1,I1,rx,a,us,ex,q1⟩:=zq
 subst ex
 obtain rfl:u=Value.ref a:=rx
 have main:∀ (H2:Hp) (o:Obj),Inv X pins σ H2 s1→H2 a=some (.frz o (.dK us))→R (Itk a o us) H2→wpAny (model X.prog X.w) X.A (pyIter (.ref a)) (PIE X pins σ tg R) X.xe s1:=fun H2 o I2 hH2 q=>by
  obtain ⟨eo,z,hdd,vs,rel,⟨o',ee,ep,ho,hx,hdat,k1,k2,k3⟩⟩:s1.heap.get? a=some o∧bG X.prog X.w H2 s1.heap a (.dK us):=I2.hok a _ hH2
  rw [eo] at ho; cases ho
  have dat:s1.heap.DictAt (aP X.prog X.w) a vs ep:=⟨o,ee,eo,hx,hdat,k1,k2,k3⟩
  have hl:=rel.length
  refine wpAny_pyIter_dict hdd dat ?_
  refine ⟨s1.heap.objs.size,[s1.heap.objs.size],_,_,H2,rfl,I2.kept (t':=s1.toks) fun b u e=>Heap.get?_push_of_some _ e,uZ _ a o us ee ep hdat,⟨_,Heap.get?_push_size _ rfl,rfl,by rw [hl]; rfl⟩,fun b hb=>?_,q⟩
  have e:b=s1.heap.objs.size:=by simpa using hb
  subst e
  exact I2.fpOk (Nat.le_refl _) (I2.hok.fresh (Nat.le_refl _))
 rcases q1 with ⟨hH,q⟩ | ⟨o,hH,q⟩
 ·obtain ⟨o,I2⟩:=I1.freeze hH
  exact main _ o I2 aH (q o)
 ·exact main _ o I1 hH q
end
end L2
namespace PD
open PySem PySem.Spec PyProof.Rows L2
def kM (m:EM):AM:=fun r S=>(m r S).bind fun d S1=>match d with
 | .ref n=>match S1[n]? with
  | some (.dic kvs)=>.ok (kvs.map fun kv=>kD kv.1) (S1.set n (.fdic kvs))
  | some (.fdic kvs)=>.ok (kvs.map fun kv=>kD kv.1) S1
  | _=>.bad
 | _=>.bad
theorem tf {K:PySem.W.Frag} {w:Wd} {H:Hp} {a:Addr} {o:Obj} {kvs:List (KD × D)} {us:List (Key × V)} (hst:∀ w' H',Ext w H w' H'→H' a=some (.frz o (.dK us))) (rk:RDk K w H kvs us):RI K w H (kvs.map fun kv=>kD kv.1) (Itk a o us):=by
 intro i w' H' x'
 have rk':=RDk.ext x' _ _ rk
 have hl:=rk.length
 have ha:=hst w' H' x'
 refine ⟨fun hi=>?_,fun hi=>⟨ha,by rw [List.length_map] at hi; omega⟩⟩
 rw [List.length_map] at hi
 refine ⟨⟨ha,us[i]'(by omega),List.getElem?_eq_getElem _⟩,fun v H'' y=>?_⟩
 obtain ⟨rfl,k,x,rfl,hx⟩:=y
 obtain ⟨v2,e2,r2⟩:=rk'.getI (i:=i) (k:=kvs[i].1) (d:=kvs[i].2) (by rw [List.getElem?_eq_getElem hi])
 rw [hx] at e2
 cases e2
 exact ⟨.inl rfl,fun S hS=>⟨kD kvs[i].1,by simp [hi],wH _⟩⟩
section
variable {X:Cx} {E:XK}
theorem o9 {tg:Expr} {d:Expr} {md:EM} (ha:SE X E d md):SI X E tg d (kM md):=⟨
 eW (yI ha.out) fun s H Q zq=>ex6 zq fun w r S hr hS hp=>⟨w,r,S,hr,hS,hp.bind hS fun d S1 w1 H1 v x1 q1 s1 p1=>by
  cases d with
  | ref m=>
   obtain ⟨pp,rfl,hp⟩:=q1.refI
   have hm:pp ∈ w1.st:=List.mem_of_getElem? hp
   cases e:S1[m]? with
   | none=>simp only [e] at p1; exact p1.elim
   | some ob=>
    obtain ⟨p',hp',ro⟩:=s1.obj _ _ e
    rw [hp] at hp'; cases hp'
    cases ob with
    | dic kvs=>
     simp only [e] at p1
     obtain ⟨us,hv,rk⟩:=ro
     refine ⟨pp,us,rfl,.inl ⟨hv,fun o=>?_⟩⟩
     have rk':=RDk.ext (Ext.mut hm hv (o:=.frz o (.dK us))) _ _ rk
     exact aE.at p1 (Ext.mut hm hv) (tf (fun w' H' x'=>x'.frz _ _ _ aH) rk') (s1.mut hp hv ⟨o,us,aH,rk'⟩)
    | fdic kvs=>
     simp only [e] at p1
     obtain ⟨o,us,hv,rk⟩:=ro
     exact ⟨pp,us,rfl,.inr ⟨o,hv,aE.ret p1 (tf (fun w' H' x'=>x'.frz _ _ _ hv) rk) s1⟩⟩
    | lst xs=>simp only [e] at p1; exact p1.elim
    | ins c fs=>simp only [e] at p1; exact p1.elim
    | flst xs=>simp only [e] at p1; exact p1.elim
  | _=>exact p1.elim⟩⟩
end
end PD
namespace L2
open PySem PySem.Spec PyProof.Rows
theorem Inv.thaw {X:Cx} {pins:List (Addr × Obj)} {σ:St} {H:Hp} {s:Shared} {a:Addr} {o:Obj} {us:List (Key × V)} (I:Inv X pins σ H s) (h:H a=some (.frz o (.dK us))) (n0:∀ o u,X.H₀ a ≠ some (.frz o u)):Inv X pins σ (upd H a (.dK us)) s:=by
 have ne:∀ b u,H b=u→u ≠ some (.frz o (.dK us))→b ≠ a:=fun b u e n z=>n (by rw [← e,z]; exact h)
 have st:∀ {b:Addr} {u:HO},bG X.prog X.w H s.heap b u→bG X.prog X.w (upd H a (.dK us)) s.heap b u:=fun x=>x.stay (fun _ _ _ q=>q) (fun c q=>by rw [aB (ne c _ q (by intro z; cases z))]; exact q) fun c xs q=>by rw [aB (ne c _ q (by intro z; cases z))]; exact q
 refine ⟨I.ok,I.os,I.bare,⟨I.base.keep,I.base.slot,fun b ob e n x=>?_,I.base.there,fun b xs e=>?_,fun b o' u e=>?_,fun b ps e=>?_⟩,I.loc,I.cell,?_,fun x c e=>?_,fun p hp=>?_,fun b u e=>?_,I.len⟩
 ·have q:=I.base.free b ob e n x
  rw [aB (ne b _ q (by intro z; cases z))]; exact q
 ·have q:=I.base.tups b xs e
  rw [aB (ne b _ q (by intro z; cases z))]; exact q
 ·have q:=I.base.frzs b o' u e
  rw [aB (fun z:b=a=>n0 o' u (z ▸ e))]; exact q
 ·obtain ⟨m,q⟩:=I.base.tbls b ps e
  exact ⟨m,by rw [aB (ne b _ q (by intro z; cases z))]; exact q⟩
 ·rw [aB (ne _ _ I.free (by intro z; cases z))]; exact I.free
 ·have q:=I.freeC x c e
  rw [aB (ne c _ q (by intro z; cases z))]; exact q
 ·obtain ⟨e,n,r⟩:=I.pin p hp
  exact ⟨e,by rw [aB (ne _ _ n (by intro z; cases z))]; exact n,r⟩
 ·by_cases hb:b=a
  ·subst hb
   rw [aH] at e
   cases e
   have q:s.heap.get? b=some o∧bG X.prog X.w H s.heap b (.dK us):=I.hok b _ h
   exact st q.2
  ·rw [aB hb] at e
   exact st (I.hok b u e)
end L2
namespace PD
open PySem PySem.Spec PyProof.Rows L2
def fY (n:Nat) (S:Sto):Sto:=match S[n]? with
 | some (.fdic kvs)=>S.set n (.dic kvs)
 | _=>S
def jO (i:Nat) (m:EM):EM:=fun r S=>match r[i]? with
 | some (some (.ref n))=>match S[n]? with
  | some (.dic _)=>(m r S).bind fun d S1=>.ok d (fY n S1)
  | _=>m r S
 | _=>m r S
section
variable {X:Cx} {E:XK}
theorem pd {i:Nat} {e:Expr} {m:EM} (h:SE X E e m):SE X E e (jO i m):=⟨by
 intro pins s σ H Q I ⟨w,r,S,hr,hS,hp⟩
 unfold jO at hp
 split at hp
 ·rename_i n hri
  split at hp
  ·rename_i kvs0 hn
   obtain ⟨pp,hpp,us0,hv,rk0⟩:=hS.obj n _ hn
   have hmem:pp ∈ w.st:=List.mem_of_getElem? hpp
   have n0:∀ o u,X.H₀ pp ≠ some (.frz o u):=fun o u z=>by
    have q:=I.base.frzs pp o u z
    rw [hv] at q; cases q
   let Q':VK:=fun x H1=>∃ H2,Q x H2∧(H2=H1 ∨ ∃ o us,H1 pp=some (.frz o (.dK us))∧H2=upd H1 pp (.dK us))
   refine wpAny_mono (h.out pins s σ H Q' I ⟨w,r,S,hr,hS,?_⟩) (fun v s1 q=>?_) fun _ _ z=>z
   ·cases hm:m r S with
    | err y S1=>rw [hm] at hp; exact hp
    | bad=>rw [hm] at hp; exact hp.elim
    | ok d S1=>
     rw [hm] at hp
     intro w1 H1 b x1 rb s1
     have hp':aE X.K E (RD X.K) w H (R.ok d (fY n S1)) Q:=hp
     obtain ⟨l,el,fl⟩:=x1.sub
     have hpp1:w1.st[n]?=some pp:=by
      rw [el,List.getElem?_append_left (List.getElem?_eq_some_iff.mp hpp).1]; exact hpp
     have hmem1:pp ∈ w1.st:=List.mem_of_getElem? hpp1
     cases hS1:S1[n]? with
     | none=>
      have e1:fY n S1=S1:=by unfold fY; rw [hS1]
      rw [e1] at hp'
      exact ⟨H1,hp' w1 H1 b x1 rb s1,.inl rfl⟩
     | some ob=>
      cases ob with
      | fdic kvs=>
       have e1:fY n S1=S1.set n (.dic kvs):=by unfold fY; rw [hS1]
       rw [e1] at hp'
       obtain ⟨p',hp1,o,us,hv1,rk⟩:=s1.obj n _ hS1
       rw [hpp1] at hp1; cases hp1
       refine ⟨upd H1 pp (.dK us),?_,.inr ⟨o,us,hv1,rfl⟩⟩
       have mv:Mv w1 H1 w1 (upd H1 pp (.dK us)):=⟨fun _ _ z=>z,fun a o z=>⟨by rw [aB (fun y:a=pp=>z.2.1 (y ▸ hmem1))]; exact z.1,z.2.1,z.2.2⟩⟩
       refine hp' w1 (upd H1 pp (.dK us)) b ⟨fun a o h1 n1=>?_,x1.sub,x1.hid,x1.hnew,fun a o u h1=>?_⟩ (RD.mv mv _ _ rb) ⟨s1.nd,by rw [List.length_set]; exact s1.len,fun m' so e=>?_,fun a ha=>?_⟩
       ·rw [aB (fun y:a=pp=>n1 (y ▸ hmem))]; exact x1.keep a o h1 n1
       ·rw [aB (fun y:a=pp=>by rw [y,hv] at h1; cases h1)]; exact x1.frz a o u h1
       ·by_cases hmn:m'=n
        ·subst hmn
         have hl:m' < S1.length:=(List.getElem?_eq_some_iff.mp hS1).1
         rw [List.getElem?_set_self hl] at e
         cases e
         exact ⟨pp,hpp1,us,aH,RDk.mv mv _ _ rk⟩
        ·rw [List.getElem?_set_ne (Ne.symm hmn)] at e
         obtain ⟨a,ha,ro⟩:=s1.obj m' so e
         have hne:a ≠ pp:=fun z=>by
          subst z
          obtain ⟨i1,e1⟩:=List.getElem?_eq_some_iff.mp ha
          obtain ⟨i2,e2⟩:=List.getElem?_eq_some_iff.mp hpp1
          exact hmn ((List.getElem_inj s1.nd).mp (e1.trans e2.symm))
         exact ⟨a,ha,ro.mv mv fun u z=>by rw [aB hne]; exact z⟩
       ·obtain ⟨h1,o1,h2⟩:=s1.hid a ha
        exact ⟨h1,o1,by rw [aB (fun y:a=pp=>h1 (y ▸ hmem1))]; exact h2⟩
      | dic kvs=>
       have e1:fY n S1=S1:=by unfold fY; rw [hS1]
       rw [e1] at hp'
       exact ⟨H1,hp' w1 H1 b x1 rb s1,.inl rfl⟩
      | lst kvs=>
       have e1:fY n S1=S1:=by unfold fY; rw [hS1]
       rw [e1] at hp'
       exact ⟨H1,hp' w1 H1 b x1 rb s1,.inl rfl⟩
      | flst kvs=>
       have e1:fY n S1=S1:=by unfold fY; rw [hS1]
       rw [e1] at hp'
       exact ⟨H1,hp' w1 H1 b x1 rb s1,.inl rfl⟩
      | ins c f=>
       have e1:fY n S1=S1:=by unfold fY; rw [hS1]
       rw [e1] at hp'
       exact ⟨H1,hp' w1 H1 b x1 rb s1,.inl rfl⟩
   ·obtain ⟨x,H1,I1,rx,H2,q,hh⟩:=q
    rcases hh with rfl | ⟨o,us,hf,rfl⟩
    ·exact ⟨x,_,I1,rx,q⟩
    ·exact ⟨x,_,I1.thaw hf n0,rx,q⟩
  ·exact h.out pins s σ H Q I ⟨w,r,S,hr,hS,hp⟩
 ·exact h.out pins s σ H Q I ⟨w,r,S,hr,hS,hp⟩⟩
end
end PD
namespace PySem
open PyProof.Rows
section
variable {prog:Program} {w:World} {A:Around} {E:Value→Shared→Prop} {s:Shared} {K:Type} [DecidableEq K] {knd:KeyKind prog w K}
end
end PySem
namespace PD
open PySem PySem.Spec PyProof.Rows L2
section
variable {X:Cx} {E:XK}
end
end PD
namespace PD
open PySem PySem.Spec PyProof.Rows L2
open AutoSeq1 (wpAny_loadPart')
open MeetsSeq MeetsSeq2 MeetsSeq3 SeqRoads2 PySem.SeqAt
end PD
namespace PD
open PySem PySem.Spec PyProof.Rows L2
section
variable {prog:Program} {w:World} {A:Around} {R:Result→Shared→Prop} {I:Addr} {fp wr:List Addr} {n:Nat} {P:Nat→Value→Prop} {St:Nat→Heap→Prop} {h0:Heap} {bt:Nat→Nat→Bool} {S:Addr} {kw:List (Str × Value)}
end
end PD
namespace PD
open PySem PySem.Spec PyProof.Rows L2
section
variable {X:Cx} {E:XK} {pins:List (Addr × Obj)} {σ:L2.St} {H:Hp} {s:Shared}
end
section
variable {prog:Program} {w:World} {A:Around} {E:Value→Shared→Prop} {s:Shared}
end
end PD
namespace PD
open PySem PySem.Spec PyProof.Rows L2
section
variable {prog:Program} {w:World} {A:Around} {E:Value→Shared→Prop} {s:Shared}
end
section
variable {X:Cx} {E:XK}
variable {a:Expr} {ms:AM} {x:Str} {p pos kp:Pos} {id:String} {nm:Str}
end
end PD
namespace SR
open PySem PyProof.Rows
abbrev SM (α:Type):=StateT SortSt Sem α
def Up (xs:Array Keyed) (lo hi:Nat):Prop:=∀ i j,lo≤i→i≤j→j < hi→K xs i≤K xs j
def Dn (xs:Array Keyed) (lo hi:Nat):Prop:=∀ i j,lo≤i→i≤j→j < hi→K xs j≤K xs i
def Num (p:Keyed):Prop:=∃ n t,p.1=.int n t
def IK (xs:Array Keyed):Prop:=∀ p ∈ xs.toList,Num p
theorem IK.get {xs:Array Keyed} (h:IK xs) {i:Nat} (hi:i < xs.size):Num xs[i]:=h _ (by simp)
theorem bP {xs:Array Keyed} {i:Nat} (hi:i < xs.size):K xs i=numOf xs[i].1:=by unfold K; rw [getElem?_pos xs i hi]
section
variable {prog:Program} {w:World} {A:Around} {E:Value→Shared→Prop} {s:Shared}
theorem qr {st:SortSt} {p q:Keyed} {Q:Option Bool→SortSt→Prop} (hk:kindOf st=oneType') (hp:Num p) (hq:Num q) (h:Q (some (decide (numOf p.1 < numOf q.1))) st):wpS (model prog w) A E s (lt' p q) Q st:=by
 obtain ⟨p1,p2⟩:=p
 obtain ⟨q1,q2⟩:=q
 obtain ⟨a,t,e1⟩:=hp
 obtain ⟨b,u,e2⟩:=hq
 dsimp only at e1 e2
 subst e1 e2
 rw [lt'_eq]
 refine wpS_bind (wpS_get ?_)
 rw [hk,keyLt'_oneType]
 exact wpS_bind (wpS_lift (wpAny_attempt (oneLt_int ⟨rfl,wpS_pure h⟩)))
theorem aX {st:SortSt} {xs:Array Keyed} {i:Nat} {Q:Keyed→SortSt→Prop} (hi:i < xs.size) (h:Q xs[i] st):wpS (model prog w) A E s (elem' xs i) Q st:=by
 rw [elem'_eq,getElem?_pos xs i hi]
 exact wpS_pure h
end
def gal:Bool→Keyed→Array Keyed→Nat→Nat→Nat→SM (Option Nat):=sortPriv% PySem.Builtin.gallop
def by1 (left:Bool) (key:Keyed) (arr:Array Keyed) (z:Nat):SM (Option Bool):=do
 let x ← elem' arr z
 if left then lt' x key else return (← lt' key x).map (!·)
theorem Bc (left:Bool) (key:Keyed) (arr:Array Keyed) (base n hint:Nat):gal left key arr base n hint=(do
 let f:Nat→SM (Option Bool):=fun i=>by1 left key arr (base + i)
 let mut l1:=0
 let mut o1:=1
 let mut lo:=0
 let mut hi:=0
 let some rg ← f hint | return none
 if rg then
  let mx:=n - hint
  for _ in [0:n] do
   if o1 ≥ mx then break
   let some b ← f (hint + o1) | return none
   if !b then break
   l1:=o1
   o1:=2 * o1 + 1
  lo:=hint + l1 + 1
  hi:=hint + min o1 mx
 else
  let mx:=hint + 1
  for _ in [0:n] do
   if o1 ≥ mx then break
   let some b ← f (hint - o1) | return none
   if b then break
   l1:=o1
   o1:=2 * o1 + 1
  lo:=hint + 1 - min o1 mx
  hi:=hint - l1
 for _ in [0:n] do
  if lo ≥ hi then break
  let m:=lo + (hi - lo) / 2
  let some b ← f m | return none
  if b then lo:=m + 1 else hi:=m
 return some hi):=rfl
section
variable {prog:Program} {w:World} {A:Around} {E:Value→Shared→Prop} {s:Shared}
def bef (left:Bool) (key:Keyed) (arr:Array Keyed) (i:Nat):Bool:=if left=true then decide (K arr i < numOf key.1) else !decide (numOf key.1 < K arr i)
theorem jP {left:Bool} {key:Keyed} {arr:Array Keyed} {lo hi:Nat} (hs:Up arr lo hi) {i j:Nat} (hi1:lo≤i) (hij:i≤j) (hj:j < hi) (h:bef left key arr j=true):bef left key arr i=true:=by
 have z:=hs i j hi1 hij hj
 cases left
 ·simp [bef] at h ⊢; omega
 ·simp [bef] at h ⊢; omega
theorem pe {left:Bool} {key:Keyed} {arr:Array Keyed} {i:Nat} {st:SortSt} {Q:Option Bool→SortSt→Prop} (hk:kindOf st=oneType') (ha:IK arr) (hy:Num key) (hi:i < arr.size) (h:Q (some (bef left key arr i)) st):wpS (model prog w) A E s (by1 left key arr i) Q st:=by
 unfold by1
 refine wpS_bind (aX hi ?_)
 have e:=bP hi
 cases left
 ·refine wpS_bind (qr hk hy (ha.get hi) (wpS_pure ?_))
  simpa [bef,e] using h
 ·refine qr hk (ha.get hi) hy ?_
  simpa [bef,e] using h
theorem zD {left:Bool} {key:Keyed} {arr:Array Keyed} {base n lo hi:Nat} {st:SortSt} {Q:Option (Option Nat) × Nat × Nat→SortSt→Prop} (hk:kindOf st=oneType') (ha:IK arr) (hy:Num key) (hn:base + n≤arr.size) (hs:Up arr base (base + n))
  (h1:lo≤hi) (h2:hi≤n) (h3:∀ i,i < lo→bef left key arr (base + i)=true) (h4:∀ i,hi≤i→i < n→bef left key arr (base + i)=false)
  (h:∀ l k,k≤n→(∀ i,i < k→bef left key arr (base + i)=true)→(∀ i,k≤i→i < n→bef left key arr (base + i)=false)→Q (none,l,k) st):
  wpS (model prog w) A E s (forIn [0:n] ((none,lo,hi):Option (Option Nat) × Nat × Nat) fun _ c=>
    if c.2.1 ≥ c.2.2 then pure (.done (none,c.2.1,c.2.2)) else do
     match ← by1 left key arr (base + (c.2.1 + (c.2.2 - c.2.1) / 2)) with
     | some b=>if b=true then pure (.yield (none,c.2.1 + (c.2.2 - c.2.1) / 2 + 1,c.2.2)) else pure (.yield (none,c.2.1,c.2.1 + (c.2.2 - c.2.1) / 2))
     | _=>pure (.done (some none,c.2.1,c.2.2))) Q st:=by
 refine wpS_mono (wpS_forRange (I:=fun x c st'=>st'=st∧∃ l u,c=(none,l,u)∧l≤u∧u≤n∧u - l≤n - x∧(∀ i,i < l→bef left key arr (base + i)=true)∧(∀ i,u≤i→i < n→bef left key arr (base + i)=false))
  (Q:=fun c st'=>st'=st∧∃ l u,c=(none,l,u)∧u≤n∧(∀ i,i < u→bef left key arr (base + i)=true)∧(∀ i,u≤i→i < n→bef left key arr (base + i)=false)) ?a ?b ⟨rfl,lo,hi,rfl,h1,h2,by omega,h3,h4⟩) ?c
 case b=>
  rintro c st' ⟨rfl,l,u,rfl,b1,b2,b3,b4,b5⟩
  have:l=u:=by omega
  subst this
  exact ⟨rfl,l,l,rfl,b2,b4,b5⟩
 case c=>
  rintro c st' ⟨rfl,l,u,rfl,b2,b4,b5⟩
  exact h l u b2 b4 b5
 case a=>
  rintro x c st' _ hx ⟨rfl,l,u,rfl,b1,b2,b3,b4,b5⟩
  dsimp only
  by_cases g:l ≥ u
  ·rw [if_pos g]
   have:l=u:=by omega
   subst this
   exact wpS_pure ⟨rfl,l,l,rfl,b2,b4,b5⟩
  ·rw [if_neg g]
   refine wpS_bind (pe hk ha hy (by omega) ?_)
   dsimp only
   cases eb:bef left key arr (base + (l + (u - l) / 2)) with
   | true=>
    rw [if_pos rfl]
    refine wpS_pure ⟨rfl,_,_,rfl,by omega,b2,by omega,fun i hi=>?_,b5⟩
    exact jP hs (by omega) (by omega) (by omega) eb
   | false=>
    rw [if_neg Bool.false_ne_true]
    refine wpS_pure ⟨rfl,_,_,rfl,by omega,by omega,by omega,b4,fun i h1 h2=>?_⟩
    cases e2:bef left key arr (base + i) with
    | false=>rfl
    | true=>
     have:=jP (left:=left) (key:=key) hs (i:=base + (l + (u - l) / 2)) (j:=base + i) (by omega) (by omega) (by omega) e2
     rw [eb] at this
     cases this
theorem jx {left:Bool} {key:Keyed} {arr:Array Keyed} {base n hint:Nat} {st:SortSt} {Q:Option Nat→SortSt→Prop} (hk:kindOf st=oneType') (ha:IK arr) (hy:Num key) (hn:base + n≤arr.size) (hh:hint < n) (hs:Up arr base (base + n))
  (h:∀ k,k≤n→(∀ i,i < k→bef left key arr (base + i)=true)→(∀ i,k≤i→i < n→bef left key arr (base + i)=false)→Q (some k) st):
  wpS (model prog w) A E s (gal left key arr base n hint) Q st:=by
 have no:∀ i j,i≤j→j < n→bef left key arr (base + i)=false→bef left key arr (base + j)=false:=fun i j h1 h2 e=>by
  cases e2:bef left key arr (base + j) with
  | false=>rfl
  | true=>
   have:=jP (left:=left) (key:=key) hs (i:=base + i) (j:=base + j) (by omega) (by omega) (by omega) e2
   rw [e] at this
   cases this
 have ys:∀ i j,i≤j→j < n→bef left key arr (base + j)=true→bef left key arr (base + i)=true:=fun i j h1 h2 e=>
  jP hs (by omega) (by omega) (by omega) e
 rw [Bc]
 dsimp only
 refine wpS_bind (pe hk ha hy (by omega) ?_)
 dsimp only
 cases e0:bef left key arr (base + hint) with
 | true=>
  rw [if_pos rfl]
  refine wpS_bind (wpS_mono (wpS_forRange (I:=fun x c st'=>st'=st∧∃ l o,c=(none,l,o)∧l < o∧x + 1≤o∧l < n - hint∧bef left key arr (base + (hint + l))=true)
   (Q:=fun c st'=>st'=st∧∃ l o,c=(none,l,o)∧l < o∧l < n - hint∧bef left key arr (base + (hint + l))=true∧(o < n - hint→bef left key arr (base + (hint + o))=false)) ?a ?b ⟨rfl,0,1,rfl,by omega,by omega,by omega,e0⟩) ?c)
  case b=>
   rintro c st' ⟨rfl,l,o,rfl,b1,b2,b3,b4⟩
   exact ⟨rfl,l,o,rfl,b1,b3,b4,fun z=>by omega⟩
  case a=>
   rintro x c st' _ hx ⟨rfl,l,o,rfl,b1,b2,b3,b4⟩
   dsimp only
   by_cases g:o ≥ n - hint
   ·rw [if_pos g]
    exact wpS_pure ⟨rfl,l,o,rfl,b1,b3,b4,fun z=>by omega⟩
   ·rw [if_neg g]
    refine wpS_bind (pe hk ha hy (by omega) ?_)
    dsimp only
    cases eb:bef left key arr (base + (hint + o)) with
    | false=>
     rw [if_pos (by decide)]
     exact wpS_pure ⟨rfl,l,o,rfl,b1,b3,b4,fun _=>eb⟩
    | true=>
     rw [if_neg (by decide)]
     exact wpS_pure ⟨rfl,o,2 * o + 1,rfl,by omega,by omega,by omega,eb⟩
  case c=>
   rintro c st' ⟨rfl,l,o,rfl,b1,b3,b4,b5⟩
   dsimp only
   refine wpS_bind (zD (lo:=hint + l + 1) (hi:=hint + min o (n - hint)) hk ha hy hn hs (by omega) (by omega) (fun i hi=>?_) (fun i h1 h2=>?_) fun _ k a b c=>wpS_pure (h k a b c))
   ·exact ys i (hint + l) (by omega) (by omega) b4
   ·by_cases g:o < n - hint
    ·exact no (hint + o) i (by omega) h2 (b5 g)
    ·omega
 | false=>
  rw [if_neg Bool.false_ne_true]
  refine wpS_bind (wpS_mono (wpS_forRange (I:=fun x c st'=>st'=st∧∃ l o,c=(none,l,o)∧l < o∧x + 1≤o∧l≤hint∧bef left key arr (base + (hint - l))=false)
   (Q:=fun c st'=>st'=st∧∃ l o,c=(none,l,o)∧l < o∧l≤hint∧bef left key arr (base + (hint - l))=false∧(o≤hint→bef left key arr (base + (hint - o))=true)) ?a ?b ⟨rfl,0,1,rfl,by omega,by omega,by omega,e0⟩) ?c)
  case b=>
   rintro c st' ⟨rfl,l,o,rfl,b1,b2,b3,b4⟩
   exact ⟨rfl,l,o,rfl,b1,b3,b4,fun z=>by omega⟩
  case a=>
   rintro x c st' _ hx ⟨rfl,l,o,rfl,b1,b2,b3,b4⟩
   dsimp only
   by_cases g:o ≥ hint + 1
   ·rw [if_pos g]
    exact wpS_pure ⟨rfl,l,o,rfl,b1,b3,b4,fun z=>by omega⟩
   ·rw [if_neg g]
    refine wpS_bind (pe hk ha hy (by omega) ?_)
    dsimp only
    cases eb:bef left key arr (base + (hint - o)) with
    | true=>
     rw [if_pos rfl]
     exact wpS_pure ⟨rfl,l,o,rfl,b1,b3,b4,fun _=>eb⟩
    | false=>
     rw [if_neg Bool.false_ne_true]
     exact wpS_pure ⟨rfl,o,2 * o + 1,rfl,by omega,by omega,by omega,eb⟩
  case c=>
   rintro c st' ⟨rfl,l,o,rfl,b1,b3,b4,b5⟩
   dsimp only
   refine wpS_bind (zD (lo:=hint + 1 - min o (hint + 1)) (hi:=hint - l) hk ha hy hn hs (by omega) (by omega) (fun i hi=>?_) (fun i h1 h2=>?_) fun _ k a b c=>wpS_pure (h k a b c))
   ·by_cases g:o≤hint
    ·exact ys i (hint - o) (by omega) (by omega) (b5 g)
    ·omega
   ·exact no (hint - l) i (by omega) h2 b4
end
end SR
namespace SR
open PySem PyProof.Rows
def mLo:Array Keyed→Array Keyed→SM (Array Keyed):=sortPriv% PySem.Builtin.mergeLo
def sMG:Nat→SM Unit:=sortPriv% PySem.Builtin.setMinGallop
theorem Bd (a b:Array Keyed):mLo a b=(do
 rule "list.sort.merge-lo"
 let tt:=a.size + b.size
 let dn (o:Array Keyed) (i j:Nat):=o ++ a.extract i a.size ++ b.extract j b.size
 let la (o:Array Keyed) (i j:Nat):=o ++ b.extract j b.size ++ a.extract i a.size
 let mut o:Array Keyed:=#[← elem' b 0]
 let mut i:=0
 let mut j:=1
 if j == b.size then return dn o i j
 if i + 1 == a.size then return la o i j
 let mut g:=gallopOf (← get)
 for _ in [0:tt] do
  let mut ca:=0
  let mut cb:=0
  for _ in [0:tt] do
   let some v ← lt' (← elem' b j) (← elem' a i) | return dn o i j
   if v then
    o:=o.push (← elem' b j); j:=j + 1; cb:=cb + 1; ca:=0
    if j == b.size then return dn o i j
    if cb ≥ g then break
   else
    o:=o.push (← elem' a i); i:=i + 1; ca:=ca + 1; cb:=0
    if i + 1 == a.size then return la o i j
    if ca ≥ g then break
  rule "list.sort.gallop"
  g:=g + 1
  for _ in [0:tt] do
   if g > 1 then g:=g - 1
   sMG g
   let some k ← gal false (← elem' b j) a i (a.size - i) 0 | return dn o i j
   ca:=k
   if k > 0 then
    o:=o ++ a.extract i (i + k); i:=i + k
    if i + 1 == a.size then return la o i j
    if i == a.size then return dn o i j
   o:=o.push (← elem' b j); j:=j + 1
   if j == b.size then return dn o i j
   let some k ← gal true (← elem' a i) b j (b.size - j) 0 | return dn o i j
   cb:=k
   if k > 0 then
    o:=o ++ b.extract j (j + k); j:=j + k
    if j == b.size then return dn o i j
   o:=o.push (← elem' a i); i:=i + 1
   if i + 1 == a.size then return la o i j
   if ca < 7 && cb < 7 then break
  g:=g + 1
  sMG g
 unsupported "internal:list.sort.merge-bound"):=rfl
def ke (p:Keyed):Int:=numOf p.1
def Sd (l:List Keyed):Prop:=l.Pairwise fun p q=>ke p≤ke q
structure Ml (tot o X Y:List Keyed):Prop where
 perm:(o ++ (X ++ Y)).Perm tot
 sd:Sd o
 le:∀ p ∈ o,∀ q ∈ X ++ Y,ke p≤ke q
theorem Ml.left {tot o L X Y:List Keyed} (h:Ml tot o (L ++ X) Y) (hs:Sd (L ++ X)) (hl:∀ p ∈ L,∀ q ∈ Y,ke p≤ke q):Ml tot (o ++ L) X Y:=by
 obtain ⟨s1,s2,s3⟩:=List.pairwise_append.mp hs
 refine ⟨by simpa [List.append_assoc] using h.perm,List.pairwise_append.mpr ⟨h.sd,s1,fun p hp q hq=>h.le p hp q (by simp [hq])⟩,fun p hp q hq=>?_⟩
 rcases List.mem_append.mp hp with hp | hp
 ·refine h.le p hp q ?_
  rcases List.mem_append.mp hq with hq | hq <;> simp [hq]
 ·rcases List.mem_append.mp hq with hq | hq
  ·exact s3 p hp q hq
  ·exact hl p hp q hq
theorem Ml.swap {tot o X Y:List Keyed} (h:Ml tot o X Y):Ml tot o Y X:=⟨(List.perm_append_comm.append_left o).trans h.perm,h.sd,fun p hp q hq=>h.le p hp q (by rcases List.mem_append.mp hq with z | z <;> simp [z])⟩
theorem Ml.right {tot o L X Y:List Keyed} (h:Ml tot o X (L ++ Y)) (hs:Sd (L ++ Y)) (hl:∀ p ∈ L,∀ q ∈ X,ke p≤ke q):Ml tot (o ++ L) X Y:=(h.swap.left hs hl).swap
theorem Ml.done {tot o:List Keyed} (h:Ml tot o [] []):o.Perm tot∧Sd o:=⟨by simpa using h.perm,h.sd⟩
def Mg (a b o:Array Keyed) (i j:Nat):Prop:=Ml (a.toList ++ b.toList) o.toList (a.toList.drop i) (b.toList.drop j)
def Good (a b r:Array Keyed):Prop:=r.toList.Perm (a.toList ++ b.toList)∧Sd r.toList
theorem fP {a:Array Keyed} (h:Up a 0 a.size):Sd a.toList:=by
 unfold Sd
 rw [List.pairwise_iff_getElem]
 intro i j hi hj hij
 have hi':i < a.size:=by simpa using hi
 have hj':j < a.size:=by simpa using hj
 have z:=h i j (Nat.zero_le _) (Nat.le_of_lt hij) hj'
 rw [bP hi',bP hj'] at z
 simpa [ke] using z
theorem CO {a:Array Keyed} (h:Sd a.toList):Up a 0 a.size:=by
 intro i j _ hij hj
 by_cases e:i=j
 ·subst e; exact Int.le_refl _
 ·unfold Sd at h
  rw [List.pairwise_iff_getElem] at h
  have z:=h i j (by simpa using (by omega:i < a.size)) (by simpa using hj) (by omega)
  rw [bP (by omega),bP hj]
  simpa [ke] using z
theorem Sd.drop {l:List Keyed} (h:Sd l) (i:Nat):Sd (l.drop i):=List.Pairwise.sublist (List.drop_sublist i l) h
theorem jQ {a:Array Keyed} {i:Nat} (hi:i < a.size):a.toList.drop i=[a[i]] ++ a.toList.drop (i + 1):=by
 rw [List.drop_eq_getElem_cons (by simpa using hi)]
 simp
theorem jR {a:Array Keyed} (i k:Nat):a.toList.drop i=(a.toList.drop i).take k ++ a.toList.drop (i + k):=by
 rw [← List.drop_drop,List.take_append_drop]
theorem fe (a:Array Keyed) (i j:Nat):(a.extract i j).toList=(a.toList.drop i).take (j - i):=by
 rw [Array.toList_extract]
theorem gP {a:Array Keyed} {i:Nat} {p:Keyed} (h:p ∈ a.toList.drop i):∃ t,i≤t∧t < a.size∧ke p=K a t:=by
 obtain ⟨n,hn,e⟩:=List.mem_iff_getElem.mp h
 have hl:i + n < a.size:=by simp at hn; omega
 refine ⟨i + n,by omega,hl,?_⟩
 rw [bP hl,← e]
 simp [ke]
theorem i6 {a:Array Keyed} {i k:Nat} {p:Keyed} (h:p ∈ (a.toList.drop i).take k):∃ t,t < k∧i + t < a.size∧ke p=K a (i + t):=by
 obtain ⟨n,hn,e⟩:=List.mem_iff_getElem.mp h
 have hl:n < k∧i + n < a.size:=by simp at hn; omega
 refine ⟨n,hl.1,hl.2,?_⟩
 rw [bP hl.2,← e]
 simp [ke]
section
variable {a b o:Array Keyed} {i j k:Nat}
theorem Mg.bulkA (ha:Up a 0 a.size) (hb:Up b 0 b.size) (h:Mg a b o i j) (hj:j < b.size) (hk:∀ t,t < k→i + t < a.size→K a (i + t)≤K b j):Mg a b (o ++ a.extract i (i + k)) (i + k) j:=by
 unfold Mg at h ⊢
 have e:(o ++ a.extract i (i + k)).toList=o.toList ++ (a.toList.drop i).take k:=by rw [Array.toList_append,fe]; simp
 rw [e]
 rw [jR i k] at h
 refine h.left (by rw [← jR]; exact (fP ha).drop i) fun p hp q hq=>?_
 obtain ⟨t,t1,t2,e1⟩:=i6 hp
 obtain ⟨u,u1,u2,e2⟩:=gP hq
 have:=hk t t1 t2
 have:=hb j u (Nat.zero_le _) u1 u2
 omega
theorem Mg.bulkB (ha:Up a 0 a.size) (hb:Up b 0 b.size) (h:Mg a b o i j) (hi:i < a.size) (hk:∀ t,t < k→j + t < b.size→K b (j + t)≤K a i):Mg a b (o ++ b.extract j (j + k)) i (j + k):=by
 unfold Mg at h ⊢
 have e:(o ++ b.extract j (j + k)).toList=o.toList ++ (b.toList.drop j).take k:=by rw [Array.toList_append,fe]; simp
 rw [e]
 rw [jR j k] at h
 refine h.right (by rw [← jR]; exact (fP hb).drop j) fun p hp q hq=>?_
 obtain ⟨t,t1,t2,e1⟩:=i6 hp
 obtain ⟨u,u1,u2,e2⟩:=gP hq
 have:=hk t t1 t2
 have:=ha i u (Nat.zero_le _) u1 u2
 omega
theorem Mg.pushA (ha:Up a 0 a.size) (hb:Up b 0 b.size) (h:Mg a b o i j) (hi:i < a.size) (hj:j < b.size) (hk:K a i≤K b j):Mg a b (o.push a[i]) (i + 1) j:=by
 unfold Mg at h ⊢
 rw [jQ hi] at h
 rw [Array.toList_push]
 refine h.left (by rw [← jQ hi]; exact (fP ha).drop i) fun p hp q hq=>?_
 rw [List.mem_singleton.mp hp]
 obtain ⟨u,u1,u2,e2⟩:=gP hq
 have:=hb j u (Nat.zero_le _) u1 u2
 have e:=bP hi
 unfold ke at e2 ⊢
 omega
theorem Mg.pushB (ha:Up a 0 a.size) (hb:Up b 0 b.size) (h:Mg a b o i j) (hi:i < a.size) (hj:j < b.size) (hk:K b j≤K a i):Mg a b (o.push b[j]) i (j + 1):=by
 unfold Mg at h ⊢
 rw [jQ hj] at h
 rw [Array.toList_push]
 refine h.right (by rw [← jQ hj]; exact (fP hb).drop j) fun p hp q hq=>?_
 rw [List.mem_singleton.mp hp]
 obtain ⟨u,u1,u2,e2⟩:=gP hq
 have:=ha i u (Nat.zero_le _) u1 u2
 have e:=bP hj
 unfold ke at e2 ⊢
 omega
theorem ly (a:Array Keyed) (i:Nat):(a.extract i a.size).toList=a.toList.drop i:=by
 rw [fe,List.take_of_length_le (by simp)]
theorem Mg.dn (ha:Up a 0 a.size) (hb:Up b 0 b.size) (h:Mg a b o i j) (hz:j=b.size ∨ i=a.size):Good a b (o ++ a.extract i a.size ++ b.extract j b.size):=by
 unfold Mg at h
 unfold Good
 rw [Array.toList_append,Array.toList_append,ly,ly]
 rcases hz with rfl | rfl
 ·have e:b.toList.drop b.size=[]:=by simp
  rw [e] at h ⊢
  rw [List.append_nil]
  refine Ml.done (Ml.left (by simpa using h) (by simpa using (fP ha).drop i) fun p hp q hq=>by cases hq)
 ·have e:a.toList.drop a.size=[]:=by simp
  rw [e] at h ⊢
  rw [List.append_nil]
  refine Ml.done (Ml.right (by simpa using h) (by simpa using (fP hb).drop j) fun p hp q hq=>by cases hq)
theorem Mg.la (ha:Up a 0 a.size) (hb:Up b 0 b.size) (h:Mg a b o i j) (hi:i + 1=a.size) (hl:∀ t,t < b.size→K b t≤K a (a.size - 1)):Good a b (o ++ b.extract j b.size ++ a.extract i a.size):=by
 unfold Mg at h
 unfold Good
 rw [Array.toList_append,Array.toList_append,ly,ly]
 have h1:Ml (a.toList ++ b.toList) (o.toList ++ b.toList.drop j) (a.toList.drop i) []:=by
  refine Ml.right (by simpa using h) (by simpa using (fP hb).drop j) fun p hp q hq=>?_
  obtain ⟨t,t1,t2,e1⟩:=gP hp
  obtain ⟨u,u1,u2,e2⟩:=gP hq
  have:=hl t t2
  have:u=a.size - 1:=by omega
  subst this
  omega
 exact Ml.done (Ml.left (by simpa using h1) (by simpa using (fP ha).drop i) fun p hp q hq=>by cases hq)
end
section
variable {prog:Program} {w:World} {A:Around} {E:Value→Shared→Prop} {s:Shared}
def Sg (st st':SortSt):Prop:=kindOf st'=kindOf st∧arrOf st'=arrOf st∧pendingOf st'=pendingOf st∧failedOf st'=failedOf st
theorem Sg.refl (st:SortSt):Sg st st:=⟨rfl,rfl,rfl,rfl⟩
theorem pf {st0 st:SortSt} {g:Nat} {Q:Unit→SortSt→Prop} (h0:Sg st0 st) (h:∀ st',Sg st0 st'→Q () st'):wpS (model prog w) A E s (sMG g) Q st:=by
 have e:sMG g=modify fun st=>SortSt.mk' (kindOf st) (arrOf st) (pendingOf st) g (failedOf st):=rfl
 rw [e]
 exact wpS_modify (h _ ⟨h0.1,h0.2.1,h0.2.2.1,h0.2.2.2⟩)
end
end SR
namespace SR
open PySem PyProof.Rows
section
variable {prog:Program} {w:World} {A:Around} {E:Value→Shared→Prop} {s:Shared}
structure Mid (a b o:Array Keyed) (i j:Nat):Prop where
 mg:Mg a b o i j
 ia:i + 1 < a.size
 jb:j < b.size
theorem yJ {σ α β:Type} {M:Model} {c:Prop} {dc:Decidable c} {T:β→StateT σ Sem α} {p:StateT σ Sem α} {Q:α→σ→Prop} {st:σ} {y x:β} (hp:p=T x) (h:∀ g,wpS M A E s (T g) Q st):wpS M A E s (if c then p else T y) Q st:=by
 split
 ·rw [hp]; exact h x
 ·exact h y
theorem wO {σ α β γ:Type} {M:Model} {c:Prop} {dc:Decidable c} {T:β→γ→StateT σ Sem α} {p:StateT σ Sem α} {Q:α→σ→Prop} {st:σ} {I:β→γ→Prop} {y1:β} {y2:γ} (hn:¬ c→I y1 y2)
  (ht:∀ o i,I o i→wpS M A E s (T o i) Q st) (hp:c→(∀ o i,I o i→wpS M A E s (T o i) Q st)→wpS M A E s p Q st):wpS M A E s (if c then p else T y1 y2) Q st:=by
 by_cases hc:c
 ·rw [if_pos hc]; exact hp hc ht
 ·rw [if_neg hc]; exact ht _ _ (hn hc)
theorem Be {a b:Array Keyed} {st:SortSt} {Q:Array Keyed→SortSt→Prop} (hk:kindOf st=oneType') (ia:IK a) (ib:IK b) (ha:Up a 0 a.size) (hb:Up b 0 b.size) (a1:1≤a.size) (b1:1≤b.size) (h0:K b 0≤K a 0) (hl:∀ t,t < b.size→K b t≤K a (a.size - 1))
  (h:∀ r st',Good a b r→Sg st st'→Q r st'):wpS (model prog w) A E s (mLo a b) Q st:=by
 rw [Bd]
 dsimp only
 refine wpS_bind (wpS_lift (wpAny_rule ⟨rfl,?_⟩))
 refine wpS_bind (aX (by omega) ?_)
 have m0:Mg a b #[b[0]] 0 1:=by
  have z:Mg a b #[] 0 0:=⟨by simp,List.Pairwise.nil,fun p hp=>by cases hp⟩
  exact z.pushB ha hb (by omega) (by omega) h0
 by_cases g1:1=b.size
 ·rw [if_pos (by simpa using g1)]
  exact wpS_pure (h _ _ (m0.dn ha hb (.inl g1)) (Sg.refl st))
 rw [if_neg (by simpa using g1)]
 by_cases g2:0 + 1=a.size
 ·rw [if_pos (by simpa using g2)]
  exact wpS_pure (h _ _ (m0.la ha hb g2 hl) (Sg.refl st))
 rw [if_neg (by simpa using g2)]
 refine wpS_bind (wpS_get ?_)
 have kd:∀ {st'},Sg st st'→kindOf st'=oneType':=fun z=>z.1.trans hk
 refine wpS_bind (wpS_mono (wpS_forRange (I:=fun x c st'=>Sg st st'∧∃ o i j g,c=(none,o,i,j,g)∧Mid a b o i j∧x + 1≤i + j)
  (Q:=fun c st'=>Sg st st'∧∃ r,c.1=some r∧Good a b r) ?step ?fin ⟨Sg.refl st,_,0,1,_,rfl,⟨m0,by omega,by omega⟩,by omega⟩) ?post)
 case fin=>
  rintro c st' ⟨_,o,i,j,g,_,m,hx⟩
  have:=m.ia; have:=m.jb
  omega
 case post=>
  rintro ⟨c,o,i,j,g⟩ st' ⟨z,r,e,hr⟩
  cases e
  exact wpS_pure (h r st' hr z)
 case step=>
  rintro x c st' _ hx ⟨z,o,i,j,g,rfl,m,hp⟩
  dsimp only
  refine wpS_bind (wpS_mono (wpS_forRange (I:=fun y c st'=>Sg st st'∧∃ o' i' j' ca cb,c=(none,o',i',j',ca,cb)∧Mid a b o' i' j'∧i + j + y≤i' + j')
   (Q:=fun c st'=>Sg st st'∧((∃ r,c.1=some r∧Good a b r) ∨ ∃ o' i' j' ca cb,c=(none,o',i',j',ca,cb)∧Mid a b o' i' j'∧i + j + 1≤i' + j')) ?s1 ?f1 ⟨z,o,i,j,0,0,rfl,m,by omega⟩) ?p1)
  case f1=>
   rintro c st' ⟨z,o',i',j',ca,cb,rfl,m,hy⟩
   exact ⟨z,.inr ⟨o',i',j',ca,cb,rfl,m,by omega⟩⟩
  case s1=>
   rintro y c st' _ hy ⟨z,o',i',j',ca,cb,rfl,m,hp'⟩
   dsimp only
   have mi:=m.ia
   have mj:=m.jb
   refine wpS_bind (aX mj ?_)
   refine wpS_bind (aX (by omega) ?_)
   refine wpS_bind (qr (kd z) (ib.get mj) (ia.get (by omega)) ?_)
   dsimp only
   rw [← bP mj,← bP (show i' < a.size by omega)]
   by_cases hlt:K b j' < K a i'
   ·rw [if_pos (by simpa using hlt)]
    refine wpS_bind (aX mj ?_)
    have m2:=m.mg.pushB ha hb (by omega) mj (Int.le_of_lt hlt)
    by_cases e1:j' + 1=b.size
    ·rw [if_pos (by simpa using e1)]
     exact wpS_pure ⟨z,.inl ⟨_,rfl,m2.dn ha hb (.inl e1)⟩⟩
    ·rw [if_neg (by simpa using e1)]
     split
     ·exact wpS_pure ⟨z,.inr ⟨_,_,_,_,_,rfl,⟨m2,by omega,by omega⟩,by omega⟩⟩
     ·exact wpS_pure ⟨z,_,_,_,_,_,rfl,⟨m2,by omega,by omega⟩,by omega⟩
   ·rw [if_neg (by simpa using hlt)]
    refine wpS_bind (aX (by omega) ?_)
    have m2:=m.mg.pushA ha hb (by omega) mj (Int.not_lt.mp hlt)
    by_cases e1:i' + 1 + 1=a.size
    ·rw [if_pos (by simpa using e1)]
     exact wpS_pure ⟨z,.inl ⟨_,rfl,m2.la ha hb e1 hl⟩⟩
    ·rw [if_neg (by simpa using e1)]
     split
     ·exact wpS_pure ⟨z,.inr ⟨_,_,_,_,_,rfl,⟨m2,by omega,by omega⟩,by omega⟩⟩
     ·exact wpS_pure ⟨z,_,_,_,_,_,rfl,⟨m2,by omega,by omega⟩,by omega⟩
  case p1=>
   rintro c st' ⟨z,⟨r,e,hr⟩ | ⟨o',i',j',ca,cb,rfl,m,hp'⟩⟩
   ·obtain ⟨c,o',i',j',ca,cb⟩:=c
    cases e
    exact wpS_pure ⟨z,r,rfl,hr⟩
   dsimp only
   refine wpS_bind (wpS_lift (wpAny_rule ⟨rfl,?_⟩))
   refine wpS_bind (wpS_mono (wpS_forRange (I:=fun y c st'=>Sg st st'∧∃ o2 i2 j2 g ca cb,c=(none,o2,i2,j2,g,ca,cb)∧Mid a b o2 i2 j2∧i + j + 1≤i2 + j2)
    (Q:=fun c st'=>Sg st st'∧((∃ r,c.1=some r∧Good a b r) ∨ ∃ o2 i2 j2 g ca cb,c=(none,o2,i2,j2,g,ca,cb)∧Mid a b o2 i2 j2∧i + j + 1≤i2 + j2)) ?s2 ?f2 ⟨z,_,_,_,_,_,_,rfl,m,hp'⟩) ?p2)
   case f2=>
    rintro c st' ⟨z,o2,i2,j2,g2,ca,cb,rfl,m,hy⟩
    exact ⟨z,.inr ⟨o2,i2,j2,g2,ca,cb,rfl,m,hy⟩⟩
   case p2=>
    rintro c st' ⟨z,⟨r,e,hr⟩ | ⟨o2,i2,j2,g2,ca,cb,rfl,m,hp'⟩⟩
    ·obtain ⟨c,o2,i2,j2,g2,ca,cb⟩:=c
     cases e
     exact wpS_pure ⟨z,r,rfl,hr⟩
    dsimp only
    exact wpS_bind (pf z fun st' z=>wpS_pure ⟨z,_,_,_,_,rfl,m,by omega⟩)
   case s2=>
    rintro y c st' _ hy ⟨z,o2,i2,j2,g2,ca,cb,rfl,m,hp'⟩
    dsimp only
    have mi:=m.ia
    have mj:=m.jb
    have hm:=m.mg
    clear m
    apply yJ (y:=g2) (x:=g2 - 1)
    case hp=>rfl
    intro g3
    refine wpS_bind (pf z fun st' z=>?_)
    refine wpS_bind (aX mj ?_)
    refine wpS_bind (jx (kd z) ia (ib.get mj) (by omega) (by omega) (fun p q _ hpq hq=>ha p q (Nat.zero_le _) hpq (by omega)) fun k k1 k2 k3=>?_)
    dsimp only
    have q2:∀ t,t < k→i2 + t < a.size→K a (i2 + t)≤K b j2:=fun t ht _=>by
     have:=k2 t ht
     rw [bP mj]
     simpa [bef] using this
    have q3:k < a.size - i2→K b j2≤K a (i2 + k):=fun hkk=>by
     have:=k3 k (Nat.le_refl _) hkk
     rw [bP mj]
     exact Int.le_of_lt (by simpa [bef] using this)
    have hm':=hm.bulkA ha hb mj q2
    apply wO (I:=fun o3 i3=>Mg a b o3 i3 j2∧i3 + 1 < a.size∧i2≤i3∧K b j2≤K a i3) (y1:=o2) (y2:=i2)
    case hn=>
     intro hk0
     have hk1:k=0:=by omega
     subst hk1
     have hq3:=q3 (by omega)
     rw [Nat.add_zero] at hq3
     exact ⟨hm,by omega,Nat.le_refl _,hq3⟩
    case hp=>
     intro hk0 key
     split
     ·rename_i e3
      exact wpS_pure ⟨z,.inl ⟨_,rfl,hm'.la ha hb (by simpa using e3) hl⟩⟩
     ·rename_i e3
      split
      ·rename_i e4
       exact wpS_pure ⟨z,.inl ⟨_,rfl,hm'.dn ha hb (.inr (by simpa using e4))⟩⟩
      ·rename_i e4
       simp at e3 e4
       exact key _ _ ⟨hm',by omega,by omega,q3 (by omega)⟩
    intro o3 i3 y3
    obtain ⟨hm3,hi3,le3,hq3⟩:=y3
    have hi4:i3 < a.size:=by omega
    refine wpS_bind (aX mj ?_)
    have m4:=hm3.pushB ha hb (by omega) mj hq3
    by_cases e4:j2 + 1=b.size
    ·rw [if_pos (by simpa using e4)]
     exact wpS_pure ⟨z,.inl ⟨_,rfl,m4.dn ha hb (.inl e4)⟩⟩
    rw [if_neg (by simpa using e4)]
    generalize o3.push b[j2]=o5 at m4 ⊢
    generalize ej:j2 + 1=j5 at m4 e4 ⊢
    refine wpS_bind (aX hi4 ?_)
    refine wpS_bind (jx (kd z) ib (ia.get hi4) (by omega) (by omega) (fun p q _ hpq hq=>hb p q (Nat.zero_le _) hpq (by omega)) fun u u1 u2 u3=>?_)
    dsimp only
    apply wO (I:=fun o4 j4=>Mg a b o4 i3 j4∧j4 < b.size∧j2 + 1≤j4∧K a i3≤K b j4) (y1:=o5) (y2:=j5)
    case hn=>
     intro hu
     have hu0:u=0:=by omega
     subst hu0
     have hq6:=u3 0 (Nat.le_refl _) (by omega)
     simp [bef] at hq6
     rw [← bP hi4] at hq6
     exact ⟨m4,by omega,by omega,hq6⟩
    case hp=>
     intro hu key
     have hm6:=m4.bulkB (k:=u) ha hb hi4 fun t ht _=>by
      have:=u2 t ht
      rw [bP hi4]
      exact Int.le_of_lt (by simpa [bef] using this)
     split
     ·rename_i e5
      exact wpS_pure ⟨z,.inl ⟨_,rfl,hm6.dn ha hb (.inl (by simpa using e5))⟩⟩
     ·rename_i e5
      simp at e5
      have hq6:=u3 u (Nat.le_refl _) (by omega)
      simp [bef] at hq6
      rw [← bP hi4] at hq6
      exact key _ _ ⟨hm6,by omega,by omega,hq6⟩
    intro o4 j4 y4
    obtain ⟨hm6,hj6,le6,hq6⟩:=y4
    refine wpS_bind (aX (by omega) ?_)
    have m6:=hm6.pushA ha hb (by omega) hj6 hq6
    split
    ·rename_i e6
     exact wpS_pure ⟨z,.inl ⟨_,rfl,m6.la ha hb (by simpa using e6) hl⟩⟩
    ·rename_i e6
     simp at e6
     split
     ·exact wpS_pure ⟨z,.inr ⟨_,_,_,_,_,_,rfl,⟨m6,by omega,by omega⟩,by omega⟩⟩
     ·exact wpS_pure ⟨z,_,_,_,_,_,_,rfl,⟨m6,by omega,by omega⟩,by omega⟩
end
end SR
namespace SR
open PySem PyProof.Rows
def mHi:Array Keyed→Array Keyed→SM (Array Keyed):=sortPriv% PySem.Builtin.mergeHi
theorem Bf (a b:Array Keyed):mHi a b=(do
 rule "list.sort.merge-hi"
 let tt:=a.size + b.size
 let dn (o:Array Keyed) (i j:Nat):=a.extract 0 i ++ b.extract 0 j ++ o.reverse
 let fb (o:Array Keyed) (i j:Nat):=b.extract 0 j ++ a.extract 0 i ++ o.reverse
 let mut i:=a.size - 1
 let mut j:=b.size
 let mut o:Array Keyed:=#[← elem' a i]
 if i == 0 then return dn o i j
 if j == 1 then return fb o i j
 let mut g:=gallopOf (← get)
 for _ in [0:tt] do
  let mut ca:=0
  let mut cb:=0
  for _ in [0:tt] do
   let some v ← lt' (← elem' b (j - 1)) (← elem' a (i - 1)) | return dn o i j
   if v then
    i:=i - 1; o:=o.push (← elem' a i); ca:=ca + 1; cb:=0
    if i == 0 then return dn o i j
    if ca ≥ g then break
   else
    j:=j - 1; o:=o.push (← elem' b j); cb:=cb + 1; ca:=0
    if j == 1 then return fb o i j
    if cb ≥ g then break
  rule "list.sort.gallop"
  g:=g + 1
  for _ in [0:tt] do
   if g > 1 then g:=g - 1
   sMG g
   let some z ← gal false (← elem' b (j - 1)) a 0 i (i - 1) | return dn o i j
   let k:=i - z
   ca:=k
   if k > 0 then
    o:=o ++ (a.extract z i).reverse; i:=z
    if i == 0 then return dn o i j
   j:=j - 1; o:=o.push (← elem' b j)
   if j == 1 then return fb o i j
   let some z ← gal true (← elem' a (i - 1)) b 0 j (j - 1) | return dn o i j
   let k:=j - z
   cb:=k
   if k > 0 then
    o:=o ++ (b.extract z j).reverse; j:=z
    if j == 1 then return fb o i j
    if j == 0 then return dn o i j
   i:=i - 1; o:=o.push (← elem' a i)
   if i == 0 then return dn o i j
   if ca < 7 && cb < 7 then break
  g:=g + 1
  sMG g
 unsupported "internal:list.sort.merge-bound"):=rfl
structure Mr (tot X Y o:List Keyed):Prop where
 perm:(X ++ Y ++ o).Perm tot
 sd:Sd o
 le:∀ q ∈ X ++ Y,∀ p ∈ o,ke q≤ke p
theorem Mr.swap {tot o X Y:List Keyed} (h:Mr tot X Y o):Mr tot Y X o:=⟨(List.perm_append_comm.append_right o).trans h.perm,h.sd,fun q hq=>h.le q (by rcases List.mem_append.mp hq with z | z <;> simp [z])⟩
theorem Mr.left {tot o L X Y:List Keyed} (h:Mr tot Y (X ++ L) o) (hs:Sd (X ++ L)) (hl:∀ q ∈ Y,∀ p ∈ L,ke q≤ke p):Mr tot Y X (L ++ o):=by
 obtain ⟨s1,s2,s3⟩:=List.pairwise_append.mp hs
 refine ⟨by simpa [List.append_assoc] using h.perm,List.pairwise_append.mpr ⟨s2,h.sd,fun p hp q hq=>h.le p (by simp [hp]) q hq⟩,fun q hq p hp=>?_⟩
 rcases List.mem_append.mp hp with hp | hp
 ·rcases List.mem_append.mp hq with hq | hq
  ·exact hl q hq p hp
  ·exact s3 q hq p hp
 ·refine h.le q ?_ p hp
  rcases List.mem_append.mp hq with hq | hq <;> simp [hq]
theorem Mr.right {tot o L X Y:List Keyed} (h:Mr tot (X ++ L) Y o) (hs:Sd (X ++ L)) (hl:∀ q ∈ Y,∀ p ∈ L,ke q≤ke p):Mr tot X Y (L ++ o):=(h.swap.left hs hl).swap
theorem Mr.done {tot o:List Keyed} (h:Mr tot [] [] o):o.Perm tot∧Sd o:=⟨by simpa using h.perm,h.sd⟩
def Mt (a b o:Array Keyed) (i j:Nat):Prop:=Mr (a.toList ++ b.toList) (a.toList.take i) (b.toList.take j) o.toList.reverse
theorem Sd.take {l:List Keyed} (h:Sd l) (i:Nat):Sd (l.take i):=List.Pairwise.sublist (List.take_sublist i l) h
theorem gQ {a:Array Keyed} {i:Nat} {p:Keyed} (h:p ∈ a.toList.take i):∃ t,t < i∧t < a.size∧ke p=K a t:=by
 obtain ⟨t,h1,h2,e⟩:=i6 (i:=0) (k:=i) (a:=a) (p:=p) (by simpa using h)
 exact ⟨t,h1,by omega,by simpa using e⟩
theorem jS {a:Array Keyed} {i:Nat} (hi:i < a.size):a.toList.take (i + 1)=a.toList.take i ++ [a[i]]:=by
 rw [List.take_succ_eq_append_getElem (by simpa using hi)]
 simp
theorem jT {a:Array Keyed} {z i:Nat} (hz:z≤i):a.toList.take i=a.toList.take z ++ (a.toList.drop z).take (i - z):=by
 have e:i=z + (i - z):=by omega
 conv=>lhs; rw [e,List.take_add]
theorem jU (a:Array Keyed) (i:Nat):(a.extract 0 i).toList=a.toList.take i:=by
 rw [fe]; simp
section
variable {a b o:Array Keyed} {i j k z:Nat}
theorem Mt.bulkA (ha:Up a 0 a.size) (hb:Up b 0 b.size) (h:Mt a b o i j) (hj:j≤b.size) (j1:1≤j) (hz:z≤i) (hi:i≤a.size) (hk:∀ t,z≤t→t < i→K b (j - 1)≤K a t):Mt a b (o ++ (a.extract z i).reverse) z j:=by
 unfold Mt at h ⊢
 have e:(o ++ (a.extract z i).reverse).toList.reverse=(a.toList.drop z).take (i - z) ++ o.toList.reverse:=by rw [Array.toList_append,List.reverse_append,Array.toList_reverse,List.reverse_reverse,fe]
 rw [e]
 rw [jT hz] at h
 refine h.right (by rw [← jT hz]; exact (fP ha).take i) fun q hq p hp=>?_
 obtain ⟨t,t1,t2,e1⟩:=i6 hp
 obtain ⟨u,u1,u2,e2⟩:=gQ hq
 have:=hk (z + t) (by omega) (by omega)
 have:=hb u (j - 1) (Nat.zero_le _) (by omega) (by omega)
 omega
theorem Mt.bulkB (ha:Up a 0 a.size) (hb:Up b 0 b.size) (h:Mt a b o i j) (hj:j≤b.size) (i1:1≤i) (hz:z≤j) (hi:i≤a.size) (hk:∀ t,z≤t→t < j→K a (i - 1)≤K b t):Mt a b (o ++ (b.extract z j).reverse) i z:=by
 unfold Mt at h ⊢
 have e:(o ++ (b.extract z j).reverse).toList.reverse=(b.toList.drop z).take (j - z) ++ o.toList.reverse:=by rw [Array.toList_append,List.reverse_append,Array.toList_reverse,List.reverse_reverse,fe]
 rw [e]
 rw [jT hz] at h
 refine h.left (by rw [← jT hz]; exact (fP hb).take j) fun q hq p hp=>?_
 obtain ⟨t,t1,t2,e1⟩:=i6 hp
 obtain ⟨u,u1,u2,e2⟩:=gQ hq
 have:=hk (z + t) (by omega) (by omega)
 have:=ha u (i - 1) (Nat.zero_le _) (by omega) (by omega)
 omega
theorem Mt.pushA (ha:Up a 0 a.size) (hb:Up b 0 b.size) (h:Mt a b o (i + 1) j) (hi:i < a.size) (hk:∀ t,t < j→t < b.size→K b t≤K a i):Mt a b (o.push a[i]) i j:=by
 unfold Mt at h ⊢
 rw [jS hi] at h
 rw [Array.toList_push,List.reverse_append]
 refine h.right (by rw [← jS hi]; exact (fP ha).take _) fun q hq p hp=>?_
 rw [List.mem_singleton.mp hp]
 obtain ⟨u,u1,u2,e2⟩:=gQ hq
 have:=hk u u1 u2
 have e:=bP hi
 unfold ke at e2 ⊢
 omega
theorem Mt.pushB (ha:Up a 0 a.size) (hb:Up b 0 b.size) (h:Mt a b o i (j + 1)) (hj:j < b.size) (hk:∀ t,t < i→t < a.size→K a t≤K b j):Mt a b (o.push b[j]) i j:=by
 unfold Mt at h ⊢
 rw [jS hj] at h
 rw [Array.toList_push,List.reverse_append]
 refine h.left (by rw [← jS hj]; exact (fP hb).take _) fun q hq p hp=>?_
 rw [List.mem_singleton.mp hp]
 obtain ⟨u,u1,u2,e2⟩:=gQ hq
 have:=hk u u1 u2
 have e:=bP hj
 unfold ke at e2 ⊢
 omega
theorem Mt.dn (ha:Up a 0 a.size) (hb:Up b 0 b.size) (h:Mt a b o i j) (hz:i=0 ∨ j=0):Good a b (a.extract 0 i ++ b.extract 0 j ++ o.reverse):=by
 unfold Mt at h
 unfold Good
 rw [Array.toList_append,Array.toList_append,jU,jU,Array.toList_reverse]
 rcases hz with rfl | rfl
 ·rw [List.take_zero] at h ⊢
  rw [List.nil_append]
  exact Mr.done (Mr.left (by simpa using h) (by simpa using (fP hb).take j) fun q hq=>by cases hq)
 ·rw [List.take_zero] at h ⊢
  rw [List.append_nil]
  exact Mr.done (Mr.right (by simpa using h) (by simpa using (fP ha).take i) fun q hq=>by cases hq)
theorem Mt.fb (ha:Up a 0 a.size) (hb:Up b 0 b.size) (h:Mt a b o i j) (hj:j=1) (hl:∀ t,t < a.size→K b 0≤K a t):Good a b (b.extract 0 j ++ a.extract 0 i ++ o.reverse):=by
 subst hj
 unfold Mt at h
 unfold Good
 rw [Array.toList_append,Array.toList_append,jU,jU,Array.toList_reverse,List.append_assoc]
 have h1:Mr (a.toList ++ b.toList) [] (b.toList.take 1) (a.toList.take i ++ o.toList.reverse):=by
  refine Mr.right (by simpa using h) (by simpa using (fP ha).take i) fun q hq p hp=>?_
  obtain ⟨t,t1,t2,e1⟩:=gQ hp
  obtain ⟨u,u1,u2,e2⟩:=gQ hq
  have:=hl t t2
  have:u=0:=by omega
  subst this
  omega
 exact Mr.done (Mr.left (by simpa using h1) (by simpa using (fP hb).take 1) fun q hq=>by cases hq)
end
section
variable {prog:Program} {w:World} {A:Around} {E:Value→Shared→Prop} {s:Shared}
structure Mie (a b o:Array Keyed) (i j:Nat):Prop where
 mg:Mt a b o i j
 i1:1≤i
 ia:i≤a.size
 j1:2≤j
 jb:j≤b.size
set_option maxHeartbeats 2000000 in
theorem Bg {a b:Array Keyed} {st:SortSt} {Q:Array Keyed→SortSt→Prop} (hk:kindOf st=oneType') (ia:IK a) (ib:IK b) (ha:Up a 0 a.size) (hb:Up b 0 b.size) (a1:1≤a.size) (b1:1≤b.size) (hl:∀ t,t < a.size→K b 0≤K a t) (h0:∀ t,t < b.size→K b t≤K a (a.size - 1))
  (h:∀ r st',Good a b r→Sg st st'→Q r st'):wpS (model prog w) A E s (mHi a b) Q st:=by
 rw [Bf]
 dsimp only
 refine wpS_bind (wpS_lift (wpAny_rule ⟨rfl,?_⟩))
 refine wpS_bind (aX (by omega) ?_)
 have m0:Mt a b #[a[a.size - 1]] (a.size - 1) b.size:=by
  have z:Mt a b #[] (a.size - 1 + 1) b.size:=⟨by rw [show a.size - 1 + 1=a.size by omega,List.take_of_length_le (by simp),List.take_of_length_le (by simp)]; simp,List.Pairwise.nil,fun q hq p hp=>by cases hp⟩
  exact z.pushA ha hb (by omega) fun t _ ht=>h0 t ht
 by_cases g1:a.size - 1=0
 ·rw [if_pos (by simpa using g1)]
  exact wpS_pure (h _ _ (m0.dn ha hb (.inl g1)) (Sg.refl st))
 rw [if_neg (by simpa using g1)]
 by_cases g2:b.size=1
 ·rw [if_pos (by simpa using g2)]
  exact wpS_pure (h _ _ (m0.fb ha hb g2 hl) (Sg.refl st))
 rw [if_neg (by simpa using g2)]
 refine wpS_bind (wpS_get ?_)
 have kd:∀ {st'},Sg st st'→kindOf st'=oneType':=fun z=>z.1.trans hk
 refine wpS_bind (wpS_mono (wpS_forRange (I:=fun x c st'=>Sg st st'∧∃ o i j g,c=(none,i,j,o,g)∧Mie a b o i j∧i + j + x + 1≤a.size + b.size)
  (Q:=fun c st'=>Sg st st'∧∃ r,c.1=some r∧Good a b r) ?step ?fin ⟨Sg.refl st,_,_,_,_,rfl,⟨m0,by omega,by omega,by omega,by omega⟩,by omega⟩) ?post)
 all_goals skip
 case fin=>
  rintro c st' ⟨_,o,i,j,g,_,m,hx⟩
  have:=m.i1
  omega
 case post=>
  rintro ⟨c,i,j,o,g⟩ st' ⟨z,r,e,hr⟩
  cases e
  exact wpS_pure (h r st' hr z)
 case step=>
  rintro x c st' _ hx ⟨z,o,i,j,g,rfl,m,hp⟩
  dsimp only
  refine wpS_bind (wpS_mono (wpS_forRange (I:=fun y c st'=>Sg st st'∧∃ o' i' j' ca cb,c=(none,i',j',o',ca,cb)∧Mie a b o' i' j'∧i' + j' + y≤i + j)
   (Q:=fun c st'=>Sg st st'∧((∃ r,c.1=some r∧Good a b r) ∨ ∃ o' i' j' ca cb,c=(none,i',j',o',ca,cb)∧Mie a b o' i' j'∧i' + j' + 1≤i + j)) ?s1 ?f1 ⟨z,_,_,_,0,0,rfl,m,by omega⟩) ?p1)
  case f1=>
   rintro c st' ⟨z,o',i',j',ca,cb,rfl,m,hy⟩
   exact ⟨z,.inr ⟨o',i',j',ca,cb,rfl,m,by omega⟩⟩
  case s1=>
   rintro y c st' _ hy ⟨z,o',i',j',ca,cb,rfl,⟨mm,mi1,mi,mj1,mj⟩,hp'⟩
   dsimp only
   have hj9:j' - 1 < b.size:=by omega
   have hi9:i' - 1 < a.size:=by omega
   refine wpS_bind (aX hj9 ?_)
   refine wpS_bind (aX hi9 ?_)
   refine wpS_bind (qr (kd z) (ib.get hj9) (ia.get hi9) ?_)
   dsimp only
   rw [← bP hj9,← bP hi9]
   by_cases hlt:K b (j' - 1) < K a (i' - 1)
   ·rw [if_pos (by simpa using hlt)]
    refine wpS_bind (aX hi9 ?_)
    have m2:=Mt.pushA (i:=i' - 1) ha hb (by rw [show i' - 1 + 1=i' by omega]; exact mm) hi9 fun t h1 h2=>Int.le_trans (hb t (j' - 1) (Nat.zero_le _) (by omega) hj9) (Int.le_of_lt hlt)
    by_cases e1:i' - 1=0
    ·rw [if_pos (by simpa using e1)]
     exact wpS_pure ⟨z,.inl ⟨_,rfl,m2.dn ha hb (.inl e1)⟩⟩
    ·rw [if_neg (by simpa using e1)]
     split
     ·exact wpS_pure ⟨z,.inr ⟨_,_,_,_,_,rfl,⟨m2,by omega,by omega,by omega,by omega⟩,by omega⟩⟩
     ·exact wpS_pure ⟨z,_,_,_,_,_,rfl,⟨m2,by omega,by omega,by omega,by omega⟩,by omega⟩
   ·rw [if_neg (by simpa using hlt)]
    refine wpS_bind (aX hj9 ?_)
    have m2:=Mt.pushB (j:=j' - 1) ha hb (by rw [show j' - 1 + 1=j' by omega]; exact mm) hj9 fun t h1 h2=>Int.le_trans (ha t (i' - 1) (Nat.zero_le _) (by omega) hi9) (Int.not_lt.mp hlt)
    by_cases e1:j' - 1=1
    ·rw [if_pos (by simpa using e1)]
     exact wpS_pure ⟨z,.inl ⟨_,rfl,m2.fb ha hb e1 hl⟩⟩
    ·rw [if_neg (by simpa using e1)]
     split
     ·exact wpS_pure ⟨z,.inr ⟨_,_,_,_,_,rfl,⟨m2,by omega,by omega,by omega,by omega⟩,by omega⟩⟩
     ·exact wpS_pure ⟨z,_,_,_,_,_,rfl,⟨m2,by omega,by omega,by omega,by omega⟩,by omega⟩
  case p1=>
   rintro c st' ⟨z,⟨r,e,hr⟩ | ⟨o',i',j',ca,cb,rfl,m,hp'⟩⟩
   ·obtain ⟨c,o',i',j',ca,cb⟩:=c
    cases e
    exact wpS_pure ⟨z,r,rfl,hr⟩
   dsimp only
   refine wpS_bind (wpS_lift (wpAny_rule ⟨rfl,?_⟩))
   refine wpS_bind (wpS_mono (wpS_forRange (I:=fun y c st'=>Sg st st'∧∃ o2 i2 j2 g ca cb,c=(none,i2,j2,o2,g,ca,cb)∧Mie a b o2 i2 j2∧i2 + j2 + 1≤i + j)
    (Q:=fun c st'=>Sg st st'∧((∃ r,c.1=some r∧Good a b r) ∨ ∃ o2 i2 j2 g ca cb,c=(none,i2,j2,o2,g,ca,cb)∧Mie a b o2 i2 j2∧i2 + j2 + 1≤i + j)) ?s2 ?f2 ⟨z,_,_,_,_,_,_,rfl,m,hp'⟩) ?p2)
   case f2=>
    rintro c st' ⟨z,o2,i2,j2,g2,ca,cb,rfl,m,hy⟩
    exact ⟨z,.inr ⟨o2,i2,j2,g2,ca,cb,rfl,m,hy⟩⟩
   case p2=>
    rintro c st' ⟨z,⟨r,e,hr⟩ | ⟨o2,i2,j2,g2,ca,cb,rfl,m,hp'⟩⟩
    ·obtain ⟨c,o2,i2,j2,g2,ca,cb⟩:=c
     cases e
     exact wpS_pure ⟨z,r,rfl,hr⟩
    dsimp only
    exact wpS_bind (pf z fun st' z=>wpS_pure ⟨z,_,_,_,_,rfl,m,by omega⟩)
   case s2=>
    rintro y c st' _ hy ⟨z,o2,i2,j2,g2,ca,cb,rfl,⟨hm,mi1,mi,mj1,mj⟩,hp'⟩
    dsimp only
    have hj9:j2 - 1 < b.size:=by omega
    by_cases hg:g2 > 1
    all_goals (first | rw [if_pos hg] | rw [if_neg hg])
    all_goals
     refine wpS_bind (pf z fun st' z=>?_)
     refine wpS_bind (aX hj9 ?_)
     refine wpS_bind (jx (kd z) ia (ib.get hj9) (by omega) (by omega) (fun p q _ hpq hq=>ha p q (Nat.zero_le _) hpq (by omega)) fun k k1 k2 k3=>?_)
     dsimp only
     have q2:∀ t,t < k→t < a.size→K a t≤K b (j2 - 1):=fun t ht _=>by
      have:=k2 t ht
      rw [bP hj9]
      simpa [bef] using this
     have q3:∀ t,k≤t→t < i2→K b (j2 - 1)≤K a t:=fun t h1 h2=>by
      have:=k3 t h1 h2
      rw [bP hj9]
      exact Int.le_of_lt (by simpa [bef] using this)
     by_cases hk0:i2 - k > 0
     ·rw [if_pos hk0]
      have hm3:=hm.bulkA (z:=k) ha hb mj (by omega) k1 mi q3
      split
      ·rename_i e3
       exact wpS_pure ⟨z,.inl ⟨_,rfl,hm3.dn ha hb (.inl (by simpa using e3))⟩⟩
      ·rename_i e3
       simp at e3
       obtain ⟨i3,hi3⟩:∃ i3,i3=k:=⟨k,rfl⟩
       subst hi3
       have hq3:=q2
       refine wpS_bind (aX (by omega) ?_)
       have m4:=Mt.pushB (j:=j2 - 1) ha hb (by rw [show j2 - 1 + 1=j2 by omega]; exact hm3) (by omega) hq3
       split
       ·rename_i e4
        exact wpS_pure ⟨z,.inl ⟨_,rfl,m4.fb ha hb (by simpa using e4) hl⟩⟩
       rename_i e4
       simp at e4
       have hi4:i3 - 1 < a.size:=by omega
       refine wpS_bind (aX hi4 ?_)
       refine wpS_bind (jx (kd z) ib (ia.get hi4) (by omega) (by omega) (fun p q _ hpq hq=>hb p q (Nat.zero_le _) hpq (by omega)) fun u u1 u2 u3=>?_)
       dsimp only
       have v2:∀ t,t < u→K b t≤K a (i3 - 1):=fun t ht=>by
        have:=u2 t ht
        rw [bP hi4]
        exact Int.le_of_lt (by simpa [bef] using this)
       have v3:∀ t,u≤t→t < j2 - 1→K a (i3 - 1)≤K b t:=fun t h1 h2=>by
        have:=u3 t h1 h2
        rw [bP hi4]
        simpa [bef] using this
       by_cases hu:j2 - 1 - u > 0
       ·rw [if_pos hu]
        have hm6:=m4.bulkB (z:=u) ha hb (by omega) (by omega) (by omega) (by omega) v3
        split
        ·rename_i e5
         exact wpS_pure ⟨z,.inl ⟨_,rfl,hm6.fb ha hb (by simpa using e5) hl⟩⟩
        ·rename_i e5
         split
         ·rename_i e7
          exact wpS_pure ⟨z,.inl ⟨_,rfl,hm6.dn ha hb (.inr (by simpa using e7))⟩⟩
         ·rename_i e7
          simp at e5 e7
          have hq6:∀ t,t < u→t < b.size→K b t≤K a (i3 - 1):=fun t h1 _=>v2 t h1
          refine wpS_bind (aX (by omega) ?_)
          have m6:=Mt.pushA (i:=i3 - 1) ha hb (by rw [show i3 - 1 + 1=i3 by omega]; exact hm6) (by omega) hq6
          split
          ·rename_i e6
           exact wpS_pure ⟨z,.inl ⟨_,rfl,m6.dn ha hb (.inl (by simpa using e6))⟩⟩
          ·rename_i e6
           simp at e6
           split
           ·exact wpS_pure ⟨z,.inr ⟨_,_,_,_,_,_,rfl,⟨m6,by omega,by omega,by omega,by omega⟩,by omega⟩⟩
           ·exact wpS_pure ⟨z,_,_,_,_,_,_,rfl,⟨m6,by omega,by omega,by omega,by omega⟩,by omega⟩
       ·rw [if_neg hu]
        have hu0:u=j2 - 1:=by omega
        have hm6:=m4
        have hq6:∀ t,t < j2 - 1→t < b.size→K b t≤K a (i3 - 1):=fun t h1 _=>v2 t (by omega)
        refine wpS_bind (aX (by omega) ?_)
        have m6:=Mt.pushA (i:=i3 - 1) ha hb (by rw [show i3 - 1 + 1=i3 by omega]; exact hm6) (by omega) hq6
        split
        ·rename_i e6
         exact wpS_pure ⟨z,.inl ⟨_,rfl,m6.dn ha hb (.inl (by simpa using e6))⟩⟩
        ·rename_i e6
         simp at e6
         split
         ·exact wpS_pure ⟨z,.inr ⟨_,_,_,_,_,_,rfl,⟨m6,by omega,by omega,by omega,by omega⟩,by omega⟩⟩
         ·exact wpS_pure ⟨z,_,_,_,_,_,_,rfl,⟨m6,by omega,by omega,by omega,by omega⟩,by omega⟩
     ·rw [if_neg hk0]
      have hk1:k=i2:=by omega
      subst hk1
      have hm3:=hm
      obtain ⟨i3,hi3⟩:∃ i3,i3=k:=⟨k,rfl⟩
      subst hi3
      have hq3:=q2
      refine wpS_bind (aX (by omega) ?_)
      have m4:=Mt.pushB (j:=j2 - 1) ha hb (by rw [show j2 - 1 + 1=j2 by omega]; exact hm3) (by omega) hq3
      split
      ·rename_i e4
       exact wpS_pure ⟨z,.inl ⟨_,rfl,m4.fb ha hb (by simpa using e4) hl⟩⟩
      rename_i e4
      simp at e4
      have hi4:i3 - 1 < a.size:=by omega
      refine wpS_bind (aX hi4 ?_)
      refine wpS_bind (jx (kd z) ib (ia.get hi4) (by omega) (by omega) (fun p q _ hpq hq=>hb p q (Nat.zero_le _) hpq (by omega)) fun u u1 u2 u3=>?_)
      dsimp only
      have v2:∀ t,t < u→K b t≤K a (i3 - 1):=fun t ht=>by
       have:=u2 t ht
       rw [bP hi4]
       exact Int.le_of_lt (by simpa [bef] using this)
      have v3:∀ t,u≤t→t < j2 - 1→K a (i3 - 1)≤K b t:=fun t h1 h2=>by
       have:=u3 t h1 h2
       rw [bP hi4]
       simpa [bef] using this
      by_cases hu:j2 - 1 - u > 0
      ·rw [if_pos hu]
       have hm6:=m4.bulkB (z:=u) ha hb (by omega) (by omega) (by omega) (by omega) v3
       split
       ·rename_i e5
        exact wpS_pure ⟨z,.inl ⟨_,rfl,hm6.fb ha hb (by simpa using e5) hl⟩⟩
       ·rename_i e5
        split
        ·rename_i e7
         exact wpS_pure ⟨z,.inl ⟨_,rfl,hm6.dn ha hb (.inr (by simpa using e7))⟩⟩
        ·rename_i e7
         simp at e5 e7
         have hq6:∀ t,t < u→t < b.size→K b t≤K a (i3 - 1):=fun t h1 _=>v2 t h1
         refine wpS_bind (aX (by omega) ?_)
         have m6:=Mt.pushA (i:=i3 - 1) ha hb (by rw [show i3 - 1 + 1=i3 by omega]; exact hm6) (by omega) hq6
         split
         ·rename_i e6
          exact wpS_pure ⟨z,.inl ⟨_,rfl,m6.dn ha hb (.inl (by simpa using e6))⟩⟩
         ·rename_i e6
          simp at e6
          split
          ·exact wpS_pure ⟨z,.inr ⟨_,_,_,_,_,_,rfl,⟨m6,by omega,by omega,by omega,by omega⟩,by omega⟩⟩
          ·exact wpS_pure ⟨z,_,_,_,_,_,_,rfl,⟨m6,by omega,by omega,by omega,by omega⟩,by omega⟩
      ·rw [if_neg hu]
       have hu0:u=j2 - 1:=by omega
       have hm6:=m4
       have hq6:∀ t,t < j2 - 1→t < b.size→K b t≤K a (i3 - 1):=fun t h1 _=>v2 t (by omega)
       refine wpS_bind (aX (by omega) ?_)
       have m6:=Mt.pushA (i:=i3 - 1) ha hb (by rw [show i3 - 1 + 1=i3 by omega]; exact hm6) (by omega) hq6
       split
       ·rename_i e6
        exact wpS_pure ⟨z,.inl ⟨_,rfl,m6.dn ha hb (.inl (by simpa using e6))⟩⟩
       ·rename_i e6
        simp at e6
        split
        ·exact wpS_pure ⟨z,.inr ⟨_,_,_,_,_,_,rfl,⟨m6,by omega,by omega,by omega,by omega⟩,by omega⟩⟩
        ·exact wpS_pure ⟨z,_,_,_,_,_,_,rfl,⟨m6,by omega,by omega,by omega,by omega⟩,by omega⟩
end
end SR
namespace SR
open PySem PyProof.Rows
structure SB (a0 A0:Array Keyed) (P:Array (Nat × Nat × Nat)) (lo:Nat) (st:SortSt):Prop where
 perm:(arrOf st).Perm a0
 kind:kindOf st=oneType'
 failed:failedOf st=none
 pend:pendingOf st=P
 low:∀ t,t < lo→K (arrOf st) t=K A0 t
theorem SB.size {a0 A0:Array Keyed} {P:Array (Nat × Nat × Nat)} {lo:Nat} {st:SortSt} (h:SB a0 A0 P lo st):(arrOf st).size=a0.size:=h.perm.size_eq
theorem tj {a b:Array Keyed} (h:IK b) (p:a.Perm b):IK a:=fun x hx=>h x ((Array.perm_iff_toList_perm.mp p).mem_iff.mp hx)
theorem SB.arr {a0 A0:Array Keyed} {P:Array (Nat × Nat × Nat)} {lo:Nat} {st:SortSt} (h:SB a0 A0 P lo st) {xs:Array Keyed} (p:xs.Perm (arrOf st)) (hl:∀ t,t < lo→K xs t=K (arrOf st) t):SB a0 A0 P lo (setArr st xs):=
 ⟨p.trans h.perm,h.kind,h.failed,h.pend,fun t ht=>(hl t ht).trans (h.low t ht)⟩
section
variable {prog:Program} {w:World} {A:Around} {E:Value→Shared→Prop} {s:Shared} {a0 A0:Array Keyed} {P:Array (Nat × Nat × Nat)} {lo:Nat}
theorem lW {st:SortSt} {i j:Nat} {Q:Option Bool→SortSt→Prop} (hB:SB a0 A0 P lo st) (h0:IK a0) (hi:i < a0.size) (hj:j < a0.size) (h:Q (some (decide (K (arrOf st) i < K (arrOf st) j))) st):wpS (model prog w) A E s (ltAt' i j) Q st:=by
 have h1:i < (arrOf st).size:=by rw [hB.size]; exact hi
 have h2:j < (arrOf st).size:=by rw [hB.size]; exact hj
 have ik:=tj h0 hB.perm
 rw [ltAt'_eq]
 refine wpS_bind (wpS_get ?_)
 refine wpS_bind (aX h1 (wpS_bind (aX h2 (qr hB.kind (ik.get h1) (ik.get h2) ?_))))
 rw [bP h1,bP h2] at h
 exact h
theorem hU {st:SortSt} {i j:Nat} {Q:Unit→SortSt→Prop} (hB:SB a0 A0 P lo st) (hi:lo≤i) (hj:j≤a0.size) (h:SB a0 A0 P lo (setArr st (mirror (arrOf st) i j ((j - i) / 2)))→Q () (setArr st (mirror (arrOf st) i j ((j - i) / 2)))):wpS (model prog w) A E s (reverseSlice' i j) Q st:=by
 rw [reverseSlice'_eq]
 refine wpS_modify (h (hB.arr (mirror_perm _ _ _ _) fun t ht=>?_))
 rw [K_mirror (by rw [hB.size]; exact hj),if_neg (by omega)]
theorem yK {st:SortSt} {n ok:Nat} {Q:Bool→SortSt→Prop} (h0:IK a0) (hn:lo + n≤a0.size) (hB:SB a0 A0 P lo st) (hs:Up (arrOf st) lo (lo + ok)) (hok:ok≤n)
  (h:∀ st',SB a0 A0 P lo st'→Up (arrOf st') lo (lo + n)→Q true st'):wpS (model prog w) A E s (binarySort' lo n ok) Q st:=by
 rw [binarySort'_eq]
 refine wpS_bind (wpS_mono (wpS_forRange (I:=fun k c st'=>c=(none,())∧SB a0 A0 P lo st'∧Up (arrOf st') lo (lo + min k n))
  (Q:=fun c st'=>c=(none,())∧SB a0 A0 P lo st'∧Up (arrOf st') lo (lo + n)) ?ste ?fi ⟨rfl,hB,?ini⟩) ?po)
 case ini=>
  intro i j h1 h2 h3
  by_cases z:ok=0
  ·have:i=j:=by omega
   subst this; exact Int.le_refl _
  ·exact hs i j h1 h2 (by omega)
 case po=>
  rintro c st' ⟨rfl,b1,b2⟩
  exact wpS_pure (h st' b1 b2)
 case fi=>
  rintro c st' ⟨hc,b1,b2⟩
  rw [show min (max (max ok 1) n) n=n by omega] at b2
  exact ⟨hc,b1,b2⟩
 case ste=>
  rintro k c st' hak hkn ⟨rfl,b1,b2⟩
  rw [show min k n=k by omega] at b2
  refine wpS_bind (wpS_mono (wpS_forRange (I:=fun x c st2=>st2=st'∧∃ l r,c=(none,l,r)∧l≤r∧r≤k∧r - l≤k - x∧(∀ i,lo≤i→i < lo + l→K (arrOf st') i≤K (arrOf st') (lo + k))∧(∀ i,lo + r≤i→i < lo + k→K (arrOf st') (lo + k) < K (arrOf st') i))
   (Q:=fun c st2=>st2=st'∧∃ l r,c=(none,l,r)∧l≤k∧(∀ i,lo≤i→i < lo + l→K (arrOf st') i≤K (arrOf st') (lo + k))∧(∀ i,lo + l≤i→i < lo + k→K (arrOf st') (lo + k) < K (arrOf st') i)) ?a ?b ⟨rfl,0,k,rfl,by omega,by omega,by omega,fun i _ hi=>by omega,fun i _ _=>by omega⟩) ?c)
  case b=>
   rintro c st2 ⟨rfl,l,r,rfl,c1,c2,c3,c4,c5⟩
   have:l=r:=by omega
   subst this
   exact ⟨rfl,l,l,rfl,c2,c4,c5⟩
  case a=>
   rintro x c st2 _ hx ⟨rfl,l,r,rfl,c1,c2,c3,c4,c5⟩
   dsimp only
   by_cases g:l ≥ r
   ·rw [if_pos g]
    have:l=r:=by omega
    subst this
    exact wpS_pure ⟨rfl,l,l,rfl,c2,c4,c5⟩
   ·rw [if_neg g]
    refine wpS_bind (lW b1 h0 (by omega) (by omega) ?_)
    by_cases hl:K (arrOf st2) (lo + k) < K (arrOf st2) (lo + (l + r) / 2)
    ·simp only [hl,decide_true,if_true]
     exact wpS_pure ⟨rfl,l,(l + r) / 2,rfl,by omega,by omega,by omega,c4,fun i h1 h2=>Int.lt_of_lt_of_le hl (b2 _ _ (by omega) h1 h2)⟩
    ·simp only [hl,decide_false,Bool.false_eq_true,if_false]
     exact wpS_pure ⟨rfl,(l + r) / 2 + 1,r,rfl,by omega,by omega,by omega,fun i h1 h2=>Int.le_trans (b2 i (lo + (l + r) / 2) h1 (by omega) (by omega)) (Int.not_lt.mp hl),c5⟩
  case c=>
   rintro c st2 ⟨rfl,l,r,rfl,c2,c4,c5⟩
   show wpS _ _ _ _ (do moveDown' (lo + k) (lo + l); pure (ForInStep.yield (none,()))) _ _
   rw [moveDown'_eq]
   have hks:lo + k < (arrOf st2).size:=by rw [b1.size]; omega
   have kb:=fun t=>K_bubble (xs:=arrOf st2) (src:=lo + k) (d:=lo + k - (lo + l)) hks (by omega) t
   rw [show lo + k - (lo + k - (lo + l))=lo + l by omega] at kb
   refine wpS_bind (wpS_modify (wpS_pure ⟨rfl,b1.arr (bubble_perm _ _ _) fun t ht=>?_,fun i j h1 h2 h3=>?_⟩))
   ·rw [kb,if_neg (by omega),if_neg (by omega)]
   ·rw [show min (k + 1) n=k + 1 by omega] at h3
    show K (bubble _ _ _) i≤K (bubble _ _ _) j
    rw [kb,kb]
    repeat' split
    all_goals first
     | (exfalso; omega)
     | exact Int.le_refl _
     | exact c4 _ (by omega) (by omega)
     | exact Int.le_of_lt (c5 _ (by omega) (by omega))
     | exact b2 _ _ (by omega) (by omega) (by omega)
end
end SR
namespace SR
open PySem PyProof.Rows
theorem mir {xs:Array Keyed} {i j:Nat} (hj:j≤xs.size) (h:∀ k,i≤k→k < j→K xs k=K xs (j - 1)) (k:Nat):K (mirror xs i j ((j - i) / 2)) k=K xs k:=by
 rw [K_mirror hj]
 split
 ·rw [h _ (by omega) (by omega),h k (by omega) (by omega)]
 ·rfl
section
variable {prog:Program} {w:World} {A:Around} {E:Value→Shared→Prop} {s:Shared} {a0 A0:Array Keyed} {P:Array (Nat × Nat × Nat)} {lo:Nat}
abbrev AS:=Option (Option Nat) × Nat
theorem lX {st:SortSt} {a nrem:Nat} {f:Nat→AS→SM (ForInStep AS)} {Q:AS→SortSt→Prop} (h0:IK a0) (hn:lo + nrem≤a0.size) (ha:1≤a) (han:a≤nrem) (hB:SB a0 A0 P lo st) (hs:Up (arrOf st) lo (lo + a))
  (hf:∀ x n (R:ForInStep AS→SortSt→Prop),wpS (model prog w) A E s (ltAt' (lo + n) (lo + n - 1)) (fun r st'=>∃ b,r=some b∧R (if b=true then .done (none,n) else .yield (none,n + 1)) st') st→wpS (model prog w) A E s (f x (none,n)) R st)
  (h:∀ n,a≤n→n≤nrem→Up (arrOf st) lo (lo + n)→(n=nrem ∨ K (arrOf st) (lo + n) < K (arrOf st) (lo + n - 1))→Q (none,n) st):wpS (model prog w) A E s (forIn [a:nrem] ((none,a):AS) f) Q st:=by
 refine wpS_forRange (I:=fun x c st'=>st'=st∧c=(none,x)∧Up (arrOf st) lo (lo + x)) ?a ?b ⟨rfl,rfl,hs⟩
 case b=>
  rintro c st' ⟨rfl,rfl,b1⟩
  rw [show max a nrem=nrem by omega] at b1 ⊢
  exact h nrem han (Nat.le_refl _) b1 (.inl rfl)
 case a=>
  rintro x c st' h1 h2 ⟨rfl,rfl,b1⟩
  refine hf _ _ _ (lW hB h0 (by omega) (by omega) ⟨_,rfl,?_⟩)
  by_cases hl:K (arrOf st') (lo + x) < K (arrOf st') (lo + x - 1)
  ·simp only [hl,decide_true,if_true]
   exact h x h1 (by omega) b1 (.inr hl)
  ·simp only [hl,decide_false,Bool.false_eq_true,if_false]
   refine ⟨trivial,trivial,fun i j i1 i2 i3=>?_⟩
   by_cases hj:j < lo + x
   ·exact b1 i j i1 i2 hj
   ·have hj':j=lo + x:=by omega
    subst hj'
    by_cases e:i=lo + x
    ·subst e; exact Int.le_refl _
    ·exact Int.le_trans (b1 i (lo + x - 1) i1 (by omega) (by omega)) (Int.not_lt.mp hl)
set_option maxHeartbeats 2000000 in
theorem Bh {st:SortSt} {nrem:Nat} {Q:Option Nat→SortSt→Prop} (h0:IK a0) (hn:lo + nrem≤a0.size) (h1:1≤nrem) (hB:SB a0 A0 P lo st)
  (h:∀ m st',SB a0 A0 P lo st'→1≤m→m≤nrem→Up (arrOf st') lo (lo + m)→Q (some m) st'):wpS (model prog w) A E s (countRun' lo nrem) Q st:=by
 rw [countRun'_eq]
 dsimp only
 refine wpS_bind (lX h0 hn (Nat.le_refl 1) h1 hB (fun i j i1 i2 i3=>by rw [show i=j by omega]; exact Int.le_refl _) ?hf fun n n1 n2 u ho=>?_)
 case hf=>
  intro x n R hR
  dsimp only
  refine wpS_bind (wpS_mono hR ?_)
  rintro r st' ⟨b,rfl,hb⟩
  cases b
  ·exact wpS_pure hb
  ·exact wpS_pure hb
 dsimp only
 by_cases e:n=nrem
 ·rw [if_pos (by simpa using e)]
  exact wpS_pure (h n st hB n1 n2 u)
 rw [if_neg (by simpa using e)]
 have hlt:K (arrOf st) (lo + n) < K (arrOf st) (lo + n - 1):=ho.resolve_left e
 by_cases g:n > 1
 ·rw [if_pos g]
  refine wpS_bind (lW hB h0 (by omega) (by omega) ?_)
  by_cases hr:K (arrOf st) lo < K (arrOf st) (lo + n - 1)
  ·simp only [hr,decide_true,if_true]
   exact wpS_pure (h n st hB n1 n2 u)
  ·simp only [hr,decide_false,Bool.false_eq_true,if_false]
   have hsz:lo + n≤(arrOf st).size:=by rw [hB.size]; omega
   have all:∀ k,lo≤k→k < lo + n→K (arrOf st) k=K (arrOf st) (lo + n - 1):=fun k k1 k2=>by
    have a1:=u lo k (Nat.le_refl _) k1 k2
    have a2:=u k (lo + n - 1) k1 (by omega) (by omega)
    omega
   refine wpS_bind (hU hB (Nat.le_refl _) (by omega) fun hB1=>?_)
   have hD1:Dn (mirror (arrOf st) lo (lo + n) ((lo + n - lo) / 2)) lo (lo + (n + 1)):=fun i j i1 i2 i3=>by
    rw [mir hsz all,mir hsz all]
    by_cases hj:j < lo + n
    ·rw [all i i1 (by omega),all j (by omega) hj]; exact Int.le_refl _
    ·have hj':j=lo + n:=by omega
     subst hj'
     by_cases e:i=lo + n
     ·subst e; exact Int.le_refl _
     ·rw [all i i1 (by omega)]; exact Int.le_of_lt hlt
   refine wpS_bind (wpS_lift (wpAny_rule ⟨rfl,?_⟩))
   refine wpS_bind (wpS_mono (wpS_forRange (I:=fun x c st'=>∃ neq,c=(none,x,neq)∧SB a0 A0 P lo st'∧Dn (arrOf st') lo (lo + x)∧neq + 1≤x∧(∀ i,lo + x - (neq + 1)≤i→i < lo + x→K (arrOf st') i=K (arrOf st') (lo + x - 1)))
    (Q:=fun c st'=>∃ m neq,c=(none,m,neq)∧n + 1≤m∧m≤nrem∧SB a0 A0 P lo st'∧Dn (arrOf st') lo (lo + m)∧neq + 1≤m∧(∀ i,lo + m - (neq + 1)≤i→i < lo + m→K (arrOf st') i=K (arrOf st') (lo + m - 1))) ?a ?b ⟨0,rfl,hB1,hD1,by omega,fun i i1 i2=>by congr 1; omega⟩) ?c)
   case b=>
    rintro c st' ⟨neq,rfl,b1,b2,b3,b4⟩
    rw [show max (n + 1) nrem=nrem by omega] at b2 b3 b4 ⊢
    exact ⟨nrem,neq,rfl,by omega,Nat.le_refl _,b1,b2,b3,b4⟩
   case a=>
    rintro x c st' x1 x2 ⟨neq,rfl,b1,b2,b3,b4⟩
    dsimp only
    have hsz:lo + x≤(arrOf st').size:=by rw [b1.size]; omega
    refine wpS_bind (lW b1 h0 (by omega) (by omega) ?_)
    have more:∀ xs:Array Keyed,(∀ k,K xs k=K (arrOf st') k)→K (arrOf st') (lo + x)≤K (arrOf st') (lo + x - 1)→Dn xs lo (lo + (x + 1)):=by
     intro xs hk hle i j i1 i2 i3
     rw [hk,hk]
     by_cases hj:j < lo + x
     ·exact b2 i j i1 i2 hj
     ·have hj':j=lo + x:=by omega
      subst hj'
      by_cases e:i=lo + x
      ·subst e; exact Int.le_refl _
      ·exact Int.le_trans hle (b2 i (lo + x - 1) i1 (by omega) (by omega))
    by_cases hl:K (arrOf st') (lo + x) < K (arrOf st') (lo + x - 1)
    ·simp only [hl,decide_true,if_true]
     by_cases hq:neq > 0
     ·rw [if_pos hq]
      refine wpS_bind (hU b1 (by omega) (by omega) fun b9=>wpS_pure ⟨0,rfl,b9,more _ (mir hsz b4) (Int.le_of_lt hl),by omega,fun i i1 i2=>by congr 1; omega⟩)
     ·rw [if_neg hq]
      exact wpS_pure ⟨0,rfl,b1,more _ (fun _=>rfl) (Int.le_of_lt hl),by omega,fun i i1 i2=>by congr 1; omega⟩
    ·simp only [hl,decide_false,Bool.false_eq_true,if_false]
     refine wpS_bind (lW b1 h0 (by omega) (by omega) ?_)
     by_cases hg:K (arrOf st') (lo + x - 1) < K (arrOf st') (lo + x)
     ·simp only [hg,decide_true,if_true]
      exact wpS_pure ⟨x,neq,rfl,x1,by omega,b1,b2,b3,b4⟩
     ·simp only [hg,decide_false,Bool.false_eq_true,if_false]
      have he:K (arrOf st') (lo + x)=K (arrOf st') (lo + x - 1):=by omega
      refine wpS_pure ⟨neq + 1,rfl,b1,more _ (fun _=>rfl) (by omega),by omega,fun i i1 i2=>?_⟩
      rw [show lo + (x + 1) - 1=lo + x by omega]
      by_cases e:i=lo + x
      ·subst e; rfl
      ·rw [he]; exact b4 i (by omega) (by omega)
   case c=>
    rintro c st' ⟨m,neq,rfl,m1,m2,b1,b2,b3,b4⟩
    dsimp only
    have hsz:lo + m≤(arrOf st').size:=by rw [b1.size]; omega
    have last:∀ st2,SB a0 A0 P lo st2→Dn (arrOf st2) lo (lo + m)→Up (mirror (arrOf st2) lo (lo + m) ((lo + m - lo) / 2)) lo (lo + m):=fun st2 c1 c2 i j i1 i2 i3=>by
     rw [K_mirror (by rw [c1.size]; omega),K_mirror (by rw [c1.size]; omega),if_pos (by omega),if_pos (by omega)]
     exact c2 _ _ (by omega) (by omega) (by omega)
    by_cases hq:neq > 0
    ·rw [if_pos hq]
     refine wpS_bind (hU b1 (by omega) (by omega) fun b9=>?_)
     have d9:Dn (mirror (arrOf st') (lo + m - (neq + 1)) (lo + m) ((lo + m - (lo + m - (neq + 1))) / 2)) lo (lo + m):=fun i j i1 i2 i3=>by
      rw [mir hsz b4,mir hsz b4]; exact b2 i j i1 i2 i3
     refine wpS_bind (hU b9 (Nat.le_refl _) (by omega) fun b8=>?_)
     refine wpS_bind (lX h0 hn (by omega) m2 b8 (last _ b9 d9) ?_ fun n2 n1 n3 u _=>wpS_pure (h n2 _ b8 (by omega) n3 u))
     intro x n R hR
     dsimp only
     refine wpS_bind (wpS_mono hR ?_)
     rintro r st' ⟨b,rfl,hb⟩
     cases b
     ·exact wpS_pure hb
     ·exact wpS_pure hb
    ·rw [if_neg hq]
     refine wpS_bind (hU b1 (Nat.le_refl _) (by omega) fun b8=>?_)
     refine wpS_bind (lX h0 hn (by omega) m2 b8 (last _ b1 b2) ?_ fun n2 n1 n3 u _=>wpS_pure (h n2 _ b8 (by omega) n3 u))
     intro x n R hR
     dsimp only
     refine wpS_bind (wpS_mono hR ?_)
     rintro r st' ⟨b,rfl,hb⟩
     cases b
     ·exact wpS_pure hb
     ·exact wpS_pure hb
 ·rw [if_neg g]
  have hn1:n=1:=by omega
  have hB1:=hB
  have hD1:Dn (arrOf st) lo (lo + (n + 1)):=fun i j i1 i2 i3=>by
   by_cases e:i=j
   ·subst e; exact Int.le_refl _
   ·have e1:i=lo + n - 1:=by omega
    have e2:j=lo + n:=by omega
    rw [e1,e2]
    exact Int.le_of_lt hlt
  refine wpS_bind (wpS_lift (wpAny_rule ⟨rfl,?_⟩))
  refine wpS_bind (wpS_mono (wpS_forRange (I:=fun x c st'=>∃ neq,c=(none,x,neq)∧SB a0 A0 P lo st'∧Dn (arrOf st') lo (lo + x)∧neq + 1≤x∧(∀ i,lo + x - (neq + 1)≤i→i < lo + x→K (arrOf st') i=K (arrOf st') (lo + x - 1)))
   (Q:=fun c st'=>∃ m neq,c=(none,m,neq)∧n + 1≤m∧m≤nrem∧SB a0 A0 P lo st'∧Dn (arrOf st') lo (lo + m)∧neq + 1≤m∧(∀ i,lo + m - (neq + 1)≤i→i < lo + m→K (arrOf st') i=K (arrOf st') (lo + m - 1))) ?a ?b ⟨0,rfl,hB1,hD1,by omega,fun i i1 i2=>by congr 1; omega⟩) ?c)
  case b=>
   rintro c st' ⟨neq,rfl,b1,b2,b3,b4⟩
   rw [show max (n + 1) nrem=nrem by omega] at b2 b3 b4 ⊢
   exact ⟨nrem,neq,rfl,by omega,Nat.le_refl _,b1,b2,b3,b4⟩
  case a=>
   rintro x c st' x1 x2 ⟨neq,rfl,b1,b2,b3,b4⟩
   dsimp only
   have hsz:lo + x≤(arrOf st').size:=by rw [b1.size]; omega
   refine wpS_bind (lW b1 h0 (by omega) (by omega) ?_)
   have more:∀ xs:Array Keyed,(∀ k,K xs k=K (arrOf st') k)→K (arrOf st') (lo + x)≤K (arrOf st') (lo + x - 1)→Dn xs lo (lo + (x + 1)):=by
    intro xs hk hle i j i1 i2 i3
    rw [hk,hk]
    by_cases hj:j < lo + x
    ·exact b2 i j i1 i2 hj
    ·have hj':j=lo + x:=by omega
     subst hj'
     by_cases e:i=lo + x
     ·subst e; exact Int.le_refl _
     ·exact Int.le_trans hle (b2 i (lo + x - 1) i1 (by omega) (by omega))
   by_cases hl:K (arrOf st') (lo + x) < K (arrOf st') (lo + x - 1)
   ·simp only [hl,decide_true,if_true]
    by_cases hq:neq > 0
    ·rw [if_pos hq]
     refine wpS_bind (hU b1 (by omega) (by omega) fun b9=>wpS_pure ⟨0,rfl,b9,more _ (mir hsz b4) (Int.le_of_lt hl),by omega,fun i i1 i2=>by congr 1; omega⟩)
    ·rw [if_neg hq]
     exact wpS_pure ⟨0,rfl,b1,more _ (fun _=>rfl) (Int.le_of_lt hl),by omega,fun i i1 i2=>by congr 1; omega⟩
   ·simp only [hl,decide_false,Bool.false_eq_true,if_false]
    refine wpS_bind (lW b1 h0 (by omega) (by omega) ?_)
    by_cases hg:K (arrOf st') (lo + x - 1) < K (arrOf st') (lo + x)
    ·simp only [hg,decide_true,if_true]
     exact wpS_pure ⟨x,neq,rfl,x1,by omega,b1,b2,b3,b4⟩
    ·simp only [hg,decide_false,Bool.false_eq_true,if_false]
     have he:K (arrOf st') (lo + x)=K (arrOf st') (lo + x - 1):=by omega
     refine wpS_pure ⟨neq + 1,rfl,b1,more _ (fun _=>rfl) (by omega),by omega,fun i i1 i2=>?_⟩
     rw [show lo + (x + 1) - 1=lo + x by omega]
     by_cases e:i=lo + x
     ·subst e; rfl
     ·rw [he]; exact b4 i (by omega) (by omega)
  case c=>
   rintro c st' ⟨m,neq,rfl,m1,m2,b1,b2,b3,b4⟩
   dsimp only
   have hsz:lo + m≤(arrOf st').size:=by rw [b1.size]; omega
   have last:∀ st2,SB a0 A0 P lo st2→Dn (arrOf st2) lo (lo + m)→Up (mirror (arrOf st2) lo (lo + m) ((lo + m - lo) / 2)) lo (lo + m):=fun st2 c1 c2 i j i1 i2 i3=>by
    rw [K_mirror (by rw [c1.size]; omega),K_mirror (by rw [c1.size]; omega),if_pos (by omega),if_pos (by omega)]
    exact c2 _ _ (by omega) (by omega) (by omega)
   by_cases hq:neq > 0
   ·rw [if_pos hq]
    refine wpS_bind (hU b1 (by omega) (by omega) fun b9=>?_)
    have d9:Dn (mirror (arrOf st') (lo + m - (neq + 1)) (lo + m) ((lo + m - (lo + m - (neq + 1))) / 2)) lo (lo + m):=fun i j i1 i2 i3=>by
     rw [mir hsz b4,mir hsz b4]; exact b2 i j i1 i2 i3
    refine wpS_bind (hU b9 (Nat.le_refl _) (by omega) fun b8=>?_)
    refine wpS_bind (lX h0 hn (by omega) m2 b8 (last _ b9 d9) ?_ fun n2 n1 n3 u _=>wpS_pure (h n2 _ b8 (by omega) n3 u))
    intro x n R hR
    dsimp only
    refine wpS_bind (wpS_mono hR ?_)
    rintro r st' ⟨b,rfl,hb⟩
    cases b
    ·exact wpS_pure hb
    ·exact wpS_pure hb
   ·rw [if_neg hq]
    refine wpS_bind (hU b1 (Nat.le_refl _) (by omega) fun b8=>?_)
    refine wpS_bind (lX h0 hn (by omega) m2 b8 (last _ b1 b2) ?_ fun n2 n1 n3 u _=>wpS_pure (h n2 _ b8 (by omega) n3 u))
    intro x n R hR
    dsimp only
    refine wpS_bind (wpS_mono hR ?_)
    rintro r st' ⟨b,rfl,hb⟩
    cases b
    ·exact wpS_pure hb
    ·exact wpS_pure hb
end
end SR
namespace SR
open PySem PyProof.Rows
def wr (xs:Array Keyed) (z:Nat) (l:List (Keyed × Nat)):Array Keyed:=l.foldl (fun a (x:Keyed × Nat)=>match x with | (p,j)=>a.setIfInBounds (z + j) p) xs
theorem rW (z:Nat):∀ (m:List Keyed) (k:Nat) (xs:Array Keyed),z + k + m.length≤xs.size→∀ t,(wr xs z (m.zipIdx k))[t]?=if z + k≤t∧t < z + k + m.length then m[t - (z + k)]? else xs[t]?
 | [],k,xs,_,t=>by
  rw [if_neg (by rw [List.length_nil]; omega)]
  rfl
 | p :: m,k,xs,h,t=>by
  rw [List.length_cons] at h
  show (wr (xs.setIfInBounds (z + k) p) z (m.zipIdx (k + 1)))[t]?=_
  rw [rW z m (k + 1) _ (by rw [Array.size_setIfInBounds]; omega),List.length_cons,Array.getElem?_setIfInBounds]
  by_cases h1:z + (k + 1)≤t∧t < z + (k + 1) + m.length
  ·rw [if_pos h1,if_pos (by omega)]
   obtain ⟨d,hd⟩:∃ d,t - (z + k)=d + 1:=⟨t - (z + k) - 1,by omega⟩
   rw [hd,List.getElem?_cons_succ]
   congr 1
   omega
  ·rw [if_neg h1]
   by_cases h2:z + k=t
   ·rw [if_pos h2,if_pos (by omega),if_pos (by omega)]
    rw [show t - (z + k)=0 by omega]
    rfl
   ·rw [if_neg h2,if_neg (by omega)]
theorem yL {xs:Array Keyed} {z:Nat} {m:List Keyed} (h:z + m.length≤xs.size):(wr xs z m.zipIdx).toList=xs.toList.take z ++ (m ++ xs.toList.drop (z + m.length)):=by
 refine List.ext_getElem? fun t=>?_
 rw [Array.getElem?_toList,rW z m 0 xs (by omega)]
 have hlt:(xs.toList.take z).length=z:=by rw [List.length_take]; simp; omega
 by_cases h1:t < z
 ·rw [if_neg (by omega),List.getElem?_append_left (by omega),List.getElem?_take_of_lt h1,Array.getElem?_toList]
 ·rw [List.getElem?_append_right (by omega),hlt]
  by_cases h2:t < z + m.length
  ·rw [if_pos (by omega),List.getElem?_append_left (by omega)]
   rfl
  ·rw [if_neg (by omega),List.getElem?_append_right (by omega),List.getElem?_drop,Array.getElem?_toList]
   congr 1
   omega
def Ch (xs:Array Keyed):Nat→List (Nat × Nat × Nat)→Nat→Prop
 | z,[],y=>z=y
 | z,(s,n,_) :: r,y=>s=z∧1≤n∧Up xs z (z + n)∧Ch xs (z + n) r y
theorem Ch.le {xs:Array Keyed}:∀ {l:List (Nat × Nat × Nat)} {z y:Nat},Ch xs z l y→z + l.length≤y
 | [],z,y,h=>by unfold Ch at h; simp; omega
 | (s,n,p) :: r,z,y,h=>by
  obtain ⟨_,h1,_,h2⟩:=h
  have:=h2.le
  rw [List.length_cons]
  omega
theorem Ch.app {xs:Array Keyed}:∀ {l r:List (Nat × Nat × Nat)} {z y:Nat},Ch xs z (l ++ r) y↔∃ m,Ch xs z l m∧Ch xs m r y
 | [],r,z,y=>⟨fun h=>⟨z,rfl,h⟩,fun ⟨m,h1,h2⟩=>by unfold Ch at h1; subst h1; exact h2⟩
 | (s,n,p) :: l,r,z,y=>by
  constructor
  ·rintro ⟨h1,h2,h3,h4⟩
   obtain ⟨m,h5,h6⟩:=Ch.app.mp h4
   exact ⟨m,⟨h1,h2,h3,h5⟩,h6⟩
  ·rintro ⟨m,⟨h1,h2,h3,h5⟩,h6⟩
   exact ⟨h1,h2,h3,Ch.app.mpr ⟨m,h5,h6⟩⟩
theorem Ch.like {xs ys:Array Keyed}:∀ {l:List (Nat × Nat × Nat)} {z y:Nat},Ch xs z l y→(∀ t,z≤t→t < y→K ys t=K xs t)→Ch ys z l y
 | [],z,y,h,_=>h
 | (s,n,p) :: r,z,y,⟨h1,h2,h3,h4⟩,hk=>by
  have:=h4.le
  refine ⟨h1,h2,fun i j i1 i2 i3=>?_,h4.like fun t t1 t2=>hk t (by omega) t2⟩
  rw [hk i i1 (by omega),hk j (by omega) (by omega)]
  exact h3 i j i1 i2 i3
theorem Ch.pow {xs:Array Keyed} (f:Nat × Nat × Nat→Nat × Nat × Nat) (hf:∀ s n p,∃ q,f (s,n,p)=(s,n,q)):∀ {l:List (Nat × Nat × Nat)} {z y:Nat} (k:Nat),Ch xs z l y→Ch xs z (l.modify k f) y
 | [],z,y,k,h=>by simpa using h
 | (s,n,p) :: r,z,y,0,⟨h1,h2,h3,h4⟩=>by
  obtain ⟨q,e⟩:=hf s n p
  rw [List.modify_zero_cons,e]
  exact ⟨h1,h2,h3,h4⟩
 | (s,n,p) :: r,z,y,k + 1,⟨h1,h2,h3,h4⟩=>by
  rw [List.modify_succ_cons]
  exact ⟨h1,h2,h3,Ch.pow f hf k h4⟩
structure Bs (a0:Array Keyed) (st:SortSt):Prop where
 perm:(arrOf st).Perm a0
 kind:kindOf st=oneType'
 failed:failedOf st=none
theorem rX (i:Nat):mergeAt' i=(do
 let s ← get
 let (some (sa,na,pw),some (sb,nb,_)):=((pendingOf s)[i]?,(pendingOf s)[i + 1]?) | unsupported "internal:list.sort.pending"
 set (setPending s (((pendingOf s).setIfInBounds i (sa,na + nb,pw)).eraseIdxIfInBounds (i + 1)))
 let some k ← gal false (← elem' (arrOf s) sb) (arrOf s) sa na 0 | return false
 let (sa,na):=(sa + k,na - k)
 if na == 0 then return true
 let some nb ← gal true (← elem' (arrOf s) (sa + na - 1)) (arrOf s) sb nb (nb - 1) | return false
 if nb == 0 then return true
 let x:=(arrOf s).extract sa sb
 let y:=(arrOf s).extract sb (sb + nb)
 let m ← if na≤nb then mLo x y else mHi x y
 modify fun s=>setArr s (m.toList.zipIdx.foldl (fun a (p,j)=>a.setIfInBounds (sa + j) p) (arrOf s))
 return (failedOf (← get)).isNone):=rfl
section
variable {prog:Program} {w:World} {A:Around} {E:Value→Shared→Prop} {s:Shared} {a0:Array Keyed}
theorem yM {st st1:SortSt} {Q:PUnit→SortSt→Prop} (h:Q ⟨⟩ st1):wpS (model prog w) A E s (set st1:StateT SortSt Sem PUnit) Q st:=by
 unfold wpS; rw [StateT.run_set]; exact wpAny_pure ⟨rfl,h⟩
theorem nN {xs:Array Keyed} {i j t:Nat} (ht:i + t < j) (hj:j≤xs.size):K (xs.extract i j) t=K xs (i + t):=by
 unfold K
 rw [Array.getElem?_extract]
 rw [if_pos (by omega)]
theorem ph {xs:Array Keyed} (h:IK xs) (i j:Nat):IK (xs.extract i j):=fun p hp=>h p (by
 rw [fe] at hp
 exact List.mem_of_mem_drop (List.mem_of_mem_take hp))
theorem wQ {xs:Array Keyed} {i j:Nat} (h:Up xs i j) (hj:j≤xs.size):Up (xs.extract i j) 0 (xs.extract i j).size:=by
 have hs:(xs.extract i j).size=j - i:=by rw [Array.size_extract]; omega
 rw [hs]
 intro p q _ h2 h3
 rw [nN (by omega) hj,nN (by omega) hj]
 exact h _ _ (by omega) (by omega) (by omega)
theorem Bi {st:SortSt} {i sa na p sb nb q:Nat} {l1 l2:List (Nat × Nat × Nat)} {y:Nat} {Q:Bool→SortSt→Prop} (h0:IK a0) (hB:Bs a0 st) (hi:i=l1.length) (hP:(pendingOf st).toList=l1 ++ (sa,na,p) :: (sb,nb,q) :: l2) (hC:Ch (arrOf st) 0 (pendingOf st).toList y) (hy:y≤a0.size)
  (h:∀ st',Bs a0 st'→(pendingOf st').toList=l1 ++ (sa,na + nb,p) :: l2→Ch (arrOf st') 0 (pendingOf st').toList y→(∀ t,y≤t→K (arrOf st') t=K (arrOf st) t)→Q true st'):wpS (model prog w) A E s (mergeAt' i) Q st:=by
 have hsz:(arrOf st).size=a0.size:=hB.perm.size_eq
 have ik:=tj h0 hB.perm
 rw [hP] at hC
 obtain ⟨z,c1,e1,n1,u1,e2,n2,u2,c2⟩:=Ch.app.mp hC
 subst e1 e2
 have c2l:=c2.le
 have g1:(pendingOf st)[i]?=some (sa,na,p):=by rw [← Array.getElem?_toList,hP,hi]; simp
 have g2:(pendingOf st)[i + 1]?=some (sa + na,nb,q):=by rw [← Array.getElem?_toList,hP,hi,List.getElem?_append_right (by omega)]; simp
 have hP2:(((pendingOf st).setIfInBounds i (sa,na + nb,p)).eraseIdxIfInBounds (i + 1)).toList=l1 ++ (sa,na + nb,p) :: l2:=by
  have hl:i + 1 < (pendingOf st).size:=by rw [← Array.length_toList,hP,hi,List.length_append,List.length_cons,List.length_cons]; omega
  rw [Array.eraseIdxIfInBounds,dif_pos (by rw [Array.size_setIfInBounds]; exact hl),Array.toList_eraseIdx,Array.toList_setIfInBounds,hP,hi]
  rw [List.set_append_right _ _ (Nat.le_refl _),List.eraseIdx_append_of_length_le (by omega)]
  simp
 rw [rX]
 refine wpS_bind (wpS_get ?_)
 rw [g1,g2]
 dsimp only
 refine wpS_bind (yM ?_)
 have hsb:sa + na < (arrOf st).size:=by omega
 refine wpS_bind (aX hsb ?_)
 refine wpS_bind (jx hB.kind ik (ik.get hsb) (by omega) (by omega) u1 fun k k1 k2 k3=>?_)
 dsimp only
 have q2:∀ t,sa≤t→t < sa + k→K (arrOf st) t≤K (arrOf st) (sa + na):=fun t t1 t2=>by
  have:=k2 (t - sa) (by omega)
  rw [show sa + (t - sa)=t by omega] at this
  rw [bP hsb]
  simpa [bef] using this
 have q3:∀ t,sa + k≤t→t < sa + na→K (arrOf st) (sa + na)≤K (arrOf st) t:=fun t t1 t2=>by
  have:=k3 (t - sa) (by omega) (by omega)
  rw [show sa + (t - sa)=t by omega] at this
  rw [bP hsb]
  exact Int.le_of_lt (by simpa [bef] using this)
 -- when nothing is to be moved
 have still:Up (arrOf st) sa (sa + (na + nb))→Q true (setPending st (((pendingOf st).setIfInBounds i (sa,na + nb,p)).eraseIdxIfInBounds (i + 1))):=fun hu=>by
  refine h _ ⟨hB.perm,hB.kind,hB.failed⟩ hP2 ?_ fun t _=>rfl
  show Ch (arrOf st) 0 (((pendingOf st).setIfInBounds i (sa,na + nb,p)).eraseIdxIfInBounds (i + 1)).toList y
  rw [hP2]
  exact Ch.app.mpr ⟨sa,c1,rfl,by omega,hu,by rw [← Nat.add_assoc]; exact c2⟩
 by_cases e1:na - k=0
 ·rw [if_pos (by simpa using e1)]
  refine wpS_pure (still fun i j i1 i2 i3=>?_)
  by_cases hj:j < sa + na
  ·exact u1 i j i1 i2 hj
  ·by_cases hi':i < sa + na
   ·exact Int.le_trans (q2 i i1 (by omega)) (u2 (sa + na) j (Nat.le_refl _) (by omega) (by omega))
   ·exact u2 i j (by omega) i2 (by omega)
 rw [if_neg (by simpa using e1)]
 have hla:sa + k + (na - k) - 1 < (arrOf st).size:=by omega
 refine wpS_bind (aX hla ?_)
 refine wpS_bind (jx hB.kind ik (ik.get hla) (by omega) (by omega) u2 fun m m1 m2 m3=>?_)
 dsimp only
 have v2:∀ t,sa + na≤t→t < sa + na + m→K (arrOf st) t≤K (arrOf st) (sa + na - 1):=fun t t1 t2=>by
  have:=m2 (t - (sa + na)) (by omega)
  rw [show sa + na + (t - (sa + na))=t by omega] at this
  have e:sa + na - 1=sa + k + (na - k) - 1:=by omega
  rw [e,bP hla]
  exact Int.le_of_lt (by simpa [bef] using this)
 have v3:∀ t,sa + na + m≤t→t < sa + na + nb→K (arrOf st) (sa + na - 1)≤K (arrOf st) t:=fun t t1 t2=>by
  have:=m3 (t - (sa + na)) (by omega) (by omega)
  rw [show sa + na + (t - (sa + na))=t by omega] at this
  have e:sa + na - 1=sa + k + (na - k) - 1:=by omega
  rw [e,bP hla]
  simpa [bef] using this
 by_cases e2:m=0
 ·rw [if_pos (by simpa using e2)]
  refine wpS_pure (still fun i j i1 i2 i3=>?_)
  by_cases hj:j < sa + na
  ·exact u1 i j i1 i2 hj
  ·by_cases hi':i < sa + na
   ·exact Int.le_trans (u1 i (sa + na - 1) i1 (by omega) (by omega)) (v3 j (by omega) (by omega))
   ·exact u2 i j (by omega) i2 (by omega)
 rw [if_neg (by simpa using e2)]
 have sx:((arrOf st).extract (sa + k) (sa + na)).size=na - k:=by rw [Array.size_extract]; omega
 have sy:((arrOf st).extract (sa + na) (sa + na + m)).size=m:=by rw [Array.size_extract]; omega
 have ux:Up ((arrOf st).extract (sa + k) (sa + na)) 0 ((arrOf st).extract (sa + k) (sa + na)).size:=wQ (fun i j i1 i2 i3=>u1 i j (by omega) i2 i3) (by omega)
 have uy:Up ((arrOf st).extract (sa + na) (sa + na + m)) 0 ((arrOf st).extract (sa + na) (sa + na + m)).size:=wQ (fun i j i1 i2 i3=>u2 i j i1 i2 (by omega)) (by omega)
 have hlast:∀ t,t < ((arrOf st).extract (sa + na) (sa + na + m)).size→K ((arrOf st).extract (sa + na) (sa + na + m)) t≤K ((arrOf st).extract (sa + k) (sa + na)) (((arrOf st).extract (sa + k) (sa + na)).size - 1):=fun t ht=>by
  rw [sy] at ht
  rw [sx,nN (by omega) (by omega),nN (by omega) (by omega),show sa + k + (na - k - 1)=sa + na - 1 by omega]
  exact v2 _ (by omega) (by omega)
 have hfirst:∀ t,t < ((arrOf st).extract (sa + k) (sa + na)).size→K ((arrOf st).extract (sa + na) (sa + na + m)) 0≤K ((arrOf st).extract (sa + k) (sa + na)) t:=fun t ht=>by
  rw [sx] at ht
  rw [nN (by omega) (by omega),nN (by omega) (by omega),Nat.add_zero]
  exact q3 _ (by omega) (by omega)
 have fin:∀ (r:Array Keyed) (st':SortSt),Good ((arrOf st).extract (sa + k) (sa + na)) ((arrOf st).extract (sa + na) (sa + na + m)) r→Sg (setPending st (((pendingOf st).setIfInBounds i (sa,na + nb,p)).eraseIdxIfInBounds (i + 1))) st'→
   Q true (setArr st' (wr (arrOf st') (sa + k) r.toList.zipIdx)):=by
  rintro r st' ⟨g1,g2⟩ ⟨s1,s2,s3,s4⟩
  have s2:arrOf st'=arrOf st:=s2
  have rl:r.toList.length=na - k + m:=by rw [g1.length_eq,List.length_append,Array.length_toList,Array.length_toList,sx,sy]
  have hw:sa + k + r.toList.length≤(arrOf st).size:=by omega
  have hxy:((arrOf st).extract (sa + k) (sa + na)).toList ++ ((arrOf st).extract (sa + na) (sa + na + m)).toList=((arrOf st).toList.drop (sa + k)).take (na - k + m):=by
   rw [fe,fe,show sa + na - (sa + k)=na - k by omega,show sa + na + m - (sa + na)=m by omega,List.take_add,List.drop_drop,show sa + k + (na - k)=sa + na by omega]
  rw [hxy] at g1
  have hk:∀ t,K (wr (arrOf st) (sa + k) r.toList.zipIdx) t=if sa + k≤t∧t < sa + na + m then K r (t - (sa + k)) else K (arrOf st) t:=fun t=>by
   have e:=rW (sa + k) r.toList 0 (arrOf st) (by omega) t
   rw [rl] at e
   by_cases ht:sa + k≤t∧t < sa + na + m
   ·rw [if_pos ht]
    rw [if_pos (by omega),Array.getElem?_toList] at e
    exact K_congr e
   ·rw [if_neg ht]
    rw [if_neg (by omega)] at e
    exact K_congr e
  have hfrom:∀ t,sa + k≤t→t < sa + na + m→∃ u,sa + k≤u∧u < sa + na + m∧K r (t - (sa + k))=K (arrOf st) u:=fun t t1 t2=>by
   have ht:t - (sa + k) < r.size:=by rw [← Array.length_toList,rl]; omega
   obtain ⟨u,hu1,hu2,hu3⟩:=i6 (g1.mem_iff.mp (by simp:r[t - (sa + k)] ∈ r.toList))
   exact ⟨sa + k + u,by omega,by omega,by rw [bP ht]; exact hu3⟩
  have ur:=CO g2
  have rs:r.size=na - k + m:=by rw [← Array.length_toList,rl]
  have wu:Up (wr (arrOf st) (sa + k) r.toList.zipIdx) sa (sa + (na + nb)):=by
   intro i j i1 i2 i3
   rw [hk,hk]
   have low:∀ a u,sa≤a→a < sa + k→sa + k≤u→u < sa + na + nb→K (arrOf st) a≤K (arrOf st) u:=fun a u a1 a2 u3 u4=>by
    by_cases hu:u < sa + na
    ·exact u1 a u a1 (by omega) hu
    ·exact Int.le_trans (q2 a a1 a2) (u2 _ _ (Nat.le_refl _) (by omega) u4)
   have high:∀ a u,sa + k≤a→a < sa + na + m→sa + na + m≤u→u < sa + na + nb→K (arrOf st) a≤K (arrOf st) u:=fun a u a1 a2 u3 u4=>by
    by_cases ha:a < sa + na
    ·exact Int.le_trans (u1 a (sa + na - 1) (by omega) (by omega) (by omega)) (v3 u u3 u4)
    ·exact u2 a u (by omega) (by omega) u4
   by_cases hi1:sa + k≤i∧i < sa + na + m
   ·rw [if_pos hi1]
    by_cases hj1:sa + k≤j∧j < sa + na + m
    ·rw [if_pos hj1]
     exact ur _ _ (Nat.zero_le _) (by omega) (by omega)
    ·rw [if_neg hj1]
     obtain ⟨u,w1,w2,w3⟩:=hfrom i hi1.1 hi1.2
     rw [w3]
     exact high u j w1 w2 (by omega) (by omega)
   ·rw [if_neg hi1]
    by_cases hj1:sa + k≤j∧j < sa + na + m
    ·rw [if_pos hj1]
     obtain ⟨u,w1,w2,w3⟩:=hfrom j hj1.1 hj1.2
     rw [w3]
     exact low i u i1 (by omega) w1 (by omega)
    ·rw [if_neg hj1]
     by_cases hil:i < sa + k
     ·by_cases hjl:j < sa + na
      ·exact u1 i j i1 i2 hjl
      ·exact low i j i1 hil (by omega) (by omega)
     ·exact u2 i j (by omega) i2 (by omega)
  have wp:(wr (arrOf st) (sa + k) r.toList.zipIdx).Perm a0:=by
   refine Array.Perm.trans (Array.perm_iff_toList_perm.mpr ?_) hB.perm
   rw [yL hw,rl]
   refine List.Perm.trans ((g1.append_right _).append_left _) ?_
   rw [show (arrOf st).toList.drop (sa + k + (na - k + m))=((arrOf st).toList.drop (sa + k)).drop (na - k + m) by rw [List.drop_drop],List.take_append_drop,List.take_append_drop]
  rw [s2]
  refine h _ ⟨wp,s1.trans hB.kind,s4.trans hB.failed⟩ (by show (pendingOf st').toList=_; rw [s3]; exact hP2) ?_ fun t ht=>?_
  ·show Ch (wr (arrOf st) (sa + k) r.toList.zipIdx) 0 (pendingOf st').toList y
   rw [s3]
   show Ch _ 0 (((pendingOf st).setIfInBounds i (sa,na + nb,p)).eraseIdxIfInBounds (i + 1)).toList y
   rw [hP2]
   refine Ch.app.mpr ⟨sa,c1.like fun t t1 t2=>?_,rfl,by omega,wu,?_⟩
   ·rw [hk,if_neg (by omega)]
   ·rw [← Nat.add_assoc]
    exact c2.like fun t t1 t2=>by rw [hk,if_neg (by omega)]
  ·show K (wr (arrOf st) (sa + k) r.toList.zipIdx) t=_
   rw [hk,if_neg (by omega)]
 have endS:∀ (r:Array Keyed) (st':SortSt),Good ((arrOf st).extract (sa + k) (sa + na)) ((arrOf st).extract (sa + na) (sa + na + m)) r→Sg (setPending st (((pendingOf st).setIfInBounds i (sa,na + nb,p)).eraseIdxIfInBounds (i + 1))) st'→
   wpS (model prog w) A E s (do
    modify fun s=>setArr s (r.toList.zipIdx.foldl (fun a (p,j)=>a.setIfInBounds (sa + k + j) p) (arrOf s))
    return (failedOf (← get)).isNone) Q st':=fun r st' g z=>by
  refine wpS_bind (wpS_modify (wpS_bind (wpS_get (wpS_pure ?_))))
  have hf:failedOf st'=none:=z.2.2.2.trans hB.failed
  show Q (failedOf st').isNone (setArr st' (wr (arrOf st') (sa + k) r.toList.zipIdx))
  rw [hf]
  exact fin r st' g z
 by_cases hc:na - k≤m
 ·rw [if_pos hc]
  exact wpS_bind (Be hB.kind (ph ik _ _) (ph ik _ _) ux uy (by omega) (by omega) (hfirst 0 (by omega)) hlast fun r st' g z=>endS r st' g z)
 ·rw [if_neg hc]
  exact wpS_bind (Bg hB.kind (ph ik _ _) (ph ik _ _) ux uy (by omega) (by omega) hfirst hlast fun r st' g z=>endS r st' g z)
end
end SR
namespace SR
open PySem PyProof.Rows
section
variable {prog:Program} {w:World} {A:Around} {E:Value→Shared→Prop} {s:Shared} {a0:Array Keyed}
structure Al (a0:Array Keyed) (y:Nat) (st:SortSt):Prop where
 bs:Bs a0 st
 ch:Ch (arrOf st) 0 (pendingOf st).toList y
theorem Bj {c:Prop} [Decidable c] {n:Nat} (h:2≤n):(if c then n - 2 - 1 else n - 2) + 1 < n:=by split <;> omega
theorem Bk {l:List (Nat × Nat × Nat)} {i:Nat} (h:i + 1 < l.length):∃ l1 sa na p sb nb q l2,l=l1 ++ (sa,na,p) :: (sb,nb,q) :: l2∧i=l1.length:=by
 refine ⟨l.take i,l[i].1,l[i].2.1,l[i].2.2,l[i + 1].1,l[i + 1].2.1,l[i + 1].2.2,l.drop (i + 2),?_,by rw [List.length_take]; omega⟩
 have e1:l.drop i=l[i] :: l.drop (i + 1):=List.drop_eq_getElem_cons (by omega)
 have e2:l.drop (i + 1)=l[i + 1] :: l.drop (i + 2):=List.drop_eq_getElem_cons h
 have e3:=List.take_append_drop i l
 rw [e1,e2] at e3
 exact e3.symm
theorem wR {st:SortSt} {i y:Nat} {Q:Bool→SortSt→Prop} (h0:IK a0) (h1:Al a0 y st) (hy:y≤a0.size) (hi:i + 1 < (pendingOf st).size)
  (h:∀ st',Al a0 y st'→(pendingOf st').size + 1=(pendingOf st).size→(∀ t,y≤t→K (arrOf st') t=K (arrOf st) t)→Q true st'):wpS (model prog w) A E s (mergeAt' i) Q st:=by
 rw [← Array.length_toList] at hi
 obtain ⟨l1,sa,na,p,sb,nb,q,l2,e,el⟩:=Bk hi
 refine Bi h0 h1.bs el e h1.ch hy fun st' b1 b2 b3 b4=>h st' ⟨b1,b3⟩ ?_ b4
 rw [← Array.length_toList,← Array.length_toList,b2,e]
 simp [Nat.add_assoc]
set_option maxHeartbeats 2000000 in
theorem Bl {st:SortSt} {Q:Unit→SortSt→Prop} (h0:IK a0) (hB:Bs a0 st) (hP:pendingOf st = #[]) (h2:1≤a0.size)
  (h:∀ st',(arrOf st').Perm a0→failedOf st'=none→Up (arrOf st') 0 a0.size→Q () st'):wpS (model prog w) A E s sortRuns' Q st:=by
 rw [sortRuns'_eq]
 refine wpS_bind (wpS_get ?_)
 dsimp only
 have hsz:(arrOf st).size=a0.size:=hB.perm.size_eq
 rw [hsz]
 generalize minRun' a0.size a0.size 0=mr
 refine wpS_bind (wpS_mono (wpS_forRange (I:=fun x c st'=>∃ lo,c=(none,lo)∧Al a0 lo st'∧lo≤a0.size∧(x≤lo ∨ lo=a0.size))
  (Q:=fun c st'=>c=(none,a0.size)∧Al a0 a0.size st') ?step ?fin ⟨0,rfl,⟨hB,by rw [hP]; exact rfl⟩,Nat.zero_le _,.inl (Nat.le_refl _)⟩) ?post)
 case fin=>
  rintro c st' ⟨lo,rfl,b1,b2,b3⟩
  have:lo=a0.size:=by omega
  subst this
  exact ⟨rfl,b1⟩
 case step=>
  rintro x c st' _ hx ⟨lo,rfl,b1,b2,b3⟩
  dsimp only
  by_cases g:lo ≥ a0.size
  ·rw [if_pos g]
   have:lo=a0.size:=by omega
   subst this
   exact wpS_pure ⟨rfl,b1⟩
  rw [if_neg g]
  have hSB:SB a0 (arrOf st') (pendingOf st') lo st':=⟨b1.bs.perm,b1.bs.kind,b1.bs.failed,rfl,fun _ _=>rfl⟩
  -- what follows when the run of n is there
  have nxt:∀ (n:Nat) (st2:SortSt),SB a0 (arrOf st') (pendingOf st') lo st2→1≤n→lo + n≤a0.size→Up (arrOf st2) lo (lo + n)→Al a0 lo st2:=fun n st2 c1 _ _ _=>
   ⟨⟨c1.perm,c1.kind,c1.failed⟩,by rw [c1.pend]; exact b1.ch.like fun t _ ht=>c1.low t ht⟩
  refine wpS_bind (Bh h0 (by omega) (by omega) hSB fun m st2 c1 m1 m2 u=>?_)
  dsimp only
  have last:∀ (n:Nat) (st2:SortSt),Al a0 lo st2→1≤n→lo + n≤a0.size→Up (arrOf st2) lo (lo + n)→Al a0 (lo + n) (setPending st2 ((pendingOf st2).push (lo,n,0))):=fun n st2 d1 d2 d3 d4=>by
   refine ⟨⟨d1.bs.perm,d1.bs.kind,d1.bs.failed⟩,?_⟩
   show Ch (arrOf st2) 0 ((pendingOf st2).push (lo,n,0)).toList (lo + n)
   rw [Array.toList_push]
   exact Ch.app.mpr ⟨lo,d1.ch,rfl,d2,d4,rfl⟩
  by_cases hm:m < mr
  all_goals first | rw [if_pos hm] | rw [if_neg hm]
  ·refine wpS_bind (wpS_lift (wpAny_rule ⟨rfl,?_⟩))
   refine wpS_bind (yK h0 (n:=min (a0.size - lo) mr) (by omega) c1 u (by omega) fun st3 d1 d2=>?_)
   simp only [Bool.not_true,Bool.false_eq_true,if_false]
   refine wpS_bind (wpS_get ?_)
   obtain ⟨n,hn⟩:∃ n,n=min (a0.size - lo) mr:=⟨_,rfl⟩
   rw [← hn] at d2 ⊢
   have n1:1≤n:=by omega
   have n2:lo + n≤a0.size:=by omega
   have al:=nxt n st3 d1 n1 n2 d2
   cases hb:(pendingOf st3).back? with
   | none=>
    dsimp only
    exact wpS_bind (wpS_modify (wpS_pure ⟨lo + n,rfl,last n st3 al n1 n2 d2,n2,by omega⟩))
   | some e=>
    obtain ⟨s1,n3,p3⟩:=e
    dsimp only
    generalize power' a0.size (2 * s1 + n3) (2 * s1 + n3 + n3 + n) a0.size=pw
    refine wpS_bind (wpS_mono (wpS_forRange (I:=fun y c st4=>c=(none,())∧Al a0 lo st4∧Up (arrOf st4) lo (lo + n))
     (Q:=fun c st4=>c=(none,())∧Al a0 lo st4∧Up (arrOf st4) lo (lo + n)) ?a (fun _ _ z=>z) ⟨rfl,al,d2⟩) ?b)
    case a=>
     rintro y c st4 _ _ ⟨rfl,e1,e2⟩
     refine wpS_bind (wpS_get ?_)
     by_cases hp:(pendingOf st4).size > 1
     ·rw [if_pos hp]
      have hg:(pendingOf st4)[(pendingOf st4).size - 2]?=some (pendingOf st4)[(pendingOf st4).size - 2]:=getElem?_pos _ _ (by omega)
      rw [hg]
      dsimp only
      split
      ·exact wpS_pure ⟨rfl,e1,e2⟩
      ·refine wpS_bind (wR h0 e1 (by omega) (by omega) fun st5 f1 _ f3=>?_)
       simp only [Bool.not_true,Bool.false_eq_true,if_false]
       refine wpS_pure ⟨rfl,f1,fun i j i1 i2 i3=>?_⟩
       rw [f3 i i1,f3 j (by omega)]
       exact e2 i j i1 i2 i3
     ·rw [if_neg hp]
      exact wpS_pure ⟨rfl,e1,e2⟩
    case b=>
     rintro c st4 ⟨rfl,e1,e2⟩
     dsimp only
     refine wpS_bind (wpS_modify (wpS_bind (wpS_modify (wpS_pure ⟨lo + n,rfl,last n _ ⟨⟨e1.bs.perm,e1.bs.kind,e1.bs.failed⟩,?_⟩ n1 n2 e2,n2,by omega⟩))))
     show Ch (arrOf st4) 0 ((pendingOf st4).modify ((pendingOf st4).size - 1) _).toList lo
     rw [Array.toList_modify]
     exact Ch.pow _ (fun s n p=>⟨_,rfl⟩) _ e1.ch
  ·refine wpS_bind (wpS_get ?_)
   have n2:lo + m≤a0.size:=by omega
   have al:=nxt m st2 c1 m1 n2 u
   cases hb:(pendingOf st2).back? with
   | none=>
    dsimp only
    exact wpS_bind (wpS_modify (wpS_pure ⟨lo + m,rfl,last m st2 al m1 n2 u,n2,by omega⟩))
   | some e=>
    obtain ⟨s1,n3,p3⟩:=e
    dsimp only
    generalize power' a0.size (2 * s1 + n3) (2 * s1 + n3 + n3 + m) a0.size=pw
    refine wpS_bind (wpS_mono (wpS_forRange (I:=fun y c st4=>c=(none,())∧Al a0 lo st4∧Up (arrOf st4) lo (lo + m))
     (Q:=fun c st4=>c=(none,())∧Al a0 lo st4∧Up (arrOf st4) lo (lo + m)) ?a (fun _ _ z=>z) ⟨rfl,al,u⟩) ?b)
    case a=>
     rintro y c st4 _ _ ⟨rfl,e1,e2⟩
     refine wpS_bind (wpS_get ?_)
     by_cases hp:(pendingOf st4).size > 1
     ·rw [if_pos hp]
      have hg:(pendingOf st4)[(pendingOf st4).size - 2]?=some (pendingOf st4)[(pendingOf st4).size - 2]:=getElem?_pos _ _ (by omega)
      rw [hg]
      dsimp only
      split
      ·exact wpS_pure ⟨rfl,e1,e2⟩
      ·refine wpS_bind (wR h0 e1 (by omega) (by omega) fun st5 f1 _ f3=>?_)
       simp only [Bool.not_true,Bool.false_eq_true,if_false]
       refine wpS_pure ⟨rfl,f1,fun i j i1 i2 i3=>?_⟩
       rw [f3 i i1,f3 j (by omega)]
       exact e2 i j i1 i2 i3
     ·rw [if_neg hp]
      exact wpS_pure ⟨rfl,e1,e2⟩
    case b=>
     rintro c st4 ⟨rfl,e1,e2⟩
     dsimp only
     refine wpS_bind (wpS_modify (wpS_bind (wpS_modify (wpS_pure ⟨lo + m,rfl,last m _ ⟨⟨e1.bs.perm,e1.bs.kind,e1.bs.failed⟩,?_⟩ m1 n2 e2,n2,by omega⟩))))
     show Ch (arrOf st4) 0 ((pendingOf st4).modify ((pendingOf st4).size - 1) _).toList lo
     rw [Array.toList_modify]
     exact Ch.pow _ (fun s n p=>⟨_,rfl⟩) _ e1.ch
 case post=>
  rintro c st' ⟨rfl,b1⟩
  dsimp only
  have hp0:(pendingOf st').size≤a0.size:=by have:=b1.ch.le; rw [Array.length_toList] at this; omega
  refine wpS_bind (wpS_mono (wpS_forRange (I:=fun x c st2=>c=(none,())∧Al a0 a0.size st2∧((pendingOf st2).size + x≤a0.size ∨ (pendingOf st2).size≤1))
   (Q:=fun c st2=>c=(none,())∧Al a0 a0.size st2∧(pendingOf st2).size≤1) ?a ?b ⟨rfl,b1,.inl (by omega)⟩) ?c)
  case b=>
   rintro c st2 ⟨hc,d1,d2⟩
   exact ⟨hc,d1,by omega⟩
  case a=>
   rintro x c st2 _ hx ⟨rfl,d1,d2⟩
   refine wpS_bind (wpS_get ?_)
   by_cases hs:(pendingOf st2).size≤1
   ·rw [if_pos hs]
    exact wpS_pure ⟨rfl,d1,hs⟩
   rw [if_neg hs]
   refine wpS_bind (wR h0 d1 (Nat.le_refl _) (Bj (by omega)) fun st5 f1 f2 _=>?_)
   simp only [Bool.not_true,Bool.false_eq_true,if_false]
   exact wpS_pure ⟨rfl,f1,by omega⟩
  case c=>
   rintro c st2 ⟨rfl,d1,d2⟩
   refine wpS_pure (h st2 d1.bs.perm d1.bs.failed ?_)
   have hc:=d1.ch
   rw [← Array.length_toList] at d2
   match hl:(pendingOf st2).toList with
   | []=>rw [hl] at hc; unfold Ch at hc; omega
   | [(z,n,p)]=>
    rw [hl] at hc
    obtain ⟨e1,e2,e3,e4⟩:=hc
    unfold Ch at e4
    rw [Nat.zero_add] at e3 e4
    subst e4
    exact e3
   | _ :: _ :: _=>rw [hl] at d2; simp at d2
end
end SR
namespace SR
open PySem PyProof.Rows
section
variable {prog:Program} {w:World} {A:Around} {E:Value→Shared→Prop} {s:Shared}
theorem ups {xs:Array Keyed} {n:Nat} (h:Up xs 0 n):SortedTo xs n:=fun i j i1 i2=>h i j (Nat.zero_le _) i1 i2
theorem wU {a:Addr} {vs:List Value} {ns:List Int} {n:Nat} {P:Fin→Shared→Prop} (ho:s.heap.get? a=some (seqObj "list" vs.toArray n)) (hI:IntsAre vs ns) (hz:vs.length≤sizeLine)
  (h:∀ (out:Array Value) (ns':List Int),IntsAre out.toList ns'→ns'.Perm ns→ns'.Pairwise (· ≤ ·)→P (.done (.ret .none)) { s with heap:=sortedHeap s.heap a vs out }):wpAny (model prog w) A (Builtin.«list.sort» ⟨[.ref a],[]⟩) P E s:=by
 by_cases h64:vs.length < 64
 ·exact list_sort_tree ho hI h64 h
 rw [list_sort_plain]
 have lt:=Heap.lt_size ho
 refine wpAny_bind (listItems_at ho rfl (wpAny_bind (listUpdate_at ho rfl ?_ (hsz:=by simpa using hz) (hsz2:=by simp))))
 obtain ⟨ep,g1⟩:∃ ep,(s.heap.update a (Obj.mapSeq fun _=>#[])).get? a=some (seqObj "list" #[] ep):=⟨_,get?_update_seq ho (fun _=>#[])⟩
 refine wpAny_bind (seqEpoch_at g1 rfl (wpAny_bind (wpAny_newTuple (wpAny_bind (wpAny_newList (wpAny_holding ?_))) (by simpa using hz))))
 have g2:(((s.heap.update a (Obj.mapSeq fun _=>#[])).push (seqObj "tuple" vs.toArray 0)).push (seqObj "list" #[] 0)).get? a=some (seqObj "list" #[] ep):=by
  have z1:(s.heap.update a (Obj.mapSeq fun _=>#[])).objs.size=s.heap.objs.size:=Heap.size_update ..
  rw [Heap.get?_push_ne _ _ _ (by rw [size_push',z1]; exact Nat.ne_of_lt (Nat.lt_succ_of_lt lt)),Heap.get?_push_ne _ _ _ (by rw [z1]; exact Nat.ne_of_lt lt),g1]
 have big:¬ vs.toArray.size < 2:=by simp; omega
 dsimp only
 rw [if_neg big,if_neg big]
 match vs,hI,hz,h64 with
 | [],_,_,h64=>exact absurd (by decide) h64
 | [_],_,_,h64=>exact absurd (by simp) h64
 | v1 :: v2 :: vs,hI,hz,h64=>
  rw [keyKind_ints hI]
  refine wpAny_bind (wpAny_pure (wpAny_bind (wpAny_mono (Bl (a0:=pairsOf (v1 :: v2 :: vs)) (st:=SortSt.mk' oneType' ((v1 :: v2 :: vs).toArray.zip (v1 :: v2 :: vs).toArray) #[] 7 none)
   (Q:=fun _ st'=>(arrOf st').Perm (pairsOf (v1 :: v2 :: vs))∧failedOf st'=none∧SortedTo (arrOf st') (pairsOf (v1 :: v2 :: vs)).size)
   hI.intKeys ⟨Array.Perm.refl _,rfl,rfl⟩ rfl (by rw [pairsOf_size]; simp) fun st' b1 b2 b3=>⟨b1,b2,ups b3⟩) ?_ fun _ _ e=>e)))
  rintro ⟨⟨⟩,st'⟩ s' ⟨rfl,b1,b2,b3⟩
  have hsz:((arrOf st').map (·.2)).size=(v1 :: v2 :: vs).length:=(Array.size_map ..).trans (b1.size_eq.trans (pairsOf_size _))
  obtain ⟨ns',c1,c2,c3⟩:=sorted_out hI b1 b3
  refine wpAny_bind (seqEpoch_at g2 rfl (wpAny_bind (listUpdate_at g2 rfl ?_ (hsz:=by simp) (hsz2:=by rw [hsz]; omega))))
  rw [b2]
  simp only [bne_self_eq_false,Bool.false_eq_true,if_false]
  exact wpAny_pure (h _ ns' c1 c2 c3)
end
end SR
namespace SQ
open PySem PySem.Spec PyProof.Rows
section
variable {prog:Program} {w:World} {A:Around} {E:Value→Shared→Prop} {s:Shared}
theorem mU {h:Heap} {a:Addr} {vs:List Value} {n:Nat} {out:Array Value} (ho:h.get? a=some (seqObj "list" vs.toArray n)):(∃ n',(sortedHeap h a vs out).get? a=some (seqObj "list" out n'))∧∀ b o,b ≠ a→h.get? b=some o→(sortedHeap h a vs out).get? b=some o:=by
 unfold sortedHeap
 obtain ⟨k,g⟩:∃ k,(h.update a (Obj.mapSeq fun _=>#[])).get? a=some (seqObj "list" #[] k):=⟨_,get?_update_seq ho _⟩
 refine ⟨⟨_,get?_update_seq (Heap.get?_push_of_some _ (Heap.get?_push_of_some _ g)) _⟩,fun b o hb e=>?_⟩
 exact ((Heap.SameBut.update ..).2 b hb).trans (Heap.get?_push_of_some _ (Heap.get?_push_of_some _ (((Heap.SameBut.update ..).2 b hb).trans e)))
theorem kN {s:Shared} {vs:List Value} {ns:List Int} {Q:Value→Shared→Prop} (hI:IntsAre vs ns) (hz:vs.length≤sizeLine)
  (h:∀ (h':Heap) (out:Array Value) (ns':List Int) (n:Nat),(∀ b o,s.heap.get? b=some o→h'.get? b=some o)→h'.get? s.heap.objs.size=some (seqObj "list" out n)→IntsAre out.toList ns'→ns'.Perm ns→ns'.Pairwise (· ≤ ·)→Q (.ref s.heap.objs.size) { s with heap:=h' }):
  wpAny (model prog w) A (do
   let l ← newList vs
   let _ ← holding [l] (call (.builtin "list.sort") [l] [])
   ret l) (fun fin s'=>∃ v,fin=.done (.ret v)∧Q v s') E s:=by
 refine wpAny_bind (wpAny_newList ?_ hz)
 have g:(s.heap.push (seqObj "list" vs.toArray 0)).get? s.heap.objs.size=some (seqObj "list" vs.toArray 0):=Heap.get?_push_size _ rfl
 refine wpAny_bind (wpAny_holding (wpAny_call_entry slot_list_sort ⟨_,g,rfl⟩ entry_list_sort (SR.wU g hI hz fun out ns' a1 a2 a3=>⟨_,rfl,?_⟩) (args_list_sort _)))
 obtain ⟨⟨n,g1⟩,g2⟩:=mU (out:=out) g
 exact wpAny_pure ⟨_,rfl,h _ out ns' n (fun b o e=>g2 b o (Nat.ne_of_lt (Heap.lt_size e)) (Heap.get?_push_of_some _ e)) g1 a1 a2 a3⟩
theorem sorted_seq {k:Bool} {l:Addr} {vs:List Value} {ns:List Int} {Q:Value→Shared→Prop} (hl:Is k s.heap l vs.toArray) (hI:IntsAre vs ns) (hz:vs.length≤sizeLine)
  (h:∀ (a:Addr) (h':Heap) (out:Array Value) (ns':List Int) (n:Nat),s.heap.objs.size≤a→(∀ b o,s.heap.get? b=some o→h'.get? b=some o)→h'.get? a=some (seqObj "list" out n)→IntsAre out.toList ns'→ns'.Perm ns→ns'.Pairwise (· ≤ ·)→Q (.ref a) { s with heap:=h' }):
  wpAny (model prog w) A (call (.builtin "sorted") [.ref l]) Q E s:=by
 refine Calls.call_function_entry kind_sorted plain_sorted entry_sorted (args_sorted1 _) ?_
 unfold Builtin.«sorted»
 refine wpAny_bind (m:=checkCount "sorted" 1 1 _) (wpAny_pure ?_)
 refine wpAny_bind (collects hl ?_ hz)
 have kp:∀ b o,s.heap.get? b=some o→((s.heap.push (seqObj "list" #[] 0)).update s.heap.objs.size (Obj.mapSeq (· ++ vs.toArray))).get? b=some o:=fun b o e=>
  ((Heap.SameBut.update ..).2 b (Nat.ne_of_lt (Heap.lt_size e))).trans (Heap.get?_push_of_some _ e)
 refine kN (s:={ s with heap:=(s.heap.push (seqObj "list" #[] 0)).update s.heap.objs.size (Obj.mapSeq (· ++ vs.toArray)) }) hI hz fun h' out ns' n k1 k2 a1 a2 a3=>h _ h' out ns' n ?_ (fun b o e=>k1 b o (kp b o e)) k2 a1 a2 a3
 show s.heap.objs.size≤((s.heap.push (seqObj "list" #[] 0)).update s.heap.objs.size (Obj.mapSeq (· ++ vs.toArray))).objs.size
 rw [Heap.size_update,size_push']; exact Nat.le_succ _
theorem sorted_src {T:String} {r d:Addr} {n:Nat} {P:Nat→Value→Prop} {OK:Heap→Prop} {ns:List Int} {Q:Value→Shared→Prop} (K:PySem.W.KdlSrc prog w T r d n P OK) (hh:A.handled=none) (hok:OK s.heap) (hn:n≤sizeLine)
  (hI:∀ vs:List Value,vs.length=n→(∀ j v,vs[j]?=some v→P j v)→IntsAre vs ns)
  (h:∀ (h1:Heap) (tk:Nat),(∀ b o,s.heap.get? b=some o→h1.get? b=some o)→∀ (h2:Heap) (out:Array Value) (ns':List Int) (n:Nat),(∀ b o,h1.get? b=some o→h2.get? b=some o)→h2.get? h1.objs.size=some (seqObj "list" out n)→IntsAre out.toList ns'→ns'.Perm ns→ns'.Pairwise (· ≤ ·)→Q (.ref h1.objs.size) { s with heap:=h2,toks:=tk }):
  wpAny (model prog w) A (call (.builtin "sorted") [.ref r]) Q E s:=by
 refine Calls.call_function_entry kind_sorted plain_sorted entry_sorted (args_sorted1 _) ?_
 unfold Builtin.«sorted»
 refine wpAny_bind (m:=checkCount "sorted" 1 1 _) (wpAny_pure ?_)
 refine wpAny_bind (PySem.W.kdu_collect (A:=A.in1) K hh hok hn fun h' tk acc hk hacc=>?_)
 have hl:acc.toList.length=n:=by rw [Array.length_toList]; exact hacc.1
 have hi:=hI acc.toList hl fun j v e=>hacc.2 j v (by rw [← Array.getElem?_toList]; exact e)
 refine kN (s:={ s with heap:=h',toks:=tk }) hi (by omega) fun h2 out ns' n k1 k2 a1 a2 a3=>h h' tk hk h2 out ns' n k1 k2 a1 a2 a3
end
end SQ
namespace PD
open PySem PySem.Spec PyProof.Rows L2
def gR:List (KD × D)→Option (List Int)
 | []=>some []
 | (.inl i,_) :: r=>(gR r).map (i :: ·)
 | _=>none
def qu (S:Sto) (d:D):Option (List Int):=match bg S d with
 | some a=>intsOf a
 | none=>match du S d with
  | some kvs=>gR kvs
  | none=>none
def wV:Sto→List D→Option D
 | S,[d]=>match qu S d with
  | some ns=>if ns.length≤sizeLine then some (.lst ((jh ns).map .int)) else none
  | none=>none
 | _,_=>none
section
variable {X:Cx} {E:XK}
theorem nO:∀ {kvs:List (KD × D)} {ns:List Int},gR kvs=some ns→ns.length=kvs.length
 | [],_,h=>by unfold gR at h; cases h; rfl
 | (.inl i,_) :: r,ns,h=>by
  unfold gR at h
  cases e:gR r with
  | none=>rw [e] at h; cases h
  | some m=>rw [e] at h; cases h; simp [nO e]
 | (.inr i,_) :: r,ns,h=>by unfold gR at h; cases h
theorem qw:∀ {kvs:List (KD × D)} {ns:List Int},gR kvs=some ns→∀ (j:Nat) (k:KD) (d:D),kvs[j]?=some (k,d)→∃ i,ns[j]?=some i∧k=.inl i
 | [],_,h,j,k,d,e=>by simp at e
 | (.inl i,x) :: r,ns,h,j,k,d,e=>by
  unfold gR at h
  cases e':gR r with
  | none=>rw [e'] at h; cases h
  | some m=>
   rw [e'] at h; cases h
   cases j with
   | zero=>simp at e; exact ⟨i,rfl,e.1.symm⟩
   | succ j=>exact qw e' j k d (by simpa using e)
 | (.inr i,_) :: r,ns,h,j,k,d,e=>by unfold gR at h; cases h
theorem lY:∀ (vs:List Value) (ns:List Int),vs.length=ns.length→(∀ (j:Nat) (v:Value),vs[j]?=some v→∃ i t,ns[j]?=some i∧v=.int i t)→IntsAre vs ns
 | [],[],_,_=>.nil
 | v :: vs,n :: ns,hl,h=>by
  obtain ⟨i,t,e,rfl⟩:=h 0 v rfl
  cases e
  exact .cons _ _ (lY vs ns (by simpa using hl) fun j v e=>h (j + 1) v (by simpa using e))
 | [],_ :: _,hl,_=>by simp at hl
 | _ :: _,[],hl,_=>by simp at hl
theorem RDk.at {K:PySem.W.Frag} {w:Wd} {H:Hp}:∀ {ds:List (KD × D)} {us:List (Key × V)},RDk K w H ds us→∀ (j:Nat) (k:Key) (v:V),us[j]?=some (k,v)→∃ d,ds[j]?=some (k,d)
 | [],_,h,j,k,v,e=>by rw [h.nil_inv] at e; simp at e
 | (k0,d) :: ds,_,h,j,k,v,e=>by
  obtain ⟨v0,r,rfl,_,t⟩:=h.cons_inv
  cases j with
  | zero=>simp at e; exact ⟨d,by simp [e.1]⟩
  | succ j=>exact t.at j k v (by simpa using e)
theorem Bm (hc:X.calm=true):bL X (.builtin "sorted") (xC X.K E wV):=by
 rintro pins s σ H xs us Q I r ⟨w,S,ds,hS,qs,p⟩
 obtain ⟨z,hz,p'⟩:=p.of
 clear p
 unfold wV at hz
 split at hz
 ·rename_i d
  obtain ⟨v,rfl,q⟩:=qs.one_inv
  split at hz
  ·rename_i ns hns
   split at hz
   ·rename_i hlt
    cases hz
    -- the list that comes
    have last:∀ (s1:Shared) (a:Addr) (h2:Heap) (tk:Nat) (out:Array Value) (ns':List Int) (n:Nat),Inv X pins σ H s1→s1.heap.objs.size≤a→(∀ b o,s1.heap.get? b=some o→h2.get? b=some o)→h2.get? a=some (seqObj "list" out n)→IntsAre out.toList ns'→ns'.Perm ns→ns'.Pairwise (· ≤ ·)→EP X pins σ Q (.ref a) { s1 with heap:=h2,toks:=tk }:=fun s1 a h2 tk out ns' n I1 la k1 k2 a1 a2 a3=>by
     have en:ns'=jh ns:=kK (a2.trans (ft ns).symm) a3 (g9 ns)
     subst en
     have hf:H a=none:=I1.hok.fresh la
     have hz:((jh ns).map V.int).length≤sizeLine:=by rw [List.length_map,(ft ns).length_eq]; exact hlt
     refine ⟨.ref a,_,I1.laid (t':=tk) (a:=a) (o:=.lst ((jh ns).map V.int)) k1 la ⟨hz,out.toList,n,sV a1,by rw [Array.toArray_toList]; exact k2⟩,rfl,?_⟩
     exact p'.at (Ext.new hf) (RD.newLst hS hf (ql _)) (hS.new hf)
    unfold qu at hns
    split at hns
    ·rename_i a ha
     obtain ⟨pa,vs,rfl,sq,ra⟩:=kl hS q ha
     obtain ⟨u,rfl,rx⟩:=vals1 r
     cases rx
     have main:∀ (k:Bool) (its:List Value),Vals vs its→SQ.Is k s.heap pa its.toArray→wpAny (model X.prog X.w) X.A (call (.builtin "sorted") [.ref pa]) (EP X pins σ Q) X.xe s:=fun k its rv pl=>by
      have hI:=lS ra rv hns
      have hl:its.length=ns.length:=hI.length
      exact SQ.sorted_seq pl hI (by omega) fun a h' out ns' n la k1 k2 a1 a2 a3=>last s a h' s.toks out ns' n I la k1 k2 a1 a2 a3
     rcases sq with hq | hq
     ·obtain ⟨its,r',pl,hz⟩:=I.list hq
      exact main false its r' pl.isList
     ·obtain ⟨its,r',pl,hz⟩:=I.tuple hq
      exact main true its r' pl
    ·split at hns
     ·rename_i kvs hd
      obtain ⟨pp,us',rfl,rd,rk⟩:=hJ hS q hd
      obtain ⟨u,rfl,rx⟩:=vals1 r
      cases rx
      obtain ⟨hl,hm,vs,rel,dd⟩:=iw I.hok rd
      obtain ⟨ep,hat⟩:=dd.dictAt
      have e1:=rel.length
      have e2:=rk.length
      have e3:=nO hns
      refine SQ.sorted_src (ns:=ns) (PySem.W.kdl_dict (knd:=aP X.prog X.w) (kvs:=vs) (ep:=ep) hm) (I.ok.hd hc) hat (by omega) (fun ws hw hv=>?_) fun h1 tk hk h2 out ns' n k1 k2 a1 a2 a3=>?_
      ·refine lY ws ns (by omega) fun j u hu=>?_
       obtain ⟨k,x,hx,hkey⟩:=hv j u hu
       obtain ⟨y,hy⟩:∃ y,us'[j]?=some (k,y):=by
        have e:=congrArg (fun l:List Key=>l[j]?) rel.keys
        simp only [List.getElem?_map,hx,Option.map_some] at e
        cases hu':us'[j]? with
        | none=>rw [hu'] at e; cases e
        | some q=>rw [hu'] at e; cases e; exact ⟨q.2,rfl⟩
       obtain ⟨d',hd'⟩:=rk.at j k y hy
       obtain ⟨i,hi,rfl⟩:=qw hns j k d' hd'
       have:=lV hkey
       obtain ⟨t,rfl⟩:∃ t,u=.int i t:=this
       exact ⟨i,t,hi,rfl⟩
      ·exact last { s with heap:=h1,toks:=tk } _ h2 tk out ns' n (I.kept (t':=tk) hk) (Nat.le_refl _) k1 k2 a1 a2 a3
     ·cases hns
   ·cases hz
  ·cases hz
 ·cases hz
end
end PD
namespace PD
open PySem PySem.Spec PyProof.Rows L2
section
variable {prog:Program} {w:World} {A:Around} {R:Result→Shared→Prop} {I:Addr} {fp wr:List Addr} {n:Nat} {P:Nat→Value→Prop} {St:Nat→Heap→Prop} {h0:Heap} {bt:Nat→Nat→Bool} {S:Addr} {kw:List (Str × Value)}
end
section
variable {prog:Program} {w:World} {A:Around} {E:Value→Shared→Prop} {s:Shared}
end
section
variable {X:Cx} {E:XK}
end
end PD
namespace L2
open PySem PySem.Spec PyProof.Rows
theorem Inv.freezeL {X:Cx} {pins:List (Addr × Obj)} {σ:St} {H:Hp} {s:Shared} {a:Addr} {vs:List V} (I:Inv X pins σ H s) (h:H a=some (.lst vs)):∃ o,Inv X pins σ (upd H a (.frz o (.lst vs))) s:=by
 obtain ⟨z,its,n,r,e⟩:bG X.prog X.w H s.heap a (.lst vs):=I.hok a _ h
 have I2:Inv X pins σ (upd H a (.frz _ (.lst vs))) { s with heap:=s.heap,toks:=s.toks }:=I.write (x:=a) (e:=a) (by rw [h]; exact True.intro) (.inl rfl) (fun b u _ q=>q) ⟨_,e⟩ ⟨e,z,its,n,r,e⟩
 exact ⟨_,I2⟩
section
variable {X:Cx} {tg:Expr}
def Dr (K:PySem.W.Frag) (td:TE):TI:=fun σ H R=>td σ H fun x H1=>∃ a vs,x=.ref a∧((H1 a=some (.lst vs)∧∀ o,R (Itl K a) (upd H1 a (.frz o (.lst vs)))) ∨ ∃ o,H1 a=some (.frz o (.lst vs))∧R (Itl K a) H1)
theorem Bn {d:Expr} {td:TE} (hd:PE X d td):PI X tg d (Dr X.K td):=by
 intro pins s σ H R I h
 refine thn (hd pins s σ H _ I h) fun u s1 zq=>?_
 obtain ⟨x,H1,I1,rx,a,vs,ex,q1⟩:=zq
 subst ex
 obtain rfl:u=Value.ref a:=rx
 have main:∀ (H2:Hp) (o:Obj),Inv X pins σ H2 s1→H2 a=some (.frz o (.lst vs))→R (Itl X.K a) H2→wpAny (model X.prog X.w) X.A (pyIter (.ref a)) (PIE X pins σ tg R) X.xe s1:=fun H2 o I2 hH2 q=>by
  obtain ⟨its,rv,p,hz⟩:=I2.list (xs:=vs) (.inl (.inr ⟨o,hH2⟩))
  refine wpAny_pyIter_list p.isList ?_
  refine ⟨s1.heap.objs.size,[s1.heap.objs.size],_,_,H2,rfl,I2.kept (t':=s1.toks) fun b o e=>Heap.get?_push_of_some _ e,ni a _,⟨_,Heap.get?_push_size _ rfl,rfl,rfl⟩,fun b hb=>?_,q⟩
  have e:b=s1.heap.objs.size:=by simpa using hb
  subst e
  exact I2.fpOk (Nat.le_refl _) (I2.hok.fresh (Nat.le_refl _))
 rcases q1 with ⟨hH,q⟩ | ⟨o,hH,q⟩
 ·obtain ⟨o,I2⟩:=I1.freezeL hH
  exact main _ o I2 aH (q o)
 ·exact main _ o I1 hH q
end
end L2
namespace PD
open PySem PySem.Spec PyProof.Rows L2
def yN (m:EM):AM:=fun r S=>(m r S).bind fun d S1=>match d with
 | .ref n=>match S1[n]? with
  | some (.lst xs)=>.ok xs (S1.set n (.flst xs))
  | some (.flst xs)=>.ok xs S1
  | _=>.bad
 | _=>.bad
theorem wW {K:PySem.W.Frag} {w:Wd} {H:Hp} {a:Addr} {o:Obj} {ds:List D} {vs:List V} (hst:∀ w' H',Ext w H w' H'→H' a=some (.frz o (.lst vs))) (q:RDs K w H ds vs):RI K w H ds (Itl K a):=by
 intro i w' H' x'
 have q':=RDs.ext x' _ _ q
 have sq:SqL K H' a vs:=.inl (.inr ⟨o,hst w' H' x'⟩)
 refine ⟨fun hi=>⟨⟨vs,vs[i]'(by rw [q.length]; exact hi),sq,List.getElem?_eq_getElem _⟩,fun x H'' y=>?_⟩,fun hi=>⟨vs,sq,by rw [q.length]; exact hi⟩⟩
 obtain ⟨rfl,y⟩:=y
 refine ⟨.inl rfl,fun S _=>⟨ds[i],List.getElem?_eq_getElem hi,?_⟩⟩
 obtain ⟨v,e,rv⟩:=q'.get (List.getElem?_eq_getElem hi)
 rw [y vs sq] at e
 cases e
 exact rv
section
variable {X:Cx} {E:XK}
theorem Bo {tg:Expr} {d:Expr} {md:EM} (ha:SE X E d md):SI X E tg d (yN md):=⟨
 eW (Bn ha.out) fun s H Q zq=>ex6 zq fun w r S hr hS hp=>⟨w,r,S,hr,hS,hp.bind hS fun d S1 w1 H1 v x1 q1 s1 p1=>by
  cases d with
  | ref m=>
   obtain ⟨pp,rfl,hp⟩:=q1.refI
   have hm:pp ∈ w1.st:=List.mem_of_getElem? hp
   cases e:S1[m]? with
   | none=>simp only [e] at p1; exact p1.elim
   | some ob=>
    obtain ⟨p',hp',ro⟩:=s1.obj _ _ e
    rw [hp] at hp'; cases hp'
    cases ob with
    | lst xs=>
     simp only [e] at p1
     obtain ⟨vs,hv,rk⟩:=ro
     refine ⟨pp,vs,rfl,.inl ⟨hv,fun o=>?_⟩⟩
     have rk':=RDs.ext (Ext.mut hm hv (o:=.frz o (.lst vs))) _ _ rk
     exact aE.at p1 (Ext.mut hm hv) (wW (fun w' H' x'=>x'.frz _ _ _ aH) rk') (s1.mut hp hv ⟨o,vs,aH,rk'⟩)
    | flst xs=>
     simp only [e] at p1
     obtain ⟨o,vs,hv,rk⟩:=ro
     exact ⟨pp,vs,rfl,.inr ⟨o,hv,aE.ret p1 (wW (fun w' H' x'=>x'.frz _ _ _ hv) rk) s1⟩⟩
    | dic xs=>simp only [e] at p1; exact p1.elim
    | fdic xs=>simp only [e] at p1; exact p1.elim
    | ins c fs=>simp only [e] at p1; exact p1.elim
  | _=>exact p1.elim⟩⟩
end
end PD
namespace PD
open PySem PySem.Spec PyProof.Rows L2
section
variable {X:Cx} {E:XK}
end
end PD
namespace PD
open PySem PySem.Spec PyProof.Rows L2
section
variable {X:Cx} {E:XK} {a:Expr} {ma:EM}
end
end PD
namespace PySem
open PyProof.Rows
namespace F
end F
section
variable {prog:Program} {w:World} {A:Around} {E:Value→Shared→Prop} {s:Shared}
open AutoSeq1 (wpAny_loadPart')
end
end PySem
namespace L2
open PySem PySem.Spec PyProof.Rows
section
variable {X:Cx}
end
end L2
namespace PD
open PySem PySem.Spec PyProof.Rows L2
section
variable {X:Cx} {E:XK} {a:Expr}
end
end PD
namespace L2
open PySem PySem.Spec PyProof.Rows
section
variable {X:Cx}
end
end L2
namespace PD
open PySem PySem.Spec PyProof.Rows L2
section
variable {X:Cx} {E:XK}
end
end PD
namespace PySem
section
variable {M:Model} {A:Around} {E:Value→Shared→Prop} {s:Shared} {env:Env}
end
end PySem
namespace L2
open PySem PySem.Spec PyProof.Rows
section
variable {X:Cx} {pins:List (Addr × Obj)} {σ:St} {H:Hp} {s:Shared}
end
end L2
namespace PD
open PySem PySem.Spec PyProof.Rows L2
section
variable {X:Cx} {E:XK}
end
end PD
namespace PD
open PySem PySem.Spec PyProof.Rows L2
section
variable {X:Cx} {E:XK}
end
end PD
namespace PD
open PySem PySem.Spec PyProof.Rows L2
section
variable {prog:Program} {w:World} {A:Around} {Ex:Value→Shared→Prop} {s:Shared}
end
section
variable {X:Cx} {E:XK}
end
end PD
namespace L2
open PySem PySem.Spec PyProof.Rows
section
variable {X:Cx}
end
end L2
namespace PD
open PySem PySem.Spec PyProof.Rows L2
section
variable {X:Cx} {E:XK} {a:Expr}
end
end PD
namespace PySem
open PyProof.Rows
open Sem (wp)
namespace F
theorem ul_plain:plainId "dict.update.loop" = true:=by decide +kernel
theorem ul_entry:entryFor table "dict.update.loop" = some Builtin.«dict.update.loop»:=entryFor_of_tree (by kernel_rfl)
theorem list_no_keys:typeLookup (.type "list") "keys" = pure none:=by rw [typeLookup_type,builtinLookup_eq_fast]; kernel_rfl
end F
section
variable {prog:Program} {w:World} {A:Around} {E:Value→Shared→Prop}
theorem lZ {s:Shared} {l:Addr} {sl:Array (Option Value)} {xs:Array Value} {n:Nat} {Q:Option Value→Shared→Prop} (hl:s.heap.get? l=some { cls:=.type "list",dict:=none,data:=.seq xs n,slots:=sl }) (hA:A.handled=none)
  (q:∀ h' tk,(∀ b ob,s.heap.get? b=some ob→h'.get? b=some ob)→Q none { s with heap:=h',toks:=tk }):wpAny (model prog w) A (getAttr? (.ref l) "keys") Q E s:=by
 obtain ⟨hp,gs,dr,k0,os⟩:=s
 have ty:∀ k,(⟨hp,gs,dr,k,os⟩:Shared).TypeIs (.ref l) "list":=fun _=>⟨_,hl,rfl⟩
 have a1:=sub_AttributeError; have a2:=F.slot_list_getattribute.lookup; have a3:=F.slot_list_getattribute.bind (.ref l); have a4:=am_list_getattr_none
 have nm:(["__module__","__name__","__qualname__","__doc__","__annotations__"]:List Str).contains "keys" = false:=by decide +kernel
 unfold getAttr? getAttrBy? getAttrBy
 repeat (any_goals (first | assumption | exact ty _ | ((with_reducible show wpAny _ _ (call (Value.builtin "list.__getattribute__") _ _) _ _ _); refine call_meets F.slot_list_getattribute (ty _) am_entry_list_getattribute (F.args_list_getattribute_2 _ _) (meets_getattribute_miss_list l xs n sl "keys" _ F.list_no_keys nm (by size_fits)) ⟨hl,hA,fun h' tk' e x=>?_⟩) | wp_step))
 obtain ⟨_,_,he⟩:=x.there
 show wpAny _ _ (getattributeRaised _ _ _ _ _ _ _) _ _ _
 unfold getattributeRaised
 repeat (any_goals (first | assumption | wp_step))
 exact q h' tk' x.keeps
end
section
variable {prog:Program} {w:World} {K:Type} [DecidableEq K] {knd:KeyKind prog w K} {A:Around} {R:Result→Shared→Prop}
def pj (knd:KeyKind prog w K) (h:Heap) (d I:Addr) (kv:K × Value) (v:Value):Prop:=∃ p key,v=.ref p∧knd.is kv.1 key=true∧h.IsTuple p #[key,kv.2]∧p ≠ d∧p ≠ I
theorem pj.keep {h h':Heap} {d I:Addr} {kv:K × Value} {v:Value} (x:pj knd h d I kv v) (hk:∀ b o,b ≠ I→b ≠ d→h.get? b=some o→h'.get? b=some o):pj knd h' d I kv v:=by
 obtain ⟨p,key,e,z,⟨o,ho,r⟩,n1,n2⟩:=x
 exact ⟨p,key,e,z,⟨o,hk p o n2 n1 ho,r⟩,n1,n2⟩
theorem rY (a:List (K × Value)) (k:K) (v:Value):(stored a k v).length≤a.length + 1:=by
 unfold stored
 split
 ·rw [List.length_map]; omega
 ·rw [List.length_append]; exact Nat.le_refl _
theorem nP {I l d:Addr} (hne:l ≠ I) (hd1:d ≠ I) (hd2:d ≠ l) (hh:A.handled=none) (items:Array Value):
  ∀ (kvs:List (K × Value)) (vs:List Value) (j:Nat) (s:Shared) (acc:List (K × Value)),items.toList.drop j=vs→vs.length=kvs.length→(∀ (i:Nat) kv v,kvs[i]?=some kv→vs[i]?=some v→pj knd s.heap d I kv v)→
   s.heap.IsListIter I l j→s.heap.IsList l items→s.heap.DictOf knd d acc→acc.length + kvs.length≤sizeLine→
   (∀ h' tk,h'.DictOf knd d (merged acc kvs)→(∀ b o,b ≠ I→b ≠ d→s.heap.get? b=some o→h'.get? b=some o)→R (.ok (.ret .none)) { s with heap:=h',toks:=tk })→
   codeAny (model prog w) A (.builtin "dict.update.loop" ⟨[.ref d,.ref I,rawInt j,.none],[]⟩) R s
 | [],vs,j,s,acc,hv,hl,_,st,il,hm,_,hR=>by
  have W:=Walks.list (prog:=prog) (w:=w) (A:=A.in1) hh I l hne items
  have e0:vs=[]:=List.length_eq_zero_iff.mp hl
  have hj:items.size≤j:=by
   have:=congrArg List.length hv
   rw [e0,List.length_drop,Array.length_toList] at this
   exact Nat.le_of_sub_eq_zero this
  refine codeAny_builtin F.ul_entry ?_
  rw [Around.under_plainId F.ul_plain _]
  show wpAny _ A.in1 (pyNext (.ref I) >>= _) _ _ s
  refine wpAny_bind (wpAny_pyNext_list_end (A:=A.in1) hh st il (by simpa using hj) fun h' he=>?_)
  show wpAny _ A.in1 (Builtin.Dict.addKeywords d [] >>= fun _=>ret .none) _ _ _
  refine wpAny_bind (wpAny_pure (wpAny_pure ?_))
  exact hR h' s.toks (by obtain ⟨o,es,ep,ho,r⟩:=hm; exact ⟨o,es,ep,he d o hd1 ho,r⟩) fun b o b1 b2 e=>he b o b1 e
 | kv :: kvs,vs,j,s,acc,hv,hl,hp,st,il,hm,hz,hR=>by
  obtain ⟨v,vs',rfl⟩:∃ v vs',vs=v :: vs':=by
   cases vs with
   | nil=>cases hl
   | cons v vs'=>exact ⟨v,vs',rfl⟩
  have hjl:j < items.size:=by
   have:=congrArg List.length hv
   rw [List.length_drop,Array.length_toList,List.length_cons] at this
   omega
  have hit:items[j]?=some v:=by
   have:=congrArg (fun l:List Value=>l[0]?) hv
   simp only [List.getElem?_drop,Nat.add_zero,List.getElem?_cons_zero,Array.getElem?_toList] at this
   exact this
  have hv':items.toList.drop (j + 1)=vs':=by rw [← List.drop_drop,hv]; rfl
  rw [List.length_cons] at hz
  obtain ⟨p,key,rfl,hkey,⟨o,ho,hc,n,hdat⟩,n1,n2⟩:=hp 0 kv v rfl rfl
  refine codeAny_builtin F.ul_entry ?_
  rw [Around.under_plainId F.ul_plain _]
  show wpAny _ A.in1 (pyNext (.ref I) >>= _) _ _ s
  refine wpAny_bind (wpAny_pyNext_list_item (A:=A.in1) st il (x:=.ref p) hit fun h' st' hs=>?_)
  have k1:∀ b ob,b ≠ I→s.heap.get? b=some ob→h'.get? b=some ob:=fun b ob hb e=>hs.extBut b ob hb e
  have ho1:=k1 p o n2 ho
  have hm1:h'.DictOf knd d acc:=by obtain ⟨o',es,ep,ho',r⟩:=hm; exact ⟨o',es,ep,k1 d o' hd1 ho',r⟩
  have il1:h'.IsList l items:=by obtain ⟨o',ho',r⟩:=il; exact ⟨o',k1 l o' hne ho',r⟩
  show wpAny _ A.in1 (holding [.ref p] _ >>= _) _ _ _
  refine wpAny_bind (wpAny_holding ?_)
  refine wpAny_bind (wpAny_tryCatch ?_)
  unfold Builtin.Dict.pairItems
  refine wpAny_bind (wpAny_typeOf (show Shared.TypeIs { s with heap:=h' } (.ref p) "tuple" from ⟨o,ho1,hc⟩) ?_)
  rw [if_pos (by decide)]
  refine wpAny_bind (wpAny_seqItems ho1 hdat (wpAny_pure ?_))
  show wpAny _ A.in1 (holding [key,kv.2] (dictSet d key kv.2)) _ _ _
  refine wpAny_holding (wpAny_dictSet_pairs hkey hm1 (fun h2 hm2 hs2=>?_) (by omega))
  refine wpAny_pure ⟨plainId_quiet F.ul_plain _,?_⟩
  have k2:∀ b ob,b ≠ I→b ≠ d→s.heap.get? b=some ob→h2.get? b=some ob:=fun b ob b1 b2 e=>(hs2.2 b b2).trans (k1 b ob b1 e)
  have hlen:=rY acc kv.1 kv.2
  refine nP hne hd1 hd2 hh items kvs vs' (j + 1) _ (stored acc kv.1 kv.2) hv' (by simpa using hl) (fun i kv' v' e1 e2=>(hp (i + 1) kv' v' e1 e2).keep k2) ?_ ?_ hm2 (by omega) fun h3 tk hm3 k3=>?_
  ·obtain ⟨o',ho',r⟩:=st'; exact ⟨o',(hs2.2 I (Ne.symm hd1)).trans ho',r⟩
  ·obtain ⟨o',ho',r⟩:=il1; exact ⟨o',(hs2.2 l (Ne.symm hd2)).trans ho',r⟩
  ·exact hR h3 tk hm3 fun b ob b1 b2 e=>k3 b ob b1 b2 (k2 b ob b1 b2 e)
end
section
variable {prog:Program} {w:World} {K:Type} [DecidableEq K] {knd:KeyKind prog w K} {A:Around} {E:Value→Shared→Prop} {s:Shared}
theorem kW {l:Addr} {items:Array Value} {n:Nat} {sl:Array (Option Value)} {kvs:List (K × Value)} {Q:Value→Shared→Prop} (hh:A.handled=none) (hl:s.heap.get? l=some { cls:=.type "list",dict:=none,data:=.seq items n,slots:=sl }) (hn:items.size=kvs.length)
  (hp:∀ (i:Nat) kv v,kvs[i]?=some kv→items[i]?=some v→∃ p key,v=.ref p∧knd.is kv.1 key=true∧s.heap.IsTuple p #[key,kv.2]) (hz:kvs.length≤sizeLine)
  (q:∀ h' tk,h'.DictOf knd s.heap.objs.size (merged [] kvs)→(∀ b o,s.heap.get? b=some o→h'.get? b=some o)→Q (.ref s.heap.objs.size) { s with heap:=h',toks:=tk }):wpAny (model prog w) A (call (.type "dict") [.ref l]) Q E s:=by
 refine callType_codes (Q₁:=fun z t=>z=.ref s.heap.objs.size∧t={ s with heap:=s.heap.push { cls:=.type "dict",data:=.dict #[] } }) F.kt_called_dict (F.kt_typeCall_dict_1 _) F.entry_dict_init (kt_code_dict_new _ ⟨rfl,rfl⟩) ?_
 rintro z t ⟨rfl,rfl⟩
 have hm:(s.heap.push { cls:=.type "dict",data:=.dict #[] }).DictOf knd s.heap.objs.size []:=Heap.DictOf.new s.heap
 have k0:∀ b o,s.heap.get? b=some o→(s.heap.push { cls:=.type "dict",data:=.dict #[] }).get? b=some o:=fun b o e=>Heap.get?_push_of_some _ e
 have hl0:=k0 l _ hl
 refine ⟨hm.typeIs,F.args_dict_init_2 _ _,?_⟩
 unfold Builtin.«dict.__init__»
 refine wpAny_bind ?_
 unfold Builtin.Dict.selfAndRest
 refine wpAny_bind (wpAny_notOrdered_dict hm.typeIs ?_)
 show wpAny _ _ (pure (s.heap.objs.size,[Value.ref l])) _ _ _
 refine wpAny_pure ?_
 show wpAny _ _ (Builtin.Dict.updateFrom "dict.__init__" s.heap.objs.size (.ref l) [] .none) _ _ _
 unfold Builtin.Dict.updateFrom
 refine wpAny_bind (wpAny_typeOf (show Shared.TypeIs { s with heap:=s.heap.push { cls:=.type "dict",data:=.dict #[] } } (.ref l) "list" from ⟨_,hl0,rfl⟩) ?_)
 rw [if_pos (by decide)]
 refine wpAny_bind (lZ (A:=A.in1.in1) hl0 hh fun h1 tk1 k1=>?_)
 rw [if_pos (show (none:Option Value).isNone=true from rfl)]
 have hl1:=k1 l _ hl0
 have il1:h1.IsList l items:=⟨_,hl1,rfl,n,rfl⟩
 refine wpAny_bind (wpAny_rule (wpAny_bind (wpAny_pyIter_list il1 ?_)))
 have k2:∀ b o,s.heap.get? b=some o→(h1.push { cls:=.type "list_iterator",data:=.fields #[.ref l,.int 0 0] }).get? b=some o:=fun b o e=>Heap.get?_push_of_some _ (k1 b o (k0 b o e))
 have e1:=Heap.lt_size hl
 have e2:s.heap.objs.size < h1.objs.size:=by obtain ⟨o,es,ep,ho,r⟩:=hm; exact Heap.lt_size (k1 _ o ho)
 refine wpAny_pure ⟨plainId_quiet F.ul_plain _,?_⟩
 refine nP (A:=A.in1) (knd:=knd) (l:=l) (I:=h1.objs.size) (Nat.ne_of_lt (Nat.lt_trans e1 e2)) (Nat.ne_of_lt e2) (Nat.ne_of_gt e1) hh items kvs items.toList 0 _ [] rfl (by rw [Array.length_toList]; exact hn) (fun i kv v p1 p2=>?_) ⟨_,Heap.get?_push_size _ rfl,rfl,rfl⟩ ⟨_,k2 l _ hl,rfl,n,rfl⟩ (by obtain ⟨o,es,ep,ho,r⟩:=hm; exact ⟨o,es,ep,Heap.get?_push_of_some _ (k1 _ o ho),r⟩) (by simpa using hz) fun h' tk hm' k3=>⟨rfl,q h' tk hm' fun b o e=>?_⟩
 ·obtain ⟨p,key,ev,z,⟨o,ho,r⟩⟩:=hp i kv v p1 (by rw [← Array.getElem?_toList]; exact p2)
  have e3:=Heap.lt_size ho
  exact ⟨p,key,ev,z,⟨o,k2 p o ho,r⟩,Nat.ne_of_lt e3,Nat.ne_of_lt (Nat.lt_trans e3 e2)⟩
 ·have e3:=Heap.lt_size e
  exact k3 b o (Nat.ne_of_lt (Nat.lt_trans e3 e2)) (Nat.ne_of_lt e3) (k2 b o e)
end
end PySem
namespace L2
open PySem PySem.Spec PyProof.Rows
theorem wX (a:List (Key × V)) (k:Key) (v:V):(putK a k v).length≤a.length + 1:=by
 unfold putK
 split
 ·rw [List.length_map]; omega
 ·rw [List.length_append]; exact Nat.le_refl _
theorem mf:∀ (more acc:List (Key × V)),(fm acc more).length≤acc.length + more.length
 | [],acc=>Nat.le_refl _
 | kv :: more,acc=>by
  have h1:=mf more (putK acc kv.1 kv.2)
  have h2:=wX acc kv.1 kv.2
  show (fm (putK acc kv.1 kv.2) more).length≤acc.length + (more.length + 1)
  omega
def PrV (K:PySem.W.Frag) (H:Hp):List V→List (Key × V)→Prop
 | [],kvs=>kvs=[]
 | y :: ys,kvs=>∃ kv r p,kvs=kv :: r∧y=.ref p∧SqT K H p [kV kv.1,kv.2]∧PrV K H ys r
section
variable {X:Cx}
theorem qA {pins:List (Addr × Obj)} {σ:St} {H:Hp} {s:Shared} (I:Inv X pins σ H s):∀ {ys:List V} {kvs:List (Key × V)} {its:List Value},PrV X.K H ys kvs→Vals ys its→∃ ks:List (Key × Value),KV kvs ks∧its.length=ks.length∧∀ (i:Nat) kv v,ks[i]?=some kv→its[i]?=some v→∃ pp key,v=.ref pp∧(aP X.prog X.w).is kv.1 key=true∧s.heap.IsTuple pp #[key,kv.2]
 | [],kvs,_,h,.nil=>by
  cases (show kvs=[] from h)
  exact ⟨[],.nil,rfl,fun i kv v e=>by cases e⟩
 | y :: ys,kvs,_,h,.cons ry rr=>by
  obtain ⟨kv,r,p,rfl,rfl,sq,hr⟩:=h
  obtain ⟨ks,h1,h2,h3⟩:=qA I hr rr
  obtain ⟨its2,r2,it,_⟩:=I.tuple sq
  obtain ⟨key,u,rfl,rk,ru⟩:=vals2 r2
  cases ry
  refine ⟨(kv.1,u) :: ks,.cons ⟨rfl,ru⟩ h1,by rw [List.length_cons,List.length_cons,h2],fun i kv' v e1 e2=>?_⟩
  cases i with
  | zero=>
   cases e1; cases e2
   exact ⟨p,key,rfl,jI rk,it⟩
  | succ i=>exact h3 i kv' v e1 e2
theorem mV (hc:X.calm=true):bL X (.type "dict") (fun xs H Q=>∃ p ys kvs,xs=[.ref p]∧SqL X.K H p ys∧PrV X.K H ys kvs∧∀ q,H q=none→Q (.ref q) (upd H q (.dK (fm [] kvs)))):=by
 intro pins s σ H xs us Q I r h
 obtain ⟨p,ys,kvs,rfl,hq,hp,q⟩:=h
 obtain ⟨u,rfl,rx⟩:=vals1 r
 cases rx
 obtain ⟨its,r',⟨o,n,ho,hcl,hdc,hdt⟩,hz⟩:=I.list hq
 obtain ⟨ks,h1,h2,h3⟩:=qA I hp r'
 obtain ⟨c,dc,dt,sl⟩:=o
 simp only at hcl hdc hdt
 subst hcl hdc hdt
 have l1:=r'.length
 have l2:=h1.length
 refine kW (knd:=aP X.prog X.w) (items:=its.toArray) (kvs:=ks) (I.ok.hd hc) ho (by simpa using h2) (fun i kv v e1 e2=>h3 i kv v e1 (by simpa using e2)) (by omega) fun h' tk hm hk=>?_
 have lz:=mf kvs []
 refine ⟨.ref s.heap.objs.size,_,I.laid (t':=tk) hk (Nat.le_refl _) (show bG X.prog X.w _ h' _ (.dK (fm [] kvs)) from ⟨by simp only [List.length_nil] at lz; omega,?_,_,KV.merge h1 .nil,hm⟩),rfl,q _ (I.hok.fresh (Nat.le_refl _))⟩
 have:=I.big
 exact beq_eq_false_iff_ne.mpr (Nat.ne_of_gt this)
end
end L2
namespace PD
open PySem PySem.Spec PyProof.Rows L2
def u5:List D→Option (List (KD × D))
 | []=>some []
 | .tup [k,v] :: r=>match gN k,u5 r with
  | some k',some r'=>some ((k',v) :: r')
  | _,_=>none
 | _=>none
def wY:Sto→List D→R D
 | S,[d]=>match qp S d with
  | some a=>match u5 a with
   | some kvs=>.ok (.ref S.length) (S ++ [.dic (g7 [] kvs)])
   | none=>.bad
  | none=>.bad
 | _,_=>.bad
section
variable {X:Cx} {E:XK}
theorem wZ {w:Wd} {H:Hp}:∀ {a:List D} {vs:List V} {kvs:List (KD × D)},RDs X.K w H a vs→u5 a=some kvs→∃ us,PrV X.K H vs us∧RDk X.K w H kvs us
 | [],vs,kvs,q,h=>by
  cases h
  rw [q.nil_inv]
  exact ⟨[],rfl,.nil⟩
 | d :: a,vs,kvs,q,h=>by
  unfold u5 at h
  split at h
  ·rename_i e; cases e
  ·rename_i k v r e
   cases e
   split at h
   ·rename_i k' r' e1 e2
    cases h
    obtain ⟨y,ys,rfl,q1,q2⟩:=q.cons_inv
    obtain ⟨us,p1,p2⟩:=wZ q2 e2
    obtain ⟨p,zs,rfl,sq,qz⟩:=q1.tupI
    obtain ⟨z1,z2,rfl,qk,qv⟩:=qz.two_inv
    have ek:=gj qk e1
    subst ek
    exact ⟨(k',z2) :: us,⟨(k',z2),us,p,rfl,rfl,cR sq,p1⟩,.cons qv p2⟩
   ·cases h
  ·cases h
theorem Bp (hc:X.calm=true):bL X (.type "dict") (xCR X.K E wY):=by
 rintro pins s σ H xs us Q I r ⟨w,S,ds,hS,qs,p⟩
 unfold wY at p
 split at p
 ·rename_i d
  obtain ⟨v,rfl,q⟩:=qs.one_inv
  split at p
  ·rename_i a ha
   split at p
   ·rename_i kvs hk
    obtain ⟨pa,vs,rfl,sq,ra⟩:=wK hS q ha
    obtain ⟨uk,p1,p2⟩:=wZ ra hk
    exact mV hc pins s σ H _ us Q I r ⟨pa,vs,uk,rfl,sq,p1,fun t ht=>aE.at p (Ext.alloc ht) hS.lastRef (hS.alloc ht ⟨_,aH,RDk.ext (Ext.alloc ht) _ _ (RDk.merge p2 .nil)⟩)⟩
   ·exact p.elim
  ·exact p.elim
 ·exact p.elim
end
end PD
namespace L2
open PySem PySem.Spec PyProof.Rows
def w8 (v a:Addr):Heap→Prop:=fun h=>h.get? v=some { cls:=.type "dict_values",data:=.fields #[.ref a] }
section
variable {X:Cx}
def CP (td:TE):TE:=fun σ H Q=>td σ H fun x H1=>∃ a us,x=.ref a∧Rd H1 a (.dK us)∧∀ v,H1 v=none→Q (.ref v) (upd H1 v (.ext (w8 v a)))
theorem yO {d:Expr} {td:TE} {apos pos:Pos} (hd:PE X d td) (hbase:autoParam (attributeBase d "values" X.env (eval d X.env)=eval d X.env) Au.h0._auto_1) (hline:autoParam ((apos.endLine == pos.line)=true) Au.h0._auto_1)
  (hfew:autoParam (((backTo pos (starEach [] X.env)).all (fun x=>!x.1) && (backToKw pos (keywordEach [] X.env)).all (fun x=>x.1.isSome) && decide (([]:List Expr).length + ([]:List Keyword).length + (if ([]:List Keyword).isEmpty then 0 else 1) < 30))=true) Au.h0._auto_1):
  PE X (.Call (.Attribute d "values" apos) [] [] pos) (CP td):=by
 intro pins s σ H Q I h
 refine wpAny_Call_method (T:="dict") (id:="dict.values") hbase hfew hline F.plainAttrs_dict F.slot_dict_values F.type_dict_values (thn (hd pins s σ H _ I h) fun u s1 zq=>?_)
 obtain ⟨x,H1,I1,rx,a,us,ex,rd,q⟩:=zq
 subst ex
 obtain rfl:u=Value.ref a:=rx
 obtain ⟨t1,t2,t3⟩:=oA I1 (a:=a) (.inl ⟨us,rd⟩)
 obtain ⟨z,hdd,vs,rel,dd⟩:=iw I1.hok rd
 refine ⟨t1,t2,?_⟩
 show wpAny _ _ (callWith pos (.builtin "dict.values") [.ref a] [] []) _ _ s1
 refine method_meetsIn F.slot_dict_values F.entry_dict_values rfl (PySem.evalArgs_none ⟨rfl,t1,F.args_dict_values_1 _,_,meets_dict_values (aP X.prog X.w) a t3,⟨vs,dd⟩,?_⟩)
 refine ⟨.ref s1.heap.objs.size,_,I1.laid (t':=s1.toks) (a:=s1.heap.objs.size) (o:=.ext (w8 s1.heap.objs.size a)) (fun b u e=>Heap.get?_push_of_some _ e) (Nat.le_refl _) ⟨Heap.get?_push_size _ rfl,⟨_,Heap.get?_push_size _ rfl⟩,fun h1 h2 e1 k=>k _ e1⟩,rfl,q _ (I1.hok.fresh (Nat.le_refl _))⟩
theorem yP {us:List (Key × V)} {vs:List (Key × Value)} {ns:List Int} (r:KV us vs) (h:us.map (·.2)=ns.map V.int) (i:Nat) (k:Key) (v:Value) (e:vs[i]?=some (k,v)):∃ t,v=.int ((ns[i]?).getD 0) t:=by
 unfold KV at r
 induction r generalizing i ns with
 | nil=>simp at e
 | @cons p q ps qs hd tl ih=>
  cases ns with
  | nil=>simp at h
  | cons n ns=>
   rw [List.map_cons,List.map_cons] at h
   injection h with h1 h2
   cases i with
   | zero=>
    simp at e
    obtain ⟨_,rv⟩:=hd
    rw [h1] at rv
    obtain ⟨t,z⟩:=rv
    rw [e] at z
    exact ⟨t,by simpa using z⟩
   | succ i=>simpa using ih h2 i (by simpa using e)
theorem Bq {H:Hp} {a t:Addr} {u o:HO} (r:Rd H a u) (ht:H t=none):Rd (upd H t o) a u:=by
 rcases r with e | ⟨x,e⟩
 ·exact .inl (by rw [aB (aL e ht)]; exact e)
 ·exact .inr ⟨x,by rw [aB (aL e ht)]; exact e⟩
theorem yQ {pins:List (Addr × Obj)} {σ:St} {H:Hp} {s:Shared} {v a:Addr} (I:Inv X pins σ H s) (h:H v=some (.ext (w8 v a))):s.heap.get? v=some { cls:=.type "dict_values",data:=.fields #[.ref a] }:=(show bG X.prog X.w H s.heap v (.ext (w8 v a)) from I.hok v _ h).1
theorem u6 (hc:X.calm=true):bL X (.builtin "sum") (fun xs H Q=>∃ v a us,∃ ns:List Int,xs=[.ref v]∧H v=some (.ext (w8 v a))∧Rd H a (.dK us)∧us.map (·.2)=ns.map V.int∧Q (.int ns.sum) H):=by
 intro pins s σ H xs us Q I r h
 obtain ⟨v,a,ku,ns,rfl,hv,rd,hn,q⟩:=h
 obtain ⟨u,rfl,rx⟩:=vals1 r
 cases rx
 obtain ⟨z,hdd,vs,rel,dd⟩:=iw I.hok rd
 obtain ⟨ep,dat⟩:=dd.dictAt
 have vw:=yQ I hv
 have la:a < s.heap.objs.size:=by obtain ⟨o,es,ho,_⟩:=dat; exact Heap.lt_size ho
 refine call_sum_walkG (wpAny_pyIter_values (knd:=aP X.prog X.w) (d:=a) ⟨_,vw,rfl,rfl⟩ dat ?_)
 refine ⟨s.heap.objs.size,[s.heap.objs.size,a],[s.heap.objs.size],vs.length,_,_,fun i=>(ns[i]?).getD 0,rfl,Walks.dictValues (knd:=aP X.prog X.w) (A:=X.A.in1) (I.ok.hd hc) _ a (Nat.ne_of_lt la) vs ep,⟨⟨_,Heap.get?_push_size _ rfl,rfl,rfl⟩,dat.push _⟩,fun b hb=>?_,fun i w' hP=>?_,fun h' tk t' hk=>?_⟩
 ·simp only [List.mem_cons,List.not_mem_nil,or_false] at hb
  rw [Heap.size_push]
  rcases hb with rfl | rfl
  ·exact Nat.lt_succ_self _
  ·exact Nat.lt_succ_of_lt la
 ·obtain ⟨k,e⟩:=hP
  exact yP rel hn i k w' e
 ·have hl:vs.length=ns.length:=by rw [← rel.length,← List.length_map (f:=(·.2)),hn,List.length_map]
  rw [hl,PD.iL ns _ (Nat.le_refl _),List.take_length]
  exact ⟨.int _,H,I.kept (LSm.kept_iter hk),⟨t',rfl⟩,q⟩
end
end L2
namespace PD
open PySem PySem.Spec PyProof.Rows L2
def kO:List (KD × D)→Option (List Int)
 | []=>some []
 | (_,.int i) :: r=>(kO r).map (i :: ·)
 | _=>none
def nQ:Sto→D→Option D:=fun S d=>match du S d with
 | some kvs=>(kO kvs).map fun ns=>.int ns.sum
 | none=>none
section
variable {X:Cx} {E:XK}
theorem tm {w:Wd} {H:Hp}:∀ {kvs:List (KD × D)} {us:List (Key × V)} {ns:List Int},RDk X.K w H kvs us→kO kvs=some ns→us.map (·.2)=ns.map V.int
 | [],us,ns,q,h=>by
  cases h
  rw [q.nil_inv]
  rfl
 | (k,d) :: r,us,ns,q,h=>by
  obtain ⟨v,r',rfl,q1,q2⟩:=q.cons_inv
  cases d with
  | int i=>
   unfold kO at h
   cases e:kO r with
   | none=>rw [e] at h; cases h
   | some ms=>
    rw [e] at h; cases h
    cases q1.int
    rw [List.map_cons,List.map_cons,tm q2 e]
  | _=>cases h
variable {d:Expr} {md:EM} {x:Str} {p pos0 apos pos:Pos}
theorem tq (hc:X.calm=true) (hg:Gl X "sum") (hm:X.mg "sum" = none) (ha:SE X E d md) (hbase:autoParam (attributeBase d "values" X.env (eval d X.env)=eval d X.env) Au.h0._auto_1) (hline:autoParam ((apos.endLine == pos.line)=true) Au.h0._auto_1)
  (hfew:autoParam (((backTo pos (starEach [] X.env)).all (fun x=>!x.1) && (backToKw pos (keywordEach [] X.env)).all (fun x=>x.1.isSome) && decide (([]:List Expr).length + ([]:List Keyword).length + (if ([]:List Keyword).isEmpty then 0 else 1) < 30))=true) Au.h0._auto_1)
  (he:autoParam (starEach [.Call (.Attribute d "values" apos) [] [] pos] X.env=[(false,eval (.Call (.Attribute d "values" apos) [] [] pos) X.env)]) Au.h0._auto_1):
  SE X E (.Call (.Name "sum" p) [.Call (.Attribute d "values" apos) [] [] pos] [] pos0) (eUn nQ md):=⟨
 bc (pV (u6 hc) hg hm boot_sum (sN (yO ha.out hbase hline hfew) vJ he) (by decide +kernel) (by decide +kernel) he rfl) fun s H Q zq=>ex6 zq fun w r S hr hS hp=>⟨w,r,S,hr,hS,hp.bind hS fun dd S1 w1 H1 v x1 q1 s1 p1=>by
  obtain ⟨z,hz,p⟩:=p1.of
  unfold nQ at hz
  cases ed:du S1 dd with
  | none=>rw [ed] at hz; cases hz
  | some kvs=>
   rw [ed] at hz
   simp only at hz
   cases ev:kO kvs with
   | none=>rw [ev] at hz; cases hz
   | some ns=>
    rw [ev] at hz; cases hz
    obtain ⟨pp,us,rfl,rd,rk⟩:=hJ s1 q1 ed
    exact ⟨pp,us,rfl,rd,fun t ht=>⟨t,pp,us,ns,rfl,aH,Bq rd ht,tm rk ev,p.at (Ext.new ht) RD.mkI (s1.new ht)⟩⟩⟩⟩
end
section
variable {X:Cx} {E:XK}
end
end PD
namespace PD
open PySem PySem.Spec PyProof.Rows L2
section
variable {K:PySem.W.Frag} {w w':Wd} {H H':Hp}
end
section
variable {X:Cx} {E:XK} {c f m x:Str} {a b o v:Expr} {ma mo mv:EM} {es:List Expr} {ms:AM} {k n:Nat} {F:FM} {p pos apos tpos:Pos}
end
section
variable {P:Program} {w:World} {K:PySem.W.Frag} {mg:Str→Option Value} {base:Heap}
end
end PD
namespace PD
open PySem PySem.Spec PyProof.Rows L2
section
variable {X:Cx} {E:XK} {o:Expr} {mo:EM} {apos cpos:Pos}
end
end PD
namespace PD
open PySem PySem.Spec PyProof.Rows L2
section
variable {X:Cx} {E:XK} {a b c:Expr} {ma mb mc:EM} {pos:Pos}
end
end PD
namespace PD
open PySem PySem.Spec PyProof.Rows L2
section
variable {X:Cx} {E:XK}
end
end PD
namespace PD
open PySem PySem.Spec PyProof.Rows L2
open AutoSeq1 (wpAny_loadPart')
open MeetsSeq MeetsSeq2 MeetsSeq3 SeqRoads2 PySem.SeqAt
section
variable {X:Cx} {E:XK} {pins:List (Addr × Obj)} {σ:L2.St} {H:Hp} {s:Shared}
end
section
variable {X:Cx} {E:XK}
end
section
variable {X:Cx} {E:XK}
variable {d:Expr} {md:EM} {x:Str} {p pos0 apos pos:Pos}
end
end PD
namespace PD
open PySem PySem.Spec PyProof.Rows L2
def u7:List D→Option (Int × Int)
 | [.int i,.int j]=>if -(2 ^ 62)≤i∧i < 2 ^ 62∧-(2 ^ 62)≤j∧j < 2 ^ 62 then some (i,j) else none
 | _=>none
theorem w9 {xs:List D} {i j:Int} (h:u7 xs=some (i,j)):xs=[.int i,.int j]∧(-(2 ^ 62)≤i∧i < 2 ^ 62∧-(2 ^ 62)≤j∧j < 2 ^ 62):=by
 unfold u7 at h
 split at h
 ·split at h
  ·rename_i hb; cases h; exact ⟨rfl,hb⟩
  ·cases h
 ·cases h
def jV (t:AM):AM:=fun r S=>(t r S).bind fun xs S1=>match u7 xs with
 | some (i,j)=>.ok ((List.range (j - i).toNat).map fun (m:Nat)=>D.int (i + m)) S1
 | none=>.bad
section
variable {X:Cx} {E:XK} {a b:Expr} {pos:Pos}
theorem u9 {tg:Expr} {ms:AM} {p:Pos} (hg:Gl X "range") (hm:X.mg "range" = none) (ha:SA X E [a,b] ms) (hs:autoParam (starEach [a,b] X.env=[(false,eval a X.env),(false,eval b X.env)]) Au.h0._auto_1) (hs2:autoParam (starEach [b] X.env=[(false,eval b X.env)]) Au.h0._auto_1):SI X E tg (.Call (.Name "range" p) [a,b] [] pos) (jV ms):=⟨
 eW (uo hg hm ha.out hs hs2) fun s H Q zq=>ex6 zq fun w r S hr hS hp=>⟨w,r,S,hr,hS,hp.bind hS fun ds S1 w1 H1 vs x1 q1 s1 p1=>by
  cases hq:u7 ds with
  | none=>rw [hq] at p1; exact p1.elim
  | some ij=>
   obtain ⟨i,j⟩:=ij
   rw [hq] at p1
   obtain ⟨rfl,hb⟩:=w9 hq
   obtain ⟨v1,rest,rfl,a1,q1⟩:=q1.cons_inv
   obtain ⟨v2,rfl,a2⟩:=q1.one_inv
   unfold RD at a1 a2
   subst a1 a2
   refine ⟨i,j,rfl,hb,aE.ret p1 ?_ s1⟩
   intro m w' H' x'
   refine ⟨fun hi=>⟨show m < (j - i).toNat by simpa using hi,fun x H'' y=>?_⟩,fun hi=>show (j - i).toNat≤m by simpa using hi⟩
   obtain ⟨rfl,rfl⟩:=y
   refine ⟨.inl rfl,fun S _=>⟨.int (i + m),?_,?_⟩⟩
   ·have:m < (j - i).toNat:=by simpa using hi
    simp [this]
   ·unfold RD; rfl⟩⟩
end
end PD
namespace PySem
open PyProof.Rows
section
variable {prog:Program} {w:World} {A:Around} {E:Value→Shared→Prop} {s:Shared} {K:Type} [DecidableEq K] {knd:KeyKind prog w K}
end
end PySem
namespace PD
open PySem PySem.Spec PyProof.Rows L2
section
variable {X:Cx} {E:XK}
end
end PD
namespace L2
open PySem PySem.Spec PyProof.Rows
section
variable {X:Cx}
end
end L2
namespace PD
open PySem PySem.Spec PyProof.Rows L2
def nR (o a:EM):EM:=fun r S=>(o r S).bind fun d S1=>if (du S1 d).isSome=true then (a r S1).bind fun y S2=>(match du S2 d,gN y with
  | some kvs,some k=>R.ok ((cU kvs k).getD .non) S2
  | _,_=>R.bad) else R.bad
section
variable {X:Cx} {E:XK} {d:Expr} {md:EM} {apos pos:Pos}
end
section
variable {X:Cx} {E:XK}
theorem zE {o e:Expr} {m:Str} {apos cpos:Pos} (h1:attributeBase o m X.env (eval o X.env)=eval o X.env) (h2:((backTo cpos (starEach [e] X.env)).all (fun x=>!x.1) && (backToKw cpos (keywordEach [] X.env)).all (fun x=>x.1.isSome)
  && decide (([e]:List Expr).length + ([]:List Keyword).length + (if ([]:List Keyword).isEmpty then 0 else 1) < 30))=true) (h3:(apos.endLine == cpos.line)=true) (h4:backTo cpos (starEach [e] X.env)=[(false,eval e X.env)]):M1 X o m apos e cpos:=⟨h1,h2,h3,h4⟩
theorem tu {o e:Expr} {mo ma:EM} {apos cpos:Pos} {k:Nat} (hr:Room k X.A) (ho:SE X E o mo) (ha:SE X E e ma) (m:M1 X o "get" apos e cpos):SE X E (.Call (.Attribute o "get" apos) [e] [] cpos) (nR mo ma):=⟨
 bc (vR (Room.hu hr) ho.out ha.out m) fun s H Q zq=>ex6 zq fun w r S hrr hS hp=>⟨w,r,S,hrr,hS,hp.bind hS fun d S1 w1 H1 v x1 q1 s1 p1=>by
  cases hd:du S1 d with
  | none=>rw [hd] at p1; exact p1.elim
  | some kvs=>
   rw [hd] at p1
   obtain ⟨pp,us,rfl,rd,rk⟩:=hJ s1 q1 hd
   refine ⟨pp,rfl,.inl ⟨us,rd⟩,w1,r,S1,hrr.ext x1,s1,aE.bind (rel:=RD X.K) p1 s1 fun y S2 w2 H2 vy x2 q2 s2 p2=>?_⟩
   have q1':=RD.ext x2 _ _ q1
   cases hd3:du S2 d with
   | none=>rw [hd3] at p2; exact p2.elim
   | some kvs3=>
    cases hk:gN y with
    | none=>rw [hd3,hk] at p2; exact p2.elim
    | some ky=>
     rw [hd3,hk] at p2
     obtain ⟨pp3,us3,e3,rd3,rk3⟩:=hJ s2 q1' hd3
     cases e3
     have ey:=gj q2 hk
     subst ey
     refine ⟨gI us3 ky,.inl ⟨us3,ky,rd3,rfl,rfl⟩,?_⟩
     obtain ⟨g1,g2⟩:=rk3.get ky
     have p4:aE X.K E (RD X.K) w2 H2 (R.ok ((cU kvs3 ky).getD .non) S2) Q:=p2
     cases hg:cU kvs3 ky with
     | none=>rw [hg] at p4; rw [g2 hg]; exact aE.ret p4 (by unfold RD; rfl) s2
     | some dd=>rw [hg] at p4; obtain ⟨vd,hv,rv⟩:=g1 dd hg; rw [hv]; exact aE.ret p4 rv s2⟩⟩
end
end PD
namespace PD
open PySem PySem.Spec PyProof.Rows L2
section
variable {X:Cx} {E:XK}
end
end PD
namespace L2
open PySem PySem.Spec PyProof.Rows
section
variable {X:Cx}
end
end L2
namespace PD
open PySem PySem.Spec PyProof.Rows L2
section
variable {X:Cx} {E:XK}
end
section
variable {X:Cx} {E:XK}
end
end PD
namespace PD
open PySem PySem.Spec PyProof.Rows L2
end PD
namespace PD
open PySem PySem.Spec PyProof.Rows L2
def jW:Sto→List D→Option D
 | S,[.ref n,.ty T]=>match S[n]? with
  | some (.flst _)=>if T ∈ fK then some (.bl ("list" == T || ("list" == "bool" && T == "int"))) else none
  | _=>gL S [.ref n,.ty T]
 | S,ds=>gL S ds
section
variable {X:Cx} {E:XK}
theorem yR:bL X (.builtin "isinstance") (xC X.K E jW):=by
 rintro pins s σ H xs us Q I r ⟨w,S,ds,hS,qs,p⟩
 obtain ⟨z,hz,p'⟩:=p.of
 by_cases hf:∃ n T l,ds=[.ref n,.ty T]∧S[n]?=some (.flst l)
 ·obtain ⟨n,T,l,rfl,hn⟩:=hf
  unfold jW at hz
  simp only [hn] at hz
  split at hz
  ·rename_i hT
   cases hz
   obtain ⟨v,u,rfl,q,q'⟩:=qs.two_inv
   unfold RD at q'
   subst q'
   obtain ⟨v1,v2,rfl,rv,rt⟩:=vals2 r
   cases (show v2=Value.type T from rt)
   obtain ⟨pp,rfl,hpp⟩:=q.refI
   obtain ⟨p1,hp1,o,uk,hv,ra⟩:=hS.obj _ _ hn
   rw [hpp] at hp1; cases hp1
   have kk:=wm X.K (t:="list") (T:=T) (by simp) hT
   exact nk I rv (TyOf.frz hv) kk fun tk=>⟨.bl _,H,I.tok tk,rfl,p'.ret RD.mkB hS⟩
  ·cases hz
 ·have e:jW S ds=gL S ds:=by
   unfold jW
   split
   ·rename_i n T
    split
    ·rename_i l hn
     exact (hf ⟨n,T,l,rfl,hn⟩).elim
    ·rfl
   ·rfl
  exact kn pins s σ H xs us Q I r ⟨w,S,ds,hS,qs,by rw [← e]; exact p⟩
end
end PD
namespace PD
open PySem PySem.Spec PyProof.Rows L2
theorem vL {X:Cx} {E:XK} (i:Nat) {x:Str} {pos:Pos} (hN:X.N[i]?=some x:=by kernel_rfl) (hv:X.env.scope.names.lookup x=some .local:=by kernel_rfl) (hd:(x == ("__debug__":Str))=false:=by decide +kernel) (hcd:(x == ("__classdict__":Str))=false:=by decide +kernel):SE X E (.Name x pos) (ae i):=vX i hN (Or.inl hv) hd hcd
theorem vC {X:Cx} {E:XK} (i:Nat) {x:Str} {pos:Pos} (hN:X.N[i]?=some x:=by kernel_rfl) (hv:X.env.scope.names.lookup x=some .cell:=by kernel_rfl) (hd:(x == ("__debug__":Str))=false:=by decide +kernel) (hcd:(x == ("__classdict__":Str))=false:=by decide +kernel):SE X E (.Name x pos) (ae i):=vX i hN (Or.inr (Or.inl hv)) hd hcd
theorem fsk {N P:List Str} {sc:Scope} (a:sc.kind=.function:=by kernel_rfl) (b:sc.isCoroutine=false:=by kernel_rfl) (c:sc.isGenerator=false:=by kernel_rfl) (d:N.Nodup:=by decide +kernel) (e:N.take P.length=P:=by rfl) (f:∀ x∈P,sc.names.lookup x=some .local ∨ sc.names.lookup x=some .cell:=by decide +kernel) (g:∀ y∈sc.names,y.2≠.free:=by decide +kernel):FnScope N P sc:=⟨a,b,c,d,e,f,g⟩
end PD
namespace Lw
open PySem PySem.Spec PyProof.Rows L2 PD
def raisedX:List Str:=[]
def askedX:List Str:=[]
def isaX (c k:Str):Bool:=c == k || k == "PlusError"
abbrev dI:Stmt:=top 48
def gn:SM:=(aA (sIf (tV (eOp oLt (ae 1) (eB et (ab (ae 0) ak)))) (aO (eOp oIx (ae 0) (ae 1))) aV) (aO (eC (.int 0))))
def dv:FM:=fnM 2 gn
abbrev eE:Stmt:=top 49
def jy:SM:=(aA (aQ 2 (gJ (ab (eC (.int 48271)) (ab (eC (.int 69621)) (ab (eC (.int 16807)) (ab (eC (.int 39373)) (ab (eC (.int 30269)) (ab (eC (.int 40014)) (ab (eC (.int 40692)) (ab (eC (.int 50021)) (ab (eC (.int 61687)) (ab (eC (.int 71993)) (ab (eC (.int 83869)) (ab (eC (.int 95561)) (ab (eC (.int 30307)) ak))))))))))))))) (aA (aQ 3 (eOp bO (eOp bO (eOp cf (eOp bO (eOp oMod (ae 0) (eC (.int 2147483647))) (eC (.int 12345))) (eOp oIx (ae 2) (eOp oMod (ae 1) (eC (.int 13))))) (eOp cf (eC (.int 977)) (ae 1))) (eOp cf (eC (.int 7919)) (eOp lJ (ae 1) (eC (.int 13)))))) (aA (aQ 3 (eOp oMod (ae 3) (eC (.int 1000000007)))) (aO (eOp lJ (eOp oMod (eOp bO (eOp cf (ae 3) (ae 3)) (eOp cf (eC (.int 48271)) (ae 1))) (eC (.int 1000000007))) (eC (.int 7)))))))
def ez:FM:=fnM 4 jy
abbrev eF:Stmt:=top 50
def hW:SM:=(aA (aQ 2 (au dv (ab (ae 0) (ab (ae 1) ak)))) (aA (sIf (tV (eOp fE (eOp oMod (ae 2) (eC (.int 2))) (eC (.int 0)))) (aO (eNew (ab (eOp lJ (eB uN (ab (ae 2) ak)) (eC (.int 2))) ak))) aV) (aA (aQ 3 (eC (.int 0))) (aA (fJ (dH (ab (eC (.int 40)) ak)) (.nm 4) (aQ 3 (eOp bO (eOp cf (ae 3) (eC (.int 142857143))) (au ez (ab (ae 2) (ab (ae 4) ak)))))) (aO (eNew (ab (ae 3) ak)))))))
def eA:FM:=fnM 5 hW
abbrev dJ:Stmt:=top 51
def iM:SM:=(aA (uK (.tp [(.nm 2),(.nm 3)]) (eB lu (ab (eOp oIx (ae 0) (eC (.int 0))) (ab (ae 1) ak)))) (aA (pZ wo (ae 2) (ae 0) (eC (.int 0))) (aO (ae 3))))
def aK:FM:=fnM 4 iM
abbrev cH:Stmt:=top 54
def jk:SM:=(aA (aQ 2 (eB kT (ab (ae 1) ak))) (aA (aQ 3 (eOp dq (au aK (ab (ae 0) (ab (eC (.int 30)) ak))) (eC (.int 15)))) (aA (aQ 4 (gJ (ab (eC (.int 0)) (ab (ae 2) (ab (eOp dq (eC (.int 0)) (ae 2)) (ab (eOp dq (ae 2) (eC (.int 2))) (ab (ae 3) (ab (eOp bO (eOp bO (ae 2) (eC (.int 1))) (eOp cf (ae 3) (ae 3))) (ab (ae 3) (ab (eOp dq (ae 2) (eOp cf (eC (.int 2)) (eOp oIx (eOp bO (ae 1) (gz (ab (eC (.int 1)) ak))) (eC (.int 0))))) (ab (ae 3) ak))))))))))) (aO (eOp oIx (ae 4) (au aK (ab (ae 0) (ab (eC (.int 9)) ak))))))))
def cW:FM:=fnM 5 jk
abbrev eG:Stmt:=top 8
def jz:SM:=(aO (iy (eB gL (ab (ae 0) (ab (eC (.ty "int")) ak))) (AJ (eB gL (ab (ae 0) (ab (eC (.ty "bool")) ak))))))
def aW:FM:=fnM 1 jz
abbrev dM:Stmt:=top 9
def kP:SM:=(aO (iy (eB gL (ab (ae 0) (ab (eC (.ty "tuple")) ak))) (iy (eOp fE (eB et (ab (ae 0) ak)) (ae 1)) (eB gi (ab (bF (cz (ae 0) bJ) 1 [] (.nm 0) cA (au aW (ab (ae 0) ak))) ak)))))
def dw:FM:=fnM 2 kP
abbrev fW:Stmt:=top 10
def iN:SM:=(aA (sIf (PD.tOr (PD.dG (tV (eB gL (ab (ae 0) (ab (eC (.ty "tuple")) ak))))) (tV (eOp oGt (eB et (ab (ae 0) ak)) (eC (.int (16)))))) (aO (eC (.bl false))) aV) (aO (eB gi (ab (bF (cz (ae 0) bJ) 1 [] (.nm 0) cA (iy (au aW (ab (ae 0) ak)) (eOp oGe (ae 0) (eC (.int 1))))) ak))))
def fF:FM:=fnM 1 iN
abbrev cX:Stmt:=top 11
def hZ:SM:=(sIf (PD.dG (tV (au fF (ab (ae 0) ak)))) vV aV)
def bf:FM:=fnM 1 hZ
abbrev cI:Stmt:=top 14
def jl:SM:=(aA (bE (au bf (ab (ae 1) ak))) (aO (iy (au dw (ab (ae 0) (ab (eB et (ab (ae 1) ak)) ak))) (eB gi (ab (bF (cz (ae 0) bJ) 1 [] (.nm 0) cA (lH oLe oLe (eUn jv (eC (.int 1))) (ae 0) (eC (.int 1)))) ak)))))
def bV:FM:=fnM 2 jl
abbrev bh:Stmt:=top 15
def fQ:SM:=(aO (iy (au dw (ab (ae 0) (ab (ae 1) ak))) (eB gi (ab (bF (cz (ae 0) bJ) 1 [] (.nm 0) cA (eOp fE (eB uN (ab (ae 0) ak)) (eC (.int 1)))) ak))))
def bQ:FM:=fnM 2 fQ
abbrev cJ:Stmt:=top 16
def jm:SM:=(aA (bE (au bf (ab (ae 1) ak))) (aO (au bQ (ab (ae 0) (ab (eB et (ab (ae 1) ak)) ak)))))
def cY:FM:=fnM 2 jm
abbrev dN:Stmt:=top 35
def kQ:SM:=(aA (sIf (PD.tOr (PD.dG (tV (eB gL (ab (ae 0) (ab (eC (.ty "tuple")) ak))))) (PD.dG (tV (eB gi (ab (bF (cz (ae 0) bJ) 1 [] (.nm 0) cA (au aW (ab (ae 0) ak))) ak))))) (aO (eC (.bl false))) aV) (aO (eB gi (ab (bF (jV (ab (eC (.int 1)) (ab (eB et (ab (ae 0) ak)) ak))) 1 [0] (.nm 0) cA (eOp oLt (eOp oIx (ae 1) (eOp dq (ae 0) (eC (.int 1)))) (eOp oIx (ae 1) (ae 0)))) ak))))
def eI:FM:=fnM 1 kQ
abbrev eJ:Stmt:=top 36
def mh:SM:=(aA (aQ 4 (eBR wY (ab (bF (cz (ae 1) bJ) 1 [] (.nm 0) cA (gz (ab (ae 0) (ab (eC (.bl true)) ak)))) ak))) (aA (fJ (cz (ae 0) bJ) (.nm 5) (fJ (cz (ae 3) bJ) (.nm 6) (sIf (tV (eOp (gD true) (eOp bO (ae 5) (eOp cf (ae 6) (ae 2))) (ae 4))) (aO (eC (.bl false))) aV))) (aO (eC (.bl true)))))
def fu:FM:=fnM 7 mh
abbrev cZ:Stmt:=top 37
def jX:SM:=(aA (sIf (PD.tOr (PD.dG (tV (eB jW (ab (ae 0) (ab (eC (.ty "list")) ak))))) (tV (eOp eu (eB et (ab (ae 0) ak)) (eOp bO (eB et (ab (ae 1) ak)) (eC (.int 1)))))) (aO (eC (.bl false))) aV) (aA (sIf (PD.tOr (PD.dG (tV (eB gi (ab (bF (yN (ae 0)) 1 [] (.nm 0) cA (au eI (ab (ae 0) ak))) ak)))) (tV (eOp (oIn true) (eC (.int 0)) (eOp oIx (ae 0) (eC (.int 0)))))) (aO (eC (.bl false))) aV) (aO (eB gi (ab (bF (kI (ab (ae 1) ak)) 2 [0,2] (.tp [(.nm 0),(.nm 1)]) cA (au fu (ab (eOp oIx (ae 2) (ae 0)) (ab (eOp oIx (ae 2) (eOp bO (ae 0) (eC (.int 1)))) (ab (ae 1) (ab (ae 3) ak)))))) ak)))))
def cx:FM:=fnM 3 jX
abbrev de:Stmt:=top 23
def jY:SM:=(aA (bE (au bf (ab (ae 0) ak))) (sIf (tV (eOp oGt (eB et (ab (ae 0) ak)) (eC (.int (10))))) vV aV))
def bT:FM:=fnM 1 jY
abbrev bX:Stmt:=top 12
def fL:SM:=(sIf (PD.dG (tV (au aW (ab (ae 0) ak)))) vV aV)
def cg:FM:=fnM 1 fL
abbrev aT:Stmt:=top 13
def eK:SM:=(aA (bE (au bf (ab (ae 0) ak))) (bE (au cg (ab (ae 1) ak))))
def bj:FM:=fnM 2 eK
abbrev aU:Stmt:=top 24
def eN:SM:=(aA (bE (au bj (ab (ae 0) (ab (ae 1) ak)))) (bE (au bT (ab (ae 0) ak))))
def aj:FM:=fnM 2 eN
abbrev cK:Stmt:=top 38
def jn:SM:=(aA (bE (au aj (ab (ae 1) (ab (ae 2) ak)))) (aO (iy (au cx (ab (ae 0) (ab (ae 1) (ab (eC (.tup (([(-1),(1)]:List Int).map .int))) ak)))) (eOp (oIn true) (ae 2) (eOp oIx (ae 0) (eUn jv (eC (.int 1))))))))
def bK:FM:=fnM 3 jn
abbrev dO:Stmt:=top 44
def kR:SM:=(aA (bE (au aj (ab (ae 1) (ab (ae 2) ak)))) (aA (sIf (PD.tOr (PD.dG (tV (au aW (ab (ae 0) ak)))) (tV (eOp oLt (ae 0) (eC (.int 2))))) (aO (eC (.bl false))) aV) (aA (aQ 3 (eB gi (ab (bF (cz (ae 1) bJ) 1 [0] (.nm 0) cA (eOp fE (eOp oMod (eOp cf (eC (.int 2)) (ae 0)) (ae 1)) (eC (.int 0)))) ak))) (aO (iy (ae 3) (eOp eu (eOp oMod (eOp dq (eB kT (ab (ae 1) ak)) (ae 2)) (ae 0)) (eC (.int 0))))))))
def eO:FM:=fnM 4 kR
abbrev bC:Stmt:=top 39
def fZ:SM:=(aA (bE (au aj (ab (ae 1) (ab (ae 2) ak)))) (aO (iy (au cx (ab (ae 0) (ab (ae 1) (ab (eC (.tup (([(-1),(0),(1)]:List Int).map .int))) ak)))) (eOp (oIn true) (ae 2) (eOp oIx (ae 0) (eUn jv (eC (.int 1))))))))
def bH:FM:=fnM 3 fZ
abbrev fw:Stmt:=top 25
def nS:SM:=(aA (aQ 3 zC) (aA (fJ (o6 (ae 0)) (.tp [(.nm 4),(.nm 5)]) (fJ (cz (ae 2) bJ) (.nm 6) (aA (aQ 7 (eOp bO (ae 4) (eOp cf (ae 6) (ae 1)))) (pZ nK (eOp bO (ji (ae 3) (ae 7) (eC (.int 0))) (ae 5)) (ae 3) (ae 7))))) (aO (ae 3))))
def cj:FM:=fnM 8 nS
abbrev ck:Stmt:=top 40
def iO:SM:=(aA (aQ 2 (lO [((eC (.int 0)),(eC (.int 1)))])) (aA (aQ 3 (eNew (ab (gz (ab (eC (.int 0)) ak)) ak))) (aA (fJ (cz (ae 0) bJ) (.nm 4) (aA (aQ 2 (au cj (ab (ae 2) (ab (ae 4) (ab (ae 1) ak))))) (bE (ko cc (ae 3) (ab (eB jw (ab (eB wV (ab (ae 2) ak)) ak)) ak))))) (aO (ae 3)))))
def dy:FM:=fnM 5 iO
abbrev bY:Stmt:=top 41
def ix:SM:=(aA (aQ 3 (au dy (ab (ae 1) (ab (ae 2) ak)))) (aO (eIf (tV (eOp (oIn false) (ae 0) (eOp oIx (ae 3) (eUn jv (eC (.int 1)))))) (eC .non) (ae 3))))
def aY:FM:=fnM 4 ix
abbrev cn:Stmt:=top 42
def iP:SM:=(aA (bE (au aj (ab (ae 0) (ab (ae 1) ak)))) (aO (au aY (ab (ae 1) (ab (ae 0) (ab (eC (.tup (([(-1),(1)]:List Int).map .int))) ak))))))
def dz:FM:=fnM 2 iP
abbrev eP:Stmt:=top 26
def ml:SM:=(aA (aQ 2 (lO [((eC (.int 0)),(eC (.int 1)))])) (aA (fJ (cz (ae 0) bJ) (.nm 3) (aQ 2 (au cj (ab (ae 2) (ab (ae 3) (ab (ae 1) ak)))))) (aO (ae 2))))
def bN:FM:=fnM 4 ml
abbrev cL:Stmt:=top 34
def jo:SM:=(aA (bE (au aj (ab (ae 0) (ab (ae 1) ak)))) (aO (ji (au bN (ab (ae 0) (ab (eC (.tup (([(-1),(0),(1)]:List Int).map .int))) ak))) (ae 1) (eC (.int 0)))))
def dZ:FM:=fnM 2 jo
abbrev aZ:Stmt:=top 29
def fG:SM:=(aA (aQ 2 (eNew (ab (lO [((eC (.int 0)),(eC (.int 1)))]) ak))) (aA (fJ (yH (ab (ae 0) ak)) (.nm 3) (bE (ko cc (ae 2) (ab (au cj (ab (eOp oIx (ae 2) (eUn jv (eC (.int 1)))) (ab (ae 3) (ab (ae 1) ak)))) ak)))) (aO (ae 2))))
def bo:FM:=fnM 4 fG
abbrev eQ:Stmt:=top 30
def mn:SM:=(aA (aQ 3 (au bo (ab (ae 0) (ab (ae 2) ak)))) (aA (sIf (tV (eOp (gD true) (ae 1) (eOp oIx (ae 3) (eUn jv (eC (.int 1)))))) (aO (eC .non)) aV) (aA (aQ 4 (eNew ak)) (aA (aQ 5 (ae 1)) (aA (fJ (kI (ab (ae 0) ak)) (.tp [(.nm 6),(.nm 7)]) (aA (aQ 8 (eOp oIx (ae 3) (eOp dq (eOp dq (eB et (ab (ae 0) ak)) (ae 6)) (eC (.int 1))))) (aA (aQ 9 (eB nL (ab (bF (cz (ae 2) bJ) 1 [5,7,8] (.nm 0) (tV (eOp (gD false) (eOp dq (ae 1) (eOp cf (ae 0) (ae 2))) (ae 3))) (ae 0)) ak))) (aA (bE (ko cc (ae 4) (ab (ae 9) ak))) (aQ 5 (eOp dq (ae 5) (eOp cf (ae 9) (ae 7)))))))) (aO (eB jw (ab (ae 4) ak))))))))
def dA:FM:=fnM 10 mn
abbrev df:Stmt:=top 32
def jZ:SM:=(aA (bE (au aj (ab (ae 0) (ab (ae 1) ak)))) (aO (au dA (ab (ae 0) (ab (ae 1) (ab (eC (.tup (([(-1),(0),(1)]:List Int).map .int))) ak))))))
def ff:FM:=fnM 2 jZ
abbrev bM:Stmt:=top 45
def gS:SM:=(aA (aQ 1 (eC (.int 0))) (aA (fJ (cz (ae 0) bJ) (.nm 2) (aA (aQ 3 (ae 2)) (sWh (tV (eOp eu (ae 3) (eC (.int 0)))) (aA (aQ 4 (eOp oMod (ae 1) (ae 3))) (aA (aQ 1 (ae 3)) (aQ 3 (ae 4))))))) (aO (ae 1))))
def bZ:FM:=fnM 5 gS
abbrev dg:Stmt:=top 46
def j0:SM:=(aA (bE (au aj (ab (ae 0) (ab (ae 1) ak)))) (aA (sIf (tV (eOp fE (ae 0) (gz ak))) (aO (eC .non)) aV) (aA (aQ 2 (eOp cf (eC (.int 2)) (au bZ (ab (ae 0) ak)))) (aO (eIf (tV (eOp eu (eOp oMod (eOp dq (eB kT (ab (ae 0) ak)) (ae 1)) (ae 2)) (eC (.int 0)))) (ae 2) (eC .non))))))
def fg:FM:=fnM 3 j0
abbrev cM:Stmt:=top 33
def jq:SM:=(aA (bE (au aj (ab (ae 0) (ab (ae 1) ak)))) (aO (ji (au bN (ab (ae 0) (ab (eC (.tup (([(-1),(1)]:List Int).map .int))) ak))) (ae 1) (eC (.int 0)))))
def d7:FM:=fnM 2 jq
abbrev dh:Stmt:=top 31
def j3:SM:=(aA (bE (au aj (ab (ae 0) (ab (ae 1) ak)))) (aO (au dA (ab (ae 0) (ab (ae 1) (ab (eC (.tup (([(-1),(1)]:List Int).map .int))) ak))))))
def fh:FM:=fnM 2 j3
abbrev bp:Stmt:=top 43
def fR:SM:=(aA (bE (au aj (ab (ae 0) (ab (ae 1) ak)))) (aO (au aY (ab (ae 1) (ab (ae 0) (ab (eC (.tup (([(-1),(0),(1)]:List Int).map .int))) ak))))))
def bR:FM:=fnM 2 fR
abbrev cp:Stmt:=top 17
def iQ:SM:=(sIf (PD.dG (tV (au bV (ab (ae 1) (ab (ae 0) ak))))) vV aV)
def dB:FM:=fnM 2 iQ
abbrev fA:Stmt:=top 18
def nT:SM:=(aA (bE (au dB (ab (ae 0) (ab (ae 1) ak)))) (aO (eB kT (ab (bF (yw (ab (ae 0) (ab (ae 1) ak))) 2 [] (.tp [(.nm 0),(.nm 1)]) cA (eOp cf (ae 0) (ae 1))) ak))))
def eR:FM:=fnM 2 nT
abbrev bD:Stmt:=top 56
def gb:SM:=(aA (vW 2 3 (ab (au fh (ab (ae 0) (ab (ae 1) ak))) (ab (au ff (ab (ae 0) (ab (ae 1) ak))) ak))) (aA (vW 4 5 (ab (au dz (ab (ae 0) (ab (ae 1) ak))) (ab (au bR (ab (ae 0) (ab (ae 1) ak))) ak))) (aA (sIf (PD.tOr (tV (eOp eu (eOp (fc false) (ae 2) (eC .non)) (eOp (fc true) (ae 4) (eC .non)))) (tV (eOp eu (eOp (fc false) (ae 3) (eC .non)) (eOp (fc true) (ae 5) (eC .non))))) (aO (eC (.bl false))) aV) (aA (sIf (tV (eOp eu (eOp (fc false) (ae 2) (eC .non)) (eOp fE (au d7 (ab (ae 0) (ab (ae 1) ak))) (eC (.int 0))))) (aO (eC (.bl false))) aV) (aA (sIf (tV (eOp eu (eOp (fc false) (ae 3) (eC .non)) (eOp fE (au dZ (ab (ae 0) (ab (ae 1) ak))) (eC (.int 0))))) (aO (eC (.bl false))) aV) (aA (sIf (tV (eOp (fc true) (ae 2) (eC .non))) (sIf (PD.tOr (PD.dG (tV (au cY (ab (ae 2) (ab (ae 0) ak))))) (PD.tOr (tV (eOp eu (au eR (ab (ae 0) (ab (ae 2) ak))) (ae 1))) (tV (eOp (fc false) (ae 3) (eC .non))))) (aO (eC (.bl false))) aV) aV) (aA (sIf (tV (eOp (fc true) (ae 3) (eC .non))) (sIf (PD.tOr (PD.dG (tV (au bV (ab (ae 3) (ab (ae 0) ak))))) (tV (eOp eu (au eR (ab (ae 0) (ab (ae 3) ak))) (ae 1)))) (aO (eC (.bl false))) aV) aV) (aA (sIf (PD.oi (tV (eOp (fc true) (ae 4) (eC .non))) (PD.dG (tV (au bK (ab (ae 4) (ab (ae 0) (ab (ae 1) ak))))))) (aO (eC (.bl false))) aV) (aA (sIf (tV (eOp (fc true) (ae 5) (eC .non))) (sIf (PD.tOr (PD.dG (tV (au bH (ab (ae 5) (ab (ae 0) (ab (ae 1) ak)))))) (PD.dG (tV (au bK (ab (ae 5) (ab (ae 0) (ab (ae 1) ak))))))) (aO (eC (.bl false))) aV) aV) (aA (aQ 6 (au fg (ab (ae 0) (ab (ae 1) ak)))) (aO (eOr (eOp (fc false) (ae 6) (eC .non)) (iy (au eO (ab (ae 6) (ab (ae 0) (ab (ae 1) ak)))) (eOp (fc false) (ae 2) (eC .non)))))))))))))))
def bI:FM:=fnM 7 gb
abbrev eS:Stmt:=top 52
def jA:SM:=(aA (aQ 2 (au aK (ab (ae 0) (ab (eOp bO (ae 1) (eC (.int 1))) ak)))) (aA (aQ 3 (au aK (ab (ae 0) (ab (eC (.int 7)) ak)))) (aA (aQ 4 (eOp bO (eC (.int 1)) (au aK (ab (ae 0) (ab (eC (.int 9)) ak))))) (aA (aQ 5 (eNew ak)) (aA (fJ (dH (ab (ae 2) ak)) (.nm 6) (aA (aQ 7 (eOp bO (eC (.int 1)) (au aK (ab (ae 0) (ab (eC (.int 12)) ak))))) (aA (aQ 8 (gJ (ab (ae 7) (ab (ae 7) (ab (ae 4) (ab (eOp oG (eC (.int 1)) (ae 6)) (ab (eOp bO (ae 4) (eOp cf (ae 6) (ae 7))) (ab (eOp cf (ae 7) (ae 7)) (ab (eOp bO (eOp cf (eOp rO (eC (.int 10)) (eC (.int 12))) (ae 7)) (ae 7)) ak))))))))) (bE (ko cc (ae 5) (ab (eOp oIx (gJ (ab (eOp oIx (ae 8) (ae 3)) (ab (eOp cf (ae 4) (ae 7)) ak))) (eB uQ (ab (eOp fE (au aK (ab (ae 0) (ab (eC (.int 9)) ak))) (eC (.int 8))) ak))) ak)))))) (aO (eB jw (ab (ae 5) ak))))))))
def fB:FM:=fnM 9 jA
abbrev eT:Stmt:=top 53
def mq:SM:=(aA (aQ 2 (gJ (ab (gz ak) ak))) (aA (fJ (dH (ab (ae 0) ak)) (.nm 3) (aA (aQ 4 (gJ ak)) (aA (fJ (cz (ae 2) bJ) (.nm 5) (aQ 4 (eOp bO (ae 4) (bF (cz (ae 1) bJ) 1 [5] (.nm 0) cA (eOp bO (ae 1) (gz (ab (ae 0) ak))))))) (aQ 2 (ae 4))))) (aO (ae 2))))
def gc:FM:=fnM 6 mq
abbrev cq:Stmt:=top 28
def iR:SM:=(aA (bE (au bT (ab (ae 0) ak))) (aO (au bN (ab (ae 0) (ab (eC (.tup (([(-1),(0),(1)]:List Int).map .int))) ak)))))
def dC:FM:=fnM 1 iR
abbrev cu:Stmt:=top 27
def iS:SM:=(aA (bE (au bT (ab (ae 0) ak))) (aO (au bN (ab (ae 0) (ab (eC (.tup (([(-1),(1)]:List Int).map .int))) ak)))))
def dD:FM:=fnM 1 iS
abbrev bq:Stmt:=top 55
def fT:SM:=(aA (uK (.tp [(.nm 1),(.nm 2)]) (gz (ab (au dD (ab (ae 0) ak)) (ab (au dC (ab (ae 0) ak)) ak)))) (aA (sIf (PD.tOr (tV (eOp eu (eUn nQ (ae 1)) (eOp oG (eC (.int 1)) (eB et (ab (ae 0) ak))))) (tV (eOp eu (jO 1 (bF (kM (ae 1)) 1 [1] (.nm 0) (tV (eOp eu (eOp rT (ae 1) (ae 0)) (nR (ae 1) (eOp dq (eC (.int 0)) (ae 0))))) (ae 0))) (gJ ak)))) (aO (eC (.bl false))) aV) (aA (sIf (tV (eOp eu (jO 2 (bF (kM (ae 2)) 1 [2] (.nm 0) (tV (eOp eu (eOp rT (ae 1) (ae 0)) (nR (ae 1) (eOp dq (eC (.int 0)) (ae 0))))) (ae 0))) (gJ ak))) (aO (eC (.bl false))) aV) (aA (sIf (tV (eOp eu (jO 1 (bF (kM (ae 1)) 1 [2] (.nm 0) (tV (eOp (gD true) (ae 0) (ae 1))) (ae 0))) (gJ ak))) (aO (eC (.bl false))) aV) (aO (eOp fE (eUn nQ (ae 2)) (eB et (ab (au gc (ab (eB et (ab (ae 0) ak)) (ab (gz (ab (eC (.int 0)) (ab (eC (.int 1)) (ab (eC (.int 2)) ak)))) ak))) ak))))))))
def bS:FM:=fnM 3 fT
abbrev iT:Stmt:=top 57
def zF:SM:=(aA (fJ (dH (ab (eB wj (ab (eC (.int 1)) (ab (eB uO (ab (eB et (ab (ae 0) ak)) (ab (eC (.int 3)) ak))) ak))) ak)) (.nm 1) (aA (aQ 2 (au eA (ab (ae 0) (ab (ae 1) ak)))) (aA (aQ 3 (au fB (ab (ae 2) (ab (eC (.int 6)) ak)))) (aA (sIf (PD.dG (tV (au bS (ab (ae 3) ak)))) (aO (eC (.bl false))) aV) (fJ (dH (ab (eC (.int 4)) ak)) (.nm 4) (sIf (PD.dG (tV (au bI (ab (ae 3) (ab (au cW (ab (ae 2) (ab (ae 3) ak))) ak))))) (aO (eC (.bl false))) aV)))))) (aO (eC (.bl true))))
def tw:FM:=fnM 5 zF
structure Gr (b:Nat) (S S':Sto):Prop where
 bx:∃ n,S'[b]?=some (.lst [.int n])
 oth:∀ i,i ≠ b→i < S.length→S'[i]?=S[i]?
 len:S.length≤S'.length
theorem Gr.trans {b:Nat} {S S1 S2:Sto} (x:Gr b S S1) (y:Gr b S1 S2):Gr b S S2:=
 ⟨y.bx,fun i h l=>(y.oth i h (Nat.lt_of_lt_of_le l x.len)).trans (x.oth i h l),Nat.le_trans x.len y.len⟩
theorem Gr.self {b:Nat} {S S1:Sto} (x:Gr b S S1):Gr b S1 S1:=⟨x.bx,fun _ _ _=>rfl,Nat.le_refl _⟩
theorem Gr.more {b:Nat} {S S1:Sto} (x:Gr b S S1) (l:Sto):Gr b S (S1 ++ l):=by
 obtain ⟨n,hn⟩:=x.bx
 have hb:b < S1.length:=(List.getElem?_eq_some_iff.mp hn).1
 refine ⟨⟨n,by rw [List.getElem?_append_left hb]; exact hn⟩,fun i h hl=>?_,by rw [List.length_append]; have:=x.len; omega⟩
 rw [List.getElem?_append_left (Nat.lt_of_lt_of_le hl x.len)]
 exact x.oth i h hl
theorem yS {S:Sto} {b:Nat} {n many:Int} (h:S[b]?=some (.lst [.int n])) (h0:0 < many) (h1:many < 1073741824):aK [.ref b,.int many] S=.ok (.int (n % many)) (S.set b (.lst [.int (n / many)])):=by
 simp [aK,fnM,iM,aA,uK,pZ,aO,eB,eOp,ae,eC,ab,ak,R.bind,R.of,oIx,bg,h,atI,ixN,lu,h0,h1,G.put,G.puts,wo]
theorem ic {S:Sto} {b:Nat} (h:Gr b S S) {many:Int} (h0:0 < many) (h1:many < 1073741824):∃ q S',aK [.ref b,.int many] S=.ok (.int q) S'∧0≤q∧q < many∧Gr b S S':=by
 obtain ⟨n,hn⟩:=h.bx
 have hb:b < S.length:=(List.getElem?_eq_some_iff.mp hn).1
 refine ⟨_,_,yS hn h0 h1,Int.emod_nonneg _ (by omega),Int.emod_lt_of_pos _ h0,⟨n / many,by simp [hb]⟩,fun i hi _=>?_,by simp⟩
 rw [List.getElem?_set_ne (Ne.symm hi)]
theorem yT (ns:List Int) (k:Nat) (S:Sto):dv [.fz (ns.map .int),.int k] S=.ok (.int (ns.getD k 0)) S:=by
 by_cases hk:k < ns.length
 ·simp [dv,fnM,gn,aA,sIf,aO,aV,tV,eB,eOp,ae,eC,ab,ak,R.bind,R.of,oIx,bg,atI,ixN,lK,et,hk]
 ·simp [dv,fnM,gn,aA,sIf,aO,aV,tV,eB,eOp,ae,eC,ab,ak,R.bind,R.of,oIx,bg,atI,ixN,lK,et,hk]
theorem Br (L:List Int) (k:Nat) (h:k < L.length):atI (L.map D.int) (k:Int)=some (.int L[k]):=by
 have e:ixN (L.map D.int).length (k:Int)=some k:=by
  unfold ixN
  rw [if_pos (Int.natCast_nonneg k),List.length_map,if_pos (Int.ofNat_lt.mpr h),Int.toNat_natCast]
 unfold atI
 rw [e]
 show (L.map D.int)[k]?=_
 rw [List.getElem?_map,List.getElem?_eq_getElem h]
 rfl
theorem Bt (cell:Int) (j:Nat) (hj:j < 1000) (S:Sto):∃ m:Int,ez [.int cell,.int j] S=.ok (.int m) S:=by
 have hix:∃ x:Int,cF x∧atI [D.int 48271,D.int 69621,D.int 16807,D.int 39373,D.int 30269,D.int 40014,D.int 40692,D.int 50021,D.int 61687,D.int 71993,D.int 83869,D.int 95561,D.int 30307] ((j:Int) % 13)=some (.int x):=by
  have hk:j % 13 < 13:=Nat.mod_lt _ (by decide)
  have ha:∀ x ∈ ([48271,69621,16807,39373,30269,40014,40692,50021,61687,71993,83869,95561,30307]:List Int),cF x:=by decide
  exact ⟨_,ha _ (List.getElem_mem hk),Br [48271,69621,16807,39373,30269,40014,40692,50021,61687,71993,83869,95561,30307] (j % 13) hk⟩
 obtain ⟨x,hx,hix⟩:=hix
 have h2:∀ y:Int,cF (y % 1000000007):=fun y=>by
  have:=Int.emod_nonneg y (show (1000000007:Int) ≠ 0 by decide)
  have:=Int.emod_lt_of_pos y (show (0:Int) < 1000000007 by decide)
  exact ⟨by omega,by omega⟩
 have s1:cF 977:=by decide
 have s2:cF 7919:=by decide
 have s3:cF 48271:=by decide
 have hz:(13:Nat)≤sizeLine:=by decide
 simp [ez,fnM,jy,aA,aQ,aO,gJ,eOp,ae,eC,ab,ak,R.bind,R.of,oIx,bg,bO,cf,oMod,lJ,hix,hx,h2,s1,s2,s3,hz]
theorem qB (cell:Int):∀ (l:List Nat) (S:Sto) (a b:Option D) (n:Int) (j:Option D),(∀ i ∈ l,i < 1000)→∃ (n':Int) (j':Option D),
  forL (.nm 4) (aQ 3 (eOp bO (eOp cf (ae 3) (eC (.int 142857143))) (au ez (ab (ae 2) (ab (ae 4) ak))))) (l.map fun (i:Nat)=>D.int i) [a,b,some (.int cell),some (.int n),j] S=.ok (.nx [a,b,some (.int cell),some (.int n'),j']) S
 | [],S,a,b,n,j,_=>⟨n,j,rfl⟩
 | i :: l,S,a,b,n,j,h=>by
  obtain ⟨m,hm⟩:=Bt cell i (h i List.mem_cons_self) S
  have s1:cF 142857143:=by decide
  obtain ⟨n',j',e⟩:=qB cell l S a b (n * 142857143 + m) (some (.int i)) fun x hx=>h x (List.mem_cons_of_mem _ hx)
  refine ⟨n',j',?_⟩
  simp only [List.map_cons,forL,G.put]
  simp [aQ,eOp,ae,eC,au,ab,ak,R.bind,R.of,bO,cf,hm,s1]
  exact e
theorem Bu (ns:List Int) (k:Nat) (S:Sto):∃ v:Int,eA [.fz (ns.map .int),.int k] S=.ok (.ref S.length) (S ++ [.lst [.int v]]):=by
 have hz:(1:Nat)≤sizeLine:=by decide
 have hc':=yT ns k S
 generalize ns.getD k 0=c at hc'
 by_cases hc:c % 2=0
 ·refine ⟨(if c < 0 then -c else c) / 2,?_⟩
  simp [eA,fnM,hW,aA,aQ,sIf,aO,aV,tV,eNew,eB,au,eOp,ae,eC,ab,ak,R.bind,R.of,hc',oMod,fE,eqP,eqS,hc,uN,lJ,hz]
 ·obtain ⟨n',j',e⟩:=qB c (List.range 40) S (some (.fz (ns.map .int))) (some (.int k)) 0 none (fun i hi=>by have:=List.mem_range.mp hi; omega)
  refine ⟨n',?_⟩
  have hr:(40:Int).toNat=40:=rfl
  simp [eA,fnM,hW,aA,aQ,sIf,aO,aV,tV,eNew,eB,au,eOp,ae,eC,ab,ak,R.bind,R.of,hc',oMod,fE,eqP,eqS,hc,fJ,dH,hz]
  rw [e]
  simp [aO,hz]
def okN (x:Int):Prop:=1≤x∧x < 1000000000000000
abbrev i7:SM:=(aA (aQ 7 (eOp bO (eC (.int 1)) (au aK (ab (ae 0) (ab (eC (.int 12)) ak))))) (aA (aQ 8 (gJ (ab (ae 7) (ab (ae 7) (ab (ae 4) (ab (eOp oG (eC (.int 1)) (ae 6)) (ab (eOp bO (ae 4) (eOp cf (ae 6) (ae 7))) (ab (eOp cf (ae 7) (ae 7)) (ab (eOp bO (eOp cf (eOp rO (eC (.int 10)) (eC (.int 12))) (ae 7)) (ae 7)) ak))))))))) (bE (ko cc (ae 5) (ab (eOp oIx (gJ (ab (eOp oIx (ae 8) (ae 3)) (ab (eOp cf (ae 4) (ae 7)) ak))) (eB uQ (ab (eOp fE (au aK (ab (ae 0) (ab (eC (.int 9)) ak))) (eC (.int 8))) ak))) ak)))))
theorem xa {S S1 S2:Sto} {b f:Nat} {kind base i q q' G P T y:Int} {M1 M2 M3 M4:Int} {xs:List D} {r1 r2 r7 r8:Option D} (e1:aK [.ref b,.int 12] S=.ok (.int q) S1) (e2:aK [.ref b,.int 9] S1=.ok (.int q') S2) (hG:1 + q=G)
  (hf1:S1[f]?=some (.lst xs)) (hf2:S2[f]?=some (.lst xs)) (zl:xs.length < sizeLine)
  (eShl:∀ S:Sto,oG S (.int 1) (.int i)=some (.int P)) (ePow:∀ S:Sto,rO S (.int 10) (.int 12)=some (.int T)) (eM1:∀ S:Sto,cf S (.int i) (.int G)=some (.int M1)) (eM2:∀ S:Sto,cf S (.int G) (.int G)=some (.int M2)) (eM3:∀ S:Sto,cf S (.int base) (.int G)=some (.int M3)) (eM4:∀ S:Sto,cf S (.int T) (.int G)=some (.int M4))
  (hix:atI [D.int G,D.int G,D.int base,D.int P,D.int (base + M1),D.int M2,D.int (M4 + G)] kind=some (.int y)):
  i7 [some (.ref b),r1,r2,some (.int kind),some (.int base),some (.ref f),some (.int i),r7,r8] S=.ok (.nx [some (.ref b),r1,r2,some (.int kind),some (.int base),some (.ref f),some (.int i),some (.int G),some (.lst [D.int G,D.int G,D.int base,D.int P,D.int (base + M1),D.int M2,D.int (M4 + G)])]) (S2.set f (.lst (xs ++ [.int (if q'=8 then M3 else y)]))):=by
 have z7:(7:Nat)≤sizeLine:=by decide
 have z2:(2:Nat)≤sizeLine:=by decide
 have hA0:∀ a b:D,atI [a,b] 0=some a:=fun _ _=>rfl
 have hA1:∀ a b:D,atI [a,b] 1=some b:=fun _ _=>rfl
 by_cases h8:q'=8
 ·simp only [i7,aA,aQ,bE,ko,gJ,eB,au,eOp,ae,eC,ab,ak,R.bind,R.of,e1,hG,eShl,ePow,eM1,eM2,eM3,eM4,bO,isL,hf1,oIx,bg,hix,e2,fE,eqP,eqS,h8,uQ,hA0,hA1,cc,hf2,zl,List.length_cons,List.length_nil,List.getElem?_cons_zero,List.getElem?_cons_succ,List.set_cons_zero,List.set_cons_succ,if_true,Nat.reduceAdd,decide_true,Option.map_some,z7,z2]
 ·simp only [i7,aA,aQ,bE,ko,gJ,eB,au,eOp,ae,eC,ab,ak,R.bind,R.of,e1,hG,eShl,ePow,eM1,eM2,eM3,eM4,bO,isL,hf1,oIx,bg,hix,e2,fE,eqP,eqS,h8,uQ,hA0,hA1,cc,hf2,zl,List.length_cons,List.length_nil,List.getElem?_cons_zero,List.getElem?_cons_succ,List.set_cons_zero,List.set_cons_succ,if_true,Nat.reduceAdd,decide_true,decide_false,if_false,Bool.false_eq_true,Option.map_some,z7,z2]
theorem xb {S0 S:Sto} {b f i:Nat} {kind base:Int} {xs:List Int} {r1 r2 r7 r8:Option D} (hi:i < 16) (hk:0≤kind∧kind < 7) (hb:1≤base∧base < 10) (g:Gr b S0 S) (hf:S[f]?=some (.lst (xs.map .int))) (hfb:f ≠ b) (hf0:S0.length≤f) (hl:xs.length < 1000):
  ∃ (y:Int) (S':Sto) (r7' r8':Option D),i7 [some (.ref b),r1,r2,some (.int kind),some (.int base),some (.ref f),some (.int i),r7,r8] S=.ok (.nx [some (.ref b),r1,r2,some (.int kind),some (.int base),some (.ref f),some (.int i),r7',r8']) S'∧
   okN y∧S'[f]?=some (.lst ((xs ++ [y]).map .int))∧Gr b S0 S':=by
 obtain ⟨q,S1,e1,q0,q1,g1⟩:=ic g.self (many:=12) (by decide) (by decide)
 obtain ⟨q',S2,e2,q0',q1',g2⟩:=ic g1.self (many:=9) (by decide) (by decide)
 have hfl:f < S.length:=(List.getElem?_eq_some_iff.mp hf).1
 have hf1:S1[f]?=some (.lst (xs.map .int)):=by rw [g1.oth f hfb hfl]; exact hf
 have hf2:S2[f]?=some (.lst (xs.map .int)):=by rw [g2.oth f hfb (Nat.lt_of_lt_of_le hfl g1.len)]; exact hf1
 have hfl2:f < S2.length:=(List.getElem?_eq_some_iff.mp hf2).1
 generalize hG:(1:Int) + q=G
 have hG0:1≤G∧G≤12:=by omega
 have sG:cF G:=⟨by omega,by omega⟩
 have sB:cF base:=⟨by omega,by omega⟩
 have sI:cF (i:Int):=⟨by omega,by omega⟩
 have m1:(i:Int) * G≤15 * 12:=Int.mul_le_mul (by omega) hG0.2 (by omega) (by omega)
 have m1':0≤(i:Int) * G:=Int.mul_nonneg (by omega) (by omega)
 have m2:G * G≤12 * 12:=Int.mul_le_mul hG0.2 hG0.2 (by omega) (by omega)
 have m2':1 * 1≤G * G:=Int.mul_le_mul hG0.1 hG0.1 (by omega) (by omega)
 have m3:base * G≤9 * 12:=Int.mul_le_mul (by omega) hG0.2 (by omega) (by omega)
 have m3':1 * 1≤base * G:=Int.mul_le_mul hb.1 hG0.1 (by omega) (by omega)
 have m4:(2:Int) ^ i≤32768:=by
  have h:=Nat.pow_le_pow_right (n:=2) (by decide) (show i≤15 by omega)
  have h':((2 ^ i:Nat):Int)≤((2 ^ 15:Nat):Int):=by exact_mod_cast h
  simpa using h'
 have m4':1≤(2:Int) ^ i:=by
  have h:=Nat.one_le_two_pow (n:=i)
  have h':(1:Int)≤((2 ^ i:Nat):Int):=by exact_mod_cast h
  simpa using h'
 have hix:∃ y:Int,okN y∧atI [D.int G,D.int G,D.int base,D.int (2 ^ i),D.int (base + (i:Int) * G),D.int (G * G),D.int (1000000000000 * G + G)] kind=some (.int y):=by
  have h:kind=0 ∨ kind=1 ∨ kind=2 ∨ kind=3 ∨ kind=4 ∨ kind=5 ∨ kind=6:=by omega
  rcases h with h | h | h | h | h | h | h <;> subst h
  ·exact ⟨_,⟨by omega,by omega⟩,rfl⟩
  ·exact ⟨_,⟨by omega,by omega⟩,rfl⟩
  ·exact ⟨_,⟨by omega,by omega⟩,rfl⟩
  ·exact ⟨_,⟨m4',by omega⟩,rfl⟩
  ·exact ⟨_,⟨by omega,by omega⟩,rfl⟩
  ·exact ⟨_,⟨by omega,by omega⟩,rfl⟩
  ·exact ⟨_,⟨by omega,by omega⟩,rfl⟩
 obtain ⟨y,hy,hix⟩:=hix
 have hev:=xa (r1:=r1) (r2:=r2) (r7:=r7) (r8:=r8) (base:=base) (i:=(i:Int)) e1 e2 hG hf1 hf2 (by rw [List.length_map]; exact Nat.lt_trans hl (by decide)) (fun S=>wx (by omega)) (fun S=>rP) (fun S=>fq (.inl sI)) (fun S=>fq (.inl sG)) (fun S=>fq (.inl sB)) (fun S=>fq (.inr sG)) hix
 have hy':okN (if q'=8 then base * G else y):=by
  split
  ·exact ⟨by omega,by omega⟩
  ·exact hy
 have g02:=(g.trans g1).trans g2
 obtain ⟨n,hn⟩:=g02.bx
 refine ⟨_,_,_,_,hev,hy',by rw [List.map_append]; simp [hfl2],⟨n,by rw [List.getElem?_set_ne hfb]; exact hn⟩,fun j hj hl=>?_,by simp; exact g02.len⟩
 rw [List.getElem?_set_ne (by omega)]
 exact g02.oth j hj hl
theorem qC {S0:Sto} {b f:Nat} {kind base:Int} {r1 r2:Option D} (hk:0≤kind∧kind < 7) (hb:1≤base∧base < 10) (hfb:f ≠ b) (hf0:S0.length≤f):∀ (l:List Nat) (S:Sto) (xs:List Int) (r6 r7 r8:Option D),(∀ i ∈ l,i < 16)→Gr b S0 S→S[f]?=some (.lst (xs.map .int))→xs.length + l.length < 1000→(∀ x ∈ xs,okN x)→
  ∃ (ys:List Int) (S':Sto) (r6' r7' r8':Option D),forL (.nm 6) i7 (l.map fun (i:Nat)=>D.int i) [some (.ref b),r1,r2,some (.int kind),some (.int base),some (.ref f),r6,r7,r8] S=.ok (.nx [some (.ref b),r1,r2,some (.int kind),some (.int base),some (.ref f),r6',r7',r8']) S'∧
   ys.length=xs.length + l.length∧(∀ y ∈ ys,okN y)∧S'[f]?=some (.lst (ys.map .int))∧Gr b S0 S'
 | [],S,xs,r6,r7,r8,_,g,hf,_,hx=>⟨xs,S,r6,r7,r8,rfl,rfl,hx,hf,g⟩
 | i :: l,S,xs,r6,r7,r8,hl,g,hf,hz,hx=>by
  rw [List.length_cons] at hz
  obtain ⟨y,S1,r7',r8',e,hy,hf1,g1⟩:=xb (r1:=r1) (r2:=r2) (r7:=r7) (r8:=r8) (hl i List.mem_cons_self) hk hb g hf hfb hf0 (by omega)
  obtain ⟨ys,S2,a6,a7,a8,e2,h1,h2,h3,h4⟩:=qC hk hb hfb hf0 l S1 (xs ++ [y]) (some (.int i)) r7' r8' (fun j hj=>hl j (List.mem_cons_of_mem _ hj)) g1 hf1 (by rw [List.length_append,List.length_cons,List.length_nil]; omega) (fun x h=>by
   rcases List.mem_append.mp h with h | h
   ·exact hx x h
   ·rw [List.mem_singleton.mp h]; exact hy)
  refine ⟨ys,S2,a6,a7,a8,?_,by rw [h1,List.length_append,List.length_cons,List.length_nil,List.length_cons]; omega,h2,h3,h4⟩
  rw [List.map_cons,forL]
  simp only [G.put,List.set_cons_zero,List.set_cons_succ,e,R.bind_ok]
  exact e2
theorem Bv {S:Sto} {b:Nat} {most:Int} (g:Gr b S S) (hm:0≤most∧most≤16):∃ (xs:List Int) (S':Sto),fB [.ref b,.int most] S=.ok (.tup (xs.map .int)) S'∧(xs.length:Int)≤most∧(∀ x ∈ xs,okN x)∧Gr b S S':=by
 obtain ⟨many,S1,e1,a0,a1,g1⟩:=ic g (many:=most + 1) (by omega) (by omega)
 obtain ⟨kind,S2,e2,b0,b1,g2⟩:=ic g1.self (many:=7) (by decide) (by decide)
 obtain ⟨bs,S3,e3,c0,c1,g3⟩:=ic g2.self (many:=9) (by decide) (by decide)
 have gs:=(g1.trans g2).trans g3
 obtain ⟨n0,hn0⟩:=gs.bx
 have hb3:b < S3.length:=(List.getElem?_eq_some_iff.mp hn0).1
 obtain ⟨ys,S4,r6,r7,r8,e4,h1,h2,h3,h4⟩:=qC (S0:=S) (b:=b) (f:=S3.length) (kind:=kind) (base:=1 + bs) (r1:=some (.int most)) (r2:=some (.int many)) ⟨b0,b1⟩ ⟨by omega,by omega⟩ (by omega) gs.len (List.range many.toNat) (S3 ++ [.lst []]) [] none none none (fun i hi=>by have:=List.mem_range.mp hi; omega) (gs.more _) (by simp) (by simp; omega) (fun x h=>nomatch h)
 refine ⟨ys,S4,?_,by rw [h1]; simp; omega,h2,h4⟩
 have z0:(0:Nat)≤sizeLine:=Nat.zero_le _
 have hr:many < 2 ^ 62∧-(2 ^ 62)≤many:=⟨by omega,by omega⟩
 simp only [fB,fnM,jA,aA,aQ,fJ,dH,eNew,au,eOp,ae,eC,ab,ak,R.bind,R.of,bO,e1,e2,e3,List.map_cons,List.map_nil,List.length_cons,List.length_nil,List.cons_append,List.nil_append,Nat.reduceAdd,Nat.reduceSub,List.replicate,List.getElem?_cons_zero,List.getElem?_cons_succ,List.set_cons_zero,List.set_cons_succ,z0,if_true,hr,and_self]
 rw [show (aA (aQ 7 (eOp bO (eC (.int 1)) (au aK (ab (ae 0) (ab (eC (.int 12)) ak))))) _)=i7 from rfl,e4]
 simp only [aO,eB,ab,ak,ae,R.bind,R.of,List.getElem?_cons_zero,List.getElem?_cons_succ,jw,bg,h3,Option.map_some]
def yU:D→Bool
 | .fz _=>false
 | .ref _=>false
 | .ty _=>false
 | .exc _=>false
 | .cls _=>false
 | _=>true
def isI:D→Bool
 | .int _=>true
 | _=>false
theorem qD {d:D} {S:Sto} (h:yU d=true):aW [d] S=.ok (.bl (isI d)) S:=by
 cases d <;> first | (cases h; done) | (simp [aW,fnM,jz,aO,iy,AJ,eB,ae,eC,ab,ak,R.bind,R.of,gL,tyD,fK,isI])
def tD:D→Bool
 | .int i=>decide (1≤i)
 | _=>false
theorem gp {A:Type} (f:A→Bool):∀ xs:List A,boolsOf (xs.map fun x=>D.bl (f x))=some (xs.map f)
 | []=>rfl
 | x :: xs=>by rw [List.map_cons,boolsOf,gp f xs]; rfl
theorem nU {e:EM} {f:D→Bool} {tl:Rho}:∀ (xs:List D) (r0:Option D) (S:Sto),(∀ x ∈ xs,e (some x :: tl) S=.ok (.bl (f x)) S)→eV (.nm 0) cA e xs (r0 :: tl) S=.ok (xs.map fun x=>D.bl (f x)) S
 | [],_,_,_=>rfl
 | x :: xs,r0,S,h=>by
  have h1:=h x List.mem_cons_self
  have h2:=nU xs (some x) S fun y hy=>h y (List.mem_cons_of_mem _ hy)
  rw [eV]
  simp only [G.put,List.set_cons_zero,cA,R.bind_ok,if_true,h1,h2,List.map_cons]
def nV:D→Bool
 | .tup xs=>decide (xs.length≤16) && xs.all tD
 | _=>false
def Bw (d:D):Prop:=yU d=true∧∀ xs,d=.tup xs→(∀ x ∈ xs,yU x=true)∧xs.length≤1000
theorem By {x:D} {S:Sto} (h:yU x=true):(iy (au aW (ab (ae 0) ak)) (eOp oGe (ae 0) (eC (.int 1)))) [some x] S=.ok (.bl (tD x)) S:=by
 have:=qD (S:=S) h
 cases x <;> first | (cases h; done) | (simp [iy,au,eOp,ae,eC,ab,ak,R.bind,R.of,this,isI,tD,lK])
theorem xc {d:D} {S:Sto} (h:Bw d):fF [d] S=.ok (.bl (nV d)) S:=by
 cases d with
 | tup xs=>
  obtain ⟨hs,hl⟩:=h.2 xs rfl
  have hc:=nU (tl:=[]) (f:=tD) xs none S fun x hx=>By (hs x hx)
  have z:xs.length≤sizeLine:=Nat.le_trans hl (by decide)
  by_cases h16:xs.length≤16
  ·have h16':¬ (16:Int) < (xs.length:Int):=by omega
   simp only [fF,fnM,iN,aA,sIf,aO,aV,PD.tOr,PD.dG,tV,eB,bF,cz,bJ,fN,eOp,ae,eC,ab,ak,R.bind,R.of,gL,tyD,et,bg,lK,gi,List.map_cons,List.map_nil,List.length_cons,List.length_nil,List.replicate,List.cons_append,List.nil_append,List.append_nil,Nat.reduceAdd,Nat.reduceSub,List.getElem?_cons_zero,h16',decide_false,Bool.false_eq_true,if_false,z,if_true,hc,gp,Option.map_some,nV,h16,decide_true,Bool.true_and]
   simp [fK]
   simp [z,hc,gp,gi,R.of,R.bind,aO,eB,ab]
  ·have h16':(16:Int) < (xs.length:Int):=by omega
   simp [fF,fnM,iN,aA,sIf,aO,aV,PD.tOr,PD.dG,tV,eB,eOp,ae,eC,ab,ak,R.bind,R.of,gL,tyD,et,bg,lK,fK,nV,h16,h16']
 | _=>first | (cases h.1; done) | (simp [fF,fnM,iN,aA,sIf,aO,aV,PD.tOr,PD.dG,tV,eB,eOp,ae,eC,ab,ak,R.bind,R.of,gL,tyD,fK,nV])
theorem ie {S:Sto} {i j:Int}:eu S (.int i) (.int j)=some (.bl (!decide (i=j))):=rfl
theorem mw {S:Sto} {i j:Int}:fE S (.int i) (.int j)=some (.bl (decide (i=j))):=rfl
theorem av {a b:SM} {r r1:Rho} {S S1:Sto} (h:a r S=.ok (.nx r1) S1):aA a b r S=b r1 S1:=by
 unfold aA
 rw [h]
 rfl
def Row (xs:List Int):Prop:=(∀ x ∈ xs,1≤x)∧xs.length≤16
theorem vb {xs:List Int} (h:xs.length≤1000):Bw (.tup (xs.map .int)):=⟨rfl,fun ys e=>by
 cases e
 refine ⟨fun x hx=>?_,by rw [List.length_map]; exact h⟩
 obtain ⟨i,_,rfl⟩:=List.mem_map.mp hx
 rfl⟩
theorem Row.okay {xs:List Int} (h:Row xs):Bw (.tup (xs.map .int)):=vb (by have:=h.2; omega)
theorem Row.is {xs:List Int} (h:Row xs):nV (.tup (xs.map .int))=true:=by
 unfold nV
 rw [Bool.and_eq_true]
 refine ⟨by rw [List.length_map]; exact decide_eq_true h.2,List.all_eq_true.mpr fun x hx=>?_⟩
 obtain ⟨i,hi,rfl⟩:=List.mem_map.mp hx
 exact decide_eq_true (h.1 i hi)
theorem ig {it:AM} {g:PD.G} {b:SM} {r:Rho} {S S1:Sto} {xs:List D} (h:it r S=.ok xs S1):fJ it g b r S=forL g b xs r S1:=by unfold fJ; rw [h,R.bind_ok]
theorem bb {n:Nat} {b:SM} {ds:List D} {ρ:Rho} {S S1:Sto} {d:D} (hρ:ds.map some ++ List.replicate (n - ds.length) none = ρ) (h:b ρ S=.ok (.rt d) S1):fnM n b ds S=.ok d S1:=by unfold fnM; rw [hρ,h,R.bind_ok]
theorem pk {n:Nat} {b:SM} {ds:List D} {ρ ρ':Rho} {S S1:Sto} (hρ:ds.map some ++ List.replicate (n - ds.length) none = ρ) (h:b ρ S=.ok (.nx ρ') S1):fnM n b ds S=.ok .non S1:=by unfold fnM; rw [hρ,h,R.bind_ok]
theorem tE {a b:SM} {r:Rho} {S S1:Sto} {d:D} (h:a r S=.ok (.rt d) S1):aA a b r S=.ok (.rt d) S1:=by unfold aA; rw [h,R.bind_ok]
theorem aS {i:Nat} {a:EM} {r:Rho} {S S1:Sto} {d:D} (h:a r S=.ok d S1):aQ i a r S=.ok (.nx (r.set i (some d))) S1:=by unfold aQ; rw [h,R.bind_ok]
theorem aR {a:EM} {r:Rho} {S S1:Sto} {d:D} (h:a r S=.ok d S1):aO a r S=.ok (.rt d) S1:=by unfold aO; rw [h,R.bind_ok]
theorem qE {t:TM} {a b:SM} {r:Rho} {S S1:Sto} (h:t r S=.ok true S1):sIf t a b r S=a r S1:=by unfold sIf; rw [h,R.bind_ok]; exact if_pos rfl
theorem cP {t:TM} {a b:SM} {r:Rho} {S S1:Sto} (h:t r S=.ok false S1):sIf t a b r S=b r S1:=by unfold sIf; rw [h,R.bind_ok]; exact if_neg Bool.false_ne_true
theorem bA {a:EM} {r:Rho} {S S1:Sto} {d:D} (h:a r S=.ok d S1):bE a r S=.ok (.nx r) S1:=by unfold bE; rw [h,R.bind_ok]
theorem cv {g:PD.G} {b:SM} {x:D} {xs:List D} {r r1 r2:Rho} {S S1:Sto} (hp:g.put x r=some r1) (h:b r1 S=.ok (.nx r2) S1):forL g b (x :: xs) r S=forL g b xs r2 S1:=by rw [forL]; simp only [hp,h,R.bind_ok]
theorem aw {f:FM} {t:AM} {r:Rho} {S S1:Sto} {xs:List D} (h:t r S=.ok xs S1):au f t r S=f xs S1:=by unfold au; rw [h,R.bind_ok]
theorem gf {a:EM} {g:PD.G} {b:SM} {r:Rho} {S S1:Sto} {d:D} {xs:List D} (h:a r S=.ok d S1) (hi:bJ S1 d=some xs):fJ (cz a bJ) g b r S=forL g b xs r S1:=ig (by unfold cz; rw [h,R.bind_ok,hi]; rfl)
theorem ax {f:Sto→D→D→Option D} {a b:EM} {r:Rho} {S S1 S2:Sto} {x y z:D} (h1:a r S=.ok x S1) (h2:b r S1=.ok y S2) (h3:f S2 x y=some z):eOp f a b r S=.ok z S2:=by unfold eOp; rw [h1,R.bind_ok,h2,R.bind_ok,h3]; rfl
theorem bW {f:Sto→List D→Option D} {t:AM} {r:Rho} {S S1:Sto} {xs:List D} {z:D} (h1:t r S=.ok xs S1) (h3:f S1 xs=some z):eB f t r S=.ok z S1:=by unfold eB; rw [h1,R.bind_ok,h3]; rfl
theorem ag {a:EM} {t:AM} {r:Rho} {S S1 S2:Sto} {x:D} {xs:List D} (h1:a r S=.ok x S1) (h2:t r S1=.ok xs S2):ab a t r S=.ok (x :: xs) S2:=by unfold ab; rw [h1,R.bind_ok,h2,R.bind_ok]
theorem bw {a:EM} {r:Rho} {S S1:Sto} {b:Bool} (h:a r S=.ok (.bl b) S1):tV a r S=.ok b S1:=by unfold tV; rw [h,R.bind_ok]
theorem dP {a:TM} {r:Rho} {S S1:Sto} {b:Bool} (h:a r S=.ok b S1):PD.dG a r S=.ok (!b) S1:=by unfold PD.dG; rw [h,R.bind_ok]
theorem pq {f:Sto→D→List D→R D} {o:EM} {t:AM} {r:Rho} {S S1 S2:Sto} {x:D} {ys:List D} (h1:o r S=.ok x S1) (hl:isL S1 x=true) (h2:t r S1=.ok ys S2):ko f o t r S=f S2 x ys:=by unfold ko; rw [h1,R.bind_ok,if_pos hl,h2,R.bind_ok]
theorem zG {t:TM} {a b:EM} {r:Rho} {S S1:Sto} (h:t r S=.ok true S1):eIf t a b r S=a r S1:=by unfold eIf; rw [h,R.bind_ok]; exact if_pos rfl
theorem zH {t:TM} {a b:EM} {r:Rho} {S S1:Sto} (h:t r S=.ok false S1):eIf t a b r S=b r S1:=by unfold eIf; rw [h,R.bind_ok]; exact if_neg Bool.false_ne_true
theorem xf {n:Int} (h0:0≤n) (h:n≤100000):n < 2 ^ 62∧-(2 ^ 62)≤n:=⟨by omega,by omega⟩
theorem qF {t:AM} {r:Rho} {S S1:Sto} {m:Int} (h:t r S=.ok [.int m] S1) (h0:0≤m) (h1:m≤100000):dH t r S=.ok ((List.range m.toNat).map fun (i:Nat)=>D.int i) S1:=by
 have hr:=xf h0 h1
 simp only [dH,h,R.bind,if_pos hr]
theorem jB {t:AM} {r:Rho} {S S1:Sto} {n:Nat} (h:t r S=.ok [.int (n:Int)] S1) (hn:n≤100000):dH t r S=.ok ((List.range n).map fun (i:Nat)=>D.int i) S1:=
 qF h (Int.natCast_nonneg n) (Int.ofNat_le.mpr hn)
theorem ip:∀ xs:List Int,intsOf (xs.map .int)=some xs
 | []=>rfl
 | x :: xs=>by rw [List.map_cons,intsOf,ip xs]; rfl
theorem rZ {S:Sto} {xs:List Int}:kT S [.tup (xs.map .int)]=some (.int xs.sum):=by
 simp only [kT,bg,ip,Option.map_some]
theorem Bz {S:Sto} {xs:List Int}:kT S [.lst (xs.map .int)]=some (.int xs.sum):=by
 simp only [kT,bg,ip,Option.map_some]
theorem comp_map {A:Type} {enc out:A→D} {e:EM} {tl:Rho} {S:Sto}:∀ (xs:List A) (r0:Option D),(∀ x ∈ xs,e (some (enc x) :: tl) S=.ok (out x) S)→eV (.nm 0) cA e (xs.map enc) (r0 :: tl) S=.ok (xs.map out) S
 | [],_,_=>rfl
 | x :: xs,r0,h=>by
  have h1:=h x List.mem_cons_self
  have h2:=comp_map (out:=out) xs (some (enc x)) fun y hy=>h y (List.mem_cons_of_mem _ hy)
  rw [List.map_cons,eV]
  simp only [G.put,List.set_cons_zero,cA,R.bind_ok,if_true,h1,h2,List.map_cons]
theorem eU {A:Type} {enc out:A→D} {e:EM} {it:AM} {caps:List Nat} {tl r:Rho} {S:Sto} (xs:List A) (hi:it r S=.ok (xs.map enc) S) (hl:xs.length≤sizeLine) (hc:caps.map (fun i=>(r[i]?).join)=tl) (h:∀ x ∈ xs,e (some (enc x) :: tl) S=.ok (out x) S):bF it 1 caps (.nm 0) cA e r S=.ok (.lst (xs.map out)) S:=by
 unfold bF
 rw [hi,R.bind_ok,if_pos (by rw [List.length_map]; exact hl)]
 have:fN 1 caps r=none :: tl:=by unfold fN; rw [hc]; rfl
 rw [this,comp_map (out:=out) xs none h,R.bind_ok]
theorem qG {A:Type} {enc out:A→D} {p:A→Bool} {t:TM} {e:EM} {tl:Rho} {S:Sto}:∀ (xs:List A) (r0:Option D),(∀ x ∈ xs,t (some (enc x) :: tl) S=.ok (p x) S)→(∀ x ∈ xs,p x=true→e (some (enc x) :: tl) S=.ok (out x) S)→eV (.nm 0) t e (xs.map enc) (r0 :: tl) S=.ok ((xs.filter p).map out) S
 | [],_,_,_=>rfl
 | x :: xs,r0,ht,h=>by
  have h0:=ht x List.mem_cons_self
  have h2:=qG (out:=out) xs (some (enc x)) (fun y hy=>ht y (List.mem_cons_of_mem _ hy)) fun y hy=>h y (List.mem_cons_of_mem _ hy)
  rw [List.map_cons,eV]
  cases hp:p x with
  | true=>
   have h1:=h x List.mem_cons_self hp
   rw [hp] at h0
   simp only [G.put,List.set_cons_zero,R.bind_ok,if_true,h0,h1,h2,List.map_cons,List.filter_cons,hp]
  | false=>
   rw [hp] at h0
   simp only [G.put,List.set_cons_zero,R.bind_ok,h0,h2,List.filter_cons,hp,Bool.false_eq_true,if_false]
theorem vc {A:Type} {enc out:A→D} {p:A→Bool} {t:TM} {e:EM} {it:AM} {caps:List Nat} {tl r:Rho} {S:Sto} (xs:List A) (hi:it r S=.ok (xs.map enc) S) (hl:xs.length≤sizeLine) (hc:caps.map (fun i=>(r[i]?).join)=tl) (ht:∀ x ∈ xs,t (some (enc x) :: tl) S=.ok (p x) S) (h:∀ x ∈ xs,p x=true→e (some (enc x) :: tl) S=.ok (out x) S):bF it 1 caps (.nm 0) t e r S=.ok (.lst ((xs.filter p).map out)) S:=by
 unfold bF
 rw [hi,R.bind_ok,if_pos (by rw [List.length_map]; exact hl)]
 have:fN 1 caps r=none :: tl:=by unfold fN; rw [hc]; rfl
 rw [this,qG (out:=out) xs none ht h,R.bind_ok]
theorem qH {A:Type} {x1 x2:A→D} {out:A→D} {e:EM} {tl:Rho} {S:Sto}:∀ (xs:List A) (r0 r1:Option D),(∀ x ∈ xs,e (some (x1 x) :: some (x2 x) :: tl) S=.ok (out x) S)→eV (.tp [.nm 0,.nm 1]) cA e (xs.map fun x=>.tup [x1 x,x2 x]) (r0 :: r1 :: tl) S=.ok (xs.map out) S
 | [],_,_,_=>rfl
 | x :: xs,r0,r1,h=>by
  have h1:=h x List.mem_cons_self
  have h2:=qH (out:=out) xs (some (x1 x)) (some (x2 x)) fun y hy=>h y (List.mem_cons_of_mem _ hy)
  rw [List.map_cons,eV]
  simp only [G.put,G.puts,List.set_cons_zero,List.set_cons_succ,cA,R.bind_ok,if_true,h1,h2,List.map_cons]
theorem ve {A:Type} {x1 x2:A→D} {out:A→D} {e:EM} {it:AM} {caps:List Nat} {tl r:Rho} {S:Sto} (xs:List A) (hi:it r S=.ok (xs.map fun x=>.tup [x1 x,x2 x]) S) (hl:xs.length≤sizeLine) (hc:caps.map (fun i=>(r[i]?).join)=tl) (h:∀ x ∈ xs,e (some (x1 x) :: some (x2 x) :: tl) S=.ok (out x) S):bF it 2 caps (.tp [.nm 0,.nm 1]) cA e r S=.ok (.lst (xs.map out)) S:=by
 unfold bF
 rw [hi,R.bind_ok,if_pos (by rw [List.length_map]; exact hl)]
 have:fN 2 caps r=none :: none :: tl:=by unfold fN; rw [hc]; rfl
 rw [this,qH (out:=out) xs none none h,R.bind_ok]
theorem iU {i:Nat} {r:Rho} {S:Sto} {d:D} {xs:List D} (h:r[i]?=some (some d)) (hx:bJ S d=some xs):cz (ae i) bJ r S=.ok xs S:=by
 unfold cz ae
 rw [h]
 show R.bind (.ok d S) _=_
 rw [R.bind_ok,hx]; rfl
theorem af {i:Nat} {r:Rho} {S:Sto} {d:D} (h:r[i]?=some (some d)):ae i r S=.ok d S:=by
 unfold ae; rw [h]
theorem gq {t:AM} {r:Rho} {S S1:Sto} {xs:List D} (h:t r S=.ok xs S1) (hl:xs.length≤sizeLine):gz t r S=.ok (.tup xs) S1:=by unfold gz; rw [h,R.bind_ok,if_pos hl]
theorem i8 {t:AM} {r:Rho} {S S1:Sto} {xs:List D} (h:t r S=.ok xs S1) (hl:xs.length≤sizeLine):gJ t r S=.ok (.lst xs) S1:=by unfold gJ; rw [h,R.bind_ok,if_pos hl]
theorem jC {a b:EM} {r:Rho} {S S1:Sto} (h:a r S=.ok (.bl true) S1):iy a b r S=b r S1:=by unfold iy; rw [h,R.bind_ok]
theorem zI {a b:EM} {r:Rho} {S S1:Sto} (h:a r S=.ok (.bl true) S1):eOr a b r S=.ok (.bl true) S1:=by unfold eOr; rw [h,R.bind_ok]
theorem CQ {a b:EM} {r:Rho} {S S1:Sto} (h:a r S=.ok (.bl false) S1):eOr a b r S=b r S1:=by unfold eOr; rw [h,R.bind_ok]
theorem jr {a b:TM} {r:Rho} {S S1:Sto} (h:a r S=.ok false S1):PD.tOr a b r S=b r S1:=by unfold PD.tOr; rw [h,R.bind_ok]; exact if_neg Bool.false_ne_true
theorem fH {A:Type} {S:Sto} {f:A→Bool} {xs:List A}:gi S [.lst (xs.map fun x=>D.bl (f x))]=some (.bl (xs.all f)):=by
 show Option.map (fun bs=>D.bl (bs.all id)) (boolsOf (xs.map fun x=>D.bl (f x)))=_
 rw [gp,Option.map_some,List.all_map]
 rfl
def Wo (K:List Int):List Int→Int→Prop
 | [],v=>v=0
 | x :: xs,v=>∃ q ∈ K,Wo K xs (v - x * q)
abbrev KP:List Int:=[-1,0,1]
abbrev KS:List Int:=[-1,1]
def wor:List Int→List Int→Int
 | x :: xs,q :: p=>x * q + wor xs p
 | _,_=>0
def ext (K:List Int) (f:List (List Int)):List (List Int):=f.flatMap fun p=>K.map fun k=>p ++ [k]
def cN (K:List Int):Nat→List (List Int)
 | 0=>[[]]
 | n + 1=>ext K (cN K n)
theorem d8 {K:List Int}:∀ (n:Nat) (p:List Int),p ∈ cN K n↔p.length=n∧∀ q ∈ p,q ∈ K
 | 0,p=>by
  simp only [cN,List.mem_singleton]
  constructor
  ·rintro rfl; exact ⟨rfl,fun q h=>nomatch h⟩
  ·rintro ⟨h,_⟩; exact List.length_eq_zero_iff.mp h
 | n + 1,p=>by
  simp only [cN,ext,List.mem_flatMap,List.mem_map]
  constructor
  ·rintro ⟨p',h',k,hk,rfl⟩
   obtain ⟨h1,h2⟩:=(d8 n p').mp h'
   refine ⟨by simp [h1],fun q hq=>?_⟩
   rcases List.mem_append.mp hq with hq | hq
   ·exact h2 q hq
   ·rw [List.mem_singleton.mp hq]; exact hk
  ·rintro ⟨h1,h2⟩
   have hne:p ≠ []:=fun h=>by rw [h] at h1; cases h1
   refine ⟨p.dropLast,(d8 n _).mpr ⟨by rw [List.length_dropLast,h1]; rfl,fun q hq=>h2 q ((List.dropLast_sublist p).subset hq)⟩,p.getLast hne,h2 _ (List.getLast_mem hne),List.dropLast_concat_getLast hne⟩
theorem se {K:List Int}:∀ (xs:List Int) (v:Int),Wo K xs v↔∃ p,(p.length=xs.length∧∀ q ∈ p,q ∈ K)∧wor xs p=v
 | [],v=>by
  constructor
  ·intro h; exact ⟨[],⟨rfl,fun q h=>nomatch h⟩,(show v=0 from h).symm⟩
  ·rintro ⟨p,⟨h,_⟩,e⟩
   cases List.length_eq_zero_iff.mp h
   exact e.symm
 | x :: xs,v=>by
  constructor
  ·rintro ⟨q,hq,h⟩
   obtain ⟨p,⟨h1,h2⟩,e⟩:=(se xs _).mp h
   refine ⟨q :: p,⟨by simp [h1],fun r hr=>?_⟩,by show x * q + wor xs p=v; omega⟩
   rcases List.mem_cons.mp hr with rfl | hr
   ·exact hq
   ·exact h2 r hr
  ·rintro ⟨p,⟨h1,h2⟩,e⟩
   cases p with
   | nil=>cases h1
   | cons q p=>
    refine ⟨q,h2 q (.head _),(se xs _).mpr ⟨p,⟨by simpa using h1,fun r hr=>h2 r (.tail _ hr)⟩,?_⟩⟩
    have e':x * q + wor xs p=v:=e
    omega
theorem jD {K xs:List Int} {v:Int}:Wo K xs v↔∃ p ∈ cN K xs.length,wor xs p=v:=by
 rw [se]
 constructor
 ·rintro ⟨p,h,e⟩; exact ⟨p,(d8 _ _).mpr h,e⟩
 ·rintro ⟨p,h,e⟩; exact ⟨p,(d8 _ _).mp h,e⟩
theorem tF (K:List Int):∀ f:List (List Int),(ext K f).length=f.length * K.length
 | []=>by simp [ext]
 | p :: f=>by
  have:=tF K f
  simp only [ext,List.flatMap_cons,List.length_append,List.length_map,List.length_cons] at this ⊢
  rw [this,Nat.succ_mul]; omega
theorem j6 (K:List Int):∀ n,(cN K n).length=K.length ^ n
 | 0=>rfl
 | n + 1=>by rw [cN,tF,j6 K n,Nat.pow_succ]
abbrev tupI (xs:List Int):D:=.tup (xs.map .int)
abbrev allB:SM:=(aA (aQ 4 (gJ ak)) (aA (fJ (cz (ae 2) bJ) (.nm 5) (aQ 4 (eOp bO (ae 4) (bF (cz (ae 1) bJ) 1 [5] (.nm 0) cA (eOp bO (ae 1) (gz (ab (ae 0) ak))))))) (aQ 2 (ae 4))))
abbrev Ds:SM:=(aQ 4 (eOp bO (ae 4) (bF (cz (ae 1) bJ) 1 [5] (.nm 0) cA (eOp bO (ae 1) (gz (ab (ae 0) ak))))))
theorem BA {S:Sto} {a b:List D} (h:a.length + b.length≤sizeLine):bO S (.lst a) (.lst b)=some (.lst (a ++ b)):=if_pos h
theorem xg {S:Sto} {a b:List D} (h:a.length + b.length≤sizeLine):bO S (.tup a) (.tup b)=some (.tup (a ++ b)):=if_pos h
theorem ext_cons (K:List Int) (p:List Int) (f:List (List Int)):ext K (p :: f)=(K.map fun k=>p ++ [k]) ++ ext K f:=by simp [ext]
theorem nW {K:List Int} (hK:K.length≤3) {S:Sto} (r0 r2 r3:Option D):∀ (f acc:List (List Int)) (r5:Option D),acc.length + f.length * K.length≤1000→(∀ p ∈ f,p.length≤100)→∃ r5':Option D,forL (.nm 5) Ds (f.map tupI) [r0,some (tupI K),r2,r3,some (.lst (acc.map tupI)),r5] S=.ok (.nx [r0,some (tupI K),r2,r3,some (.lst ((acc ++ ext K f).map tupI)),r5']) S
 | [],acc,r5,_,_=>⟨r5,by simp [forL,ext]⟩
 | p :: f,acc,r5,h,hp=>by
  have z:(1000:Nat)≤sizeLine:=by decide
  have z1:(1:Nat)≤sizeLine:=by decide
  have hm:(p :: f).length * K.length=f.length * K.length + K.length:=by rw [List.length_cons,Nat.succ_mul]
  have hpl:=hp p (.head _)
  obtain ⟨r5',e⟩:=nW hK (S:=S) r0 r2 r3 f (acc ++ K.map fun k=>p ++ [k]) (some (tupI p)) (by rw [List.length_append,List.length_map]; omega) fun q hq=>hp q (.tail _ hq)
  refine ⟨r5',?_⟩
  have hc:bF (cz (ae 1) bJ) 1 [5] (.nm 0) cA (eOp bO (ae 1) (gz (ab (ae 0) ak))) [r0,some (tupI K),r2,r3,some (.lst (acc.map tupI)),some (tupI p)] S=.ok (.lst (K.map fun k=>tupI (p ++ [k]))) S:=
   eU (enc:=D.int) (tl:=[some (tupI p)]) K (iU rfl rfl) (by omega) rfl fun k hk=>by
    refine ax (af rfl) (gq (ag (af rfl) rfl) z1) ?_
    rw [xg (by simp; omega)]
    simp
  have h2:bO S (.lst (acc.map tupI)) (.lst (K.map fun k=>tupI (p ++ [k])))=some (.lst ((acc ++ K.map fun k=>p ++ [k]).map tupI)):=by
   rw [BA (by simp; omega),List.map_append,List.map_map]; rfl
  rw [List.map_cons,ext_cons,← List.append_assoc]
  exact (cv (r1:=[r0,some (tupI K),r2,r3,some (.lst (acc.map tupI)),some (tupI p)]) rfl (aS (ax (af rfl) hc h2))).trans e
theorem nX {K:List Int} (hK:K.length≤3) {S:Sto} (r0:Option D):∀ (m i:Nat) (r3 r4 r5:Option D),i + m≤6→∃ r3' r4' r5':Option D,forL (.nm 3) allB ((List.range' i m).map fun (i:Nat)=>D.int i) [r0,some (tupI K),some (.lst ((cN K i).map tupI)),r3,r4,r5] S=.ok (.nx [r0,some (tupI K),some (.lst ((cN K (i + m)).map tupI)),r3',r4',r5']) S
 | 0,i,r3,r4,r5,_=>⟨r3,r4,r5,rfl⟩
 | m + 1,i,r3,r4,r5,h=>by
  have hl:=j6 K i
  have hle:(cN K i).length * K.length≤1000:=by
   have h0:K.length ^ i * K.length=K.length ^ (i + 1):=(Nat.pow_succ ..).symm
   rw [hl,h0]
   have h1:K.length ^ (i + 1)≤3 ^ (i + 1):=Nat.pow_le_pow_left hK _
   have h2:3 ^ (i + 1)≤3 ^ 6:=Nat.pow_le_pow_right (by decide) (by omega)
   exact Nat.le_trans h1 (Nat.le_trans h2 (by decide))
  obtain ⟨x5,e1⟩:=nW hK (S:=S) r0 (some (.lst ((cN K i).map tupI))) (some (.int i)) (cN K i) [] r5 (by simp; omega) fun p hp=>by
   have:=((d8 i p).mp hp).1; omega
  obtain ⟨y3,y4,y5,e2⟩:=nX hK (S:=S) r0 m (i + 1) (some (.int i)) (some (.lst ((cN K (i + 1)).map tupI))) x5 (by omega)
  refine ⟨y3,y4,y5,?_⟩
  rw [List.range'_succ,List.map_cons]
  rw [List.nil_append] at e1
  have st:allB [r0,some (tupI K),some (.lst ((cN K i).map tupI)),some (.int i),r4,r5] S=.ok (.nx [r0,some (tupI K),some (.lst ((cN K (i + 1)).map tupI)),some (.int i),some (.lst ((cN K (i + 1)).map tupI)),x5]) S:=
   (av (aS (i8 rfl (Nat.zero_le _)))).trans ((av ((gf (af rfl) rfl).trans e1)).trans (aS (af rfl)))
  have:=(cv (g:=.nm 3) (x:=D.int i) (xs:=(List.range' (i + 1) m).map fun (i:Nat)=>D.int i) (r:=[r0,some (tupI K),some (.lst ((cN K i).map tupI)),r3,r4,r5]) (r1:=[r0,some (tupI K),some (.lst ((cN K i).map tupI)),some (.int i),r4,r5]) rfl st).trans e2
  rw [show i + (m + 1)=i + 1 + m by omega]
  exact this
theorem all_eq {K:List Int} (hK:K.length≤3) {n:Nat} (hn:n≤6) {S:Sto}:gc [.int n,tupI K] S=.ok (.lst ((cN K n).map tupI)) S:=by
 have z1:(1:Nat)≤sizeLine:=by decide
 obtain ⟨r3,r4,r5,e⟩:=nX hK (S:=S) (some (.int n)) n 0 none none none (by omega)
 rw [← List.range_eq_range',Nat.zero_add] at e
 have h0:gJ (ab (gz ak) ak) [some (.int n),some (tupI K),none,none,none,none] S=.ok (.lst ((cN K 0).map tupI)) S:=i8 (ag (gq rfl (Nat.zero_le _)) rfl) z1
 exact bb (ρ:=[some (.int n),some (tupI K),none,none,none,none]) rfl ((av (aS h0)).trans ((av ((ig (jB (n:=n) (ag (af rfl) rfl) (by omega))).trans e)).trans (aR (af rfl))))
theorem nY (kvs:List (KD × D)) (k:KD):(cU kvs k).isSome=kvs.any fun kv=>decide (kv.1=k):=by
 unfold cU
 rw [Option.isSome_map,Bool.eq_iff_iff,List.find?_isSome,List.any_eq_true]
theorem qI {o a b:EM} {r:Rho} {S S1 S2 S3:Sto} {d y z:D} {kvs kvs':List (KD × D)} {k:KD} (ho:o r S=.ok d S1) (hd:du S1 d=some kvs) (ha:a r S1=.ok y S2) (hb:b r S2=.ok z S3) (hd3:du S3 d=some kvs') (hk:gN y=some k):ji o a b r S=.ok ((cU kvs' k).getD z) S3:=by
 unfold ji
 rw [ho,R.bind_ok]
 simp only [hd,Option.isSome_some,if_true,ha,R.bind_ok,hb,hd3,hk]
theorem yV {f:Sto→D→D→D→Option Sto} {e o i:EM} {r:Rho} {S S1 S2 S3 S4:Sto} {v x y:D} (he:e r S=.ok v S1) (ho:o r S1=.ok x S2) (hi:i r S2=.ok y S3) (hf:f S3 x y v=some S4):pZ f e o i r S=.ok (.nx r) S4:=by
 unfold pZ
 rw [he,R.bind_ok,ho,R.bind_ok,hi,R.bind_ok,hf]
def fS (K:List Int) (x:Int) (f:List Int):List Int:=f.flatMap fun w=>K.map fun q=>w + q * x
def pT (T:List (Int × Int)) (k c:Int):List (Int × Int):=if T.any (fun e=>decide (e.1=k)) then T.map (fun e=>if e.1=k then (e.1,c) else e) else T ++ [(k,c)]
def gT (T:List (Int × Int)) (k:Int):Int:=((T.find? fun e=>decide (e.1=k)).map (·.2)).getD 0
def sumH (h:Int→Int) (T:List (Int × Int)):Int:=(T.map fun e=>h e.1 * e.2).sum
def Keys (T:List (Int × Int)):Prop:=T.Pairwise fun a b=>a.1 ≠ b.1
theorem dQ (h:Int→Int) (e:Int × Int) (T:List (Int × Int)):sumH h (e :: T)=h e.1 * e.2 + sumH h T:=by simp [sumH]
theorem j7 (h:Int→Int):∀ (A B:List (Int × Int)),sumH h (A ++ B)=sumH h A + sumH h B
 | [],B=>by simp [sumH]
 | e :: A,B=>by rw [List.cons_append,dQ,dQ,j7 h A B]; omega
theorem xh {T:List (Int × Int)} {k:Int} (h:T.any (fun e=>decide (e.1=k))=false):gT T k=0:=by
 unfold gT
 have:(T.find? fun e=>decide (e.1=k))=none:=by
  rw [List.find?_eq_none]
  intro e he hd
  rw [List.any_eq_false] at h
  exact h e he hd
 rw [this]; rfl
theorem xi {T:List (Int × Int)} {k c:Int} (h:∀ e ∈ T,e.1 ≠ k):T.map (fun e=>if e.1=k then (e.1,c) else e)=T:=by
 induction T with
 | nil=>rfl
 | cons e T ih=>
  rw [List.map_cons,if_neg (h e (.head _)),ih fun e he=>h e (.tail _ he)]
theorem tG (e:Int × Int) (T:List (Int × Int)) (k:Int):gT (e :: T) k=if e.1=k then e.2 else gT T k:=by
 unfold gT
 rw [List.find?_cons]
 by_cases h:e.1=k
 ·simp [h]
 ·simp [h]
theorem qJ (h:Int→Int) {k c:Int}:∀ {T:List (Int × Int)},Keys T→T.any (fun e=>decide (e.1=k))=true→sumH h (T.map fun e=>if e.1=k then (e.1,c) else e)=sumH h T + h k * (c - gT T k)
 | [],_,ha=>by simp at ha
 | e :: T,hk,ha=>by
  have hk':=List.pairwise_cons.mp hk
  rw [List.map_cons,dQ,dQ,tG]
  by_cases he:e.1=k
  ·rw [if_pos he,if_pos he,xi fun e' he' h=>hk'.1 e' he' (by rw [he,h])]
   simp only
   rw [he,Int.mul_sub]
   omega
  ·have ha':T.any (fun e=>decide (e.1=k))=true:=by
    simp only [List.any_cons,he,decide_false,Bool.false_or] at ha
    exact ha
   rw [if_neg he,if_neg he,qJ h hk'.2 ha']
   omega
theorem yW (h:Int→Int) {T:List (Int × Int)} (hk:Keys T) (k c:Int):sumH h (pT T k (gT T k + c))=sumH h T + h k * c:=by
 unfold pT
 cases ha:T.any (fun e=>decide (e.1=k)) with
 | true=>
  rw [if_pos rfl,qJ h hk ha,show gT T k + c - gT T k=c by omega]
 | false=>
  rw [if_neg Bool.false_ne_true,j7,xh ha,dQ]
  simp [sumH]
theorem yX {T:List (Int × Int)} (hk:Keys T) (k c:Int):Keys (pT T k c):=by
 unfold pT
 cases ha:T.any (fun e=>decide (e.1=k)) with
 | true=>
  rw [if_pos rfl]
  unfold Keys
  rw [List.pairwise_map]
  refine List.Pairwise.imp (fun {a b} h=>?_) hk
  split <;> split <;> exact h
 | false=>
  rw [if_neg Bool.false_ne_true]
  refine List.pairwise_append.mpr ⟨hk,List.pairwise_singleton _ _,fun a ha' b hb=>?_⟩
  rw [List.mem_singleton.mp hb]
  rw [List.any_eq_false] at ha
  have:=ha a ha'
  simpa using this
theorem BB (T:List (Int × Int)) (k c v:Int):(∃ e ∈ pT T k c,e.1=v)↔(∃ e ∈ T,e.1=v) ∨ v=k:=by
 unfold pT
 cases ha:T.any (fun e=>decide (e.1=k)) with
 | true=>
  rw [if_pos rfl]
  constructor
  ·rintro ⟨e,he,rfl⟩
   obtain ⟨e',he',rfl⟩:=List.mem_map.mp he
   refine .inl ⟨e',he',?_⟩
   split <;> rfl
  ·rintro (⟨e,he,rfl⟩ | rfl)
   ·exact ⟨_,List.mem_map.mpr ⟨e,he,rfl⟩,by split <;> rfl⟩
   ·rw [List.any_eq_true] at ha
    obtain ⟨e,he,hd⟩:=ha
    exact ⟨_,List.mem_map.mpr ⟨e,he,rfl⟩,by split <;> exact of_decide_eq_true hd⟩
 | false=>
  rw [if_neg Bool.false_ne_true]
  constructor
  ·rintro ⟨e,he,rfl⟩
   rcases List.mem_append.mp he with he | he
   ·exact .inl ⟨e,he,rfl⟩
   ·rw [List.mem_singleton.mp he]; exact .inr rfl
  ·rintro (⟨e,he,rfl⟩ | rfl)
   ·exact ⟨e,List.mem_append_left _ he,rfl⟩
   ·exact ⟨(v,c),List.mem_append_right _ (List.mem_singleton.mpr rfl),rfl⟩
theorem BC (T:List (Int × Int)) (k c:Int):(pT T k c).length≤T.length + 1:=by
 unfold pT
 split <;> simp
structure Hist (T:List (Int × Int)) (f:List Int):Prop where
 keys:Keys T
 mem:∀ v,(∃ e ∈ T,e.1=v)↔v ∈ f
 sum:∀ h:Int→Int,sumH h T=(f.map h).sum
 len:T.length≤f.length
theorem Hist.zero:Hist [(0,1)] [0]:=⟨List.pairwise_singleton _ _,fun v=>by simp [eq_comm],fun h=>by simp [sumH],Nat.le_refl _⟩
theorem qK:∀ (a b:List Int),(a ++ b).sum=a.sum + b.sum
 | [],b=>by simp
 | x :: a,b=>by rw [List.cons_append,List.sum_cons,List.sum_cons,qK a b]; omega
structure HistC (T:List (Int × Int)) (L:List (Int × Int)):Prop where
 keys:Keys T
 mem:∀ v,(∃ e ∈ T,e.1=v)↔∃ e ∈ L,e.1=v
 sum:∀ h:Int→Int,sumH h T=sumH h L
 len:T.length≤L.length
theorem HistC.nil:HistC [] []:=⟨List.Pairwise.nil,fun v=>by simp,fun h=>rfl,Nat.le_refl _⟩
theorem HistC.put {T L:List (Int × Int)} (h:HistC T L) (k c:Int):HistC (pT T k (gT T k + c)) (L ++ [(k,c)]):=by
 refine ⟨yX h.keys _ _,fun v=>?_,fun f=>?_,Nat.le_trans (BC _ _ _) (by have:=h.len; simp; omega)⟩
 ·rw [BB,h.mem v]
  constructor
  ·rintro (⟨e,he,e1⟩ | rfl)
   ·exact ⟨e,List.mem_append_left _ he,e1⟩
   ·exact ⟨(v,c),List.mem_append_right _ (List.mem_singleton.mpr rfl),rfl⟩
  ·rintro ⟨e,he,rfl⟩
   rcases List.mem_append.mp he with he | he
   ·exact .inl ⟨e,he,rfl⟩
   ·rw [List.mem_singleton.mp he]; exact .inr rfl
 ·rw [yW f h.keys,h.sum f,j7,dQ]
  simp [sumH]
def fM (K:List Int) (x:Int) (T:List (Int × Int)):List (Int × Int):=T.flatMap fun e=>K.map fun q=>(e.1 + q * x,e.2)
theorem nZ (K:List Int) (x:Int) (h:Int→Int):∀ T:List (Int × Int),sumH h (fM K x T)=sumH (fun y=>(K.map fun q=>h (y + q * x)).sum) T
 | []=>rfl
 | e :: T=>by
  have ih:=nZ K x h T
  unfold fM at ih ⊢
  rw [List.flatMap_cons,j7,dQ,ih]
  congr 1
  have:∀ l:List Int,sumH h (l.map fun q=>(e.1 + q * x,e.2))=(l.map fun q=>h (e.1 + q * x)).sum * e.2:=fun l=>by
   induction l with
   | nil=>simp [sumH]
   | cons q l ih=>rw [List.map_cons,dQ,List.map_cons,List.sum_cons,ih,Int.add_mul]
  exact this K
theorem pz (K:List Int) (x:Int) (h:Int→Int):∀ f:List Int,((fS K x f).map h).sum=(f.map fun y=>(K.map fun q=>h (y + q * x)).sum).sum
 | []=>rfl
 | w :: f=>by
  have ih:=pz K x h f
  unfold fS at ih ⊢
  rw [List.flatMap_cons,List.map_append,qK,ih,List.map_cons,List.sum_cons,List.map_map]
  rfl
theorem sf {K:List Int} {x v:Int} {f:List Int}:v ∈ fS K x f↔∃ w ∈ f,∃ q ∈ K,w + q * x=v:=by
 simp only [fS,List.mem_flatMap,List.mem_map]
theorem kA (K:List Int) (x:Int):∀ f:List Int,(fS K x f).length=f.length * K.length
 | []=>by simp [fS]
 | w :: f=>by
  have:=kA K x f
  simp only [fS,List.flatMap_cons,List.length_append,List.length_map,List.length_cons] at this ⊢
  rw [this,Nat.succ_mul]; omega
theorem iH (K:List Int) (x:Int):∀ T:List (Int × Int),(fM K x T).length=T.length * K.length
 | []=>by simp [fM]
 | w :: f=>by
  have:=iH K x f
  simp only [fM,List.flatMap_cons,List.length_append,List.length_map,List.length_cons] at this ⊢
  rw [this,Nat.succ_mul]; omega
theorem Hist.step {K:List Int} {x:Int} {T T':List (Int × Int)} {f:List Int} (h:Hist T f) (h':HistC T' (fM K x T)):Hist T' (fS K x f):=by
 refine ⟨h'.keys,fun v=>?_,fun g=>?_,?_⟩
 ·rw [h'.mem v,sf]
  simp only [fM,List.mem_flatMap,List.mem_map]
  constructor
  ·rintro ⟨e,⟨e0,he0,q,hq,rfl⟩,rfl⟩
   exact ⟨e0.1,(h.mem _).mp ⟨e0,he0,rfl⟩,q,hq,rfl⟩
  ·rintro ⟨w,hw,q,hq,rfl⟩
   obtain ⟨e0,he0,rfl⟩:=(h.mem w).mpr hw
   exact ⟨_,⟨e0,he0,q,hq,rfl⟩,rfl⟩
 ·rw [h'.sum g,nZ,h.sum,pz]
 ·have:=h'.len
  rw [iH] at this
  rw [kA]
  exact Nat.le_trans this (Nat.mul_le_mul_right _ h.len)
theorem my {k:Int}:∀ {T:List (Int × Int)},Keys T→sumH (fun y=>if y=k then 1 else 0) T=gT T k
 | [],_=>rfl
 | e :: T,hk=>by
  have hk':=List.pairwise_cons.mp hk
  rw [dQ,tG]
  by_cases he:e.1=k
  ·rw [if_pos he,if_pos he,my hk'.2,xh (by
    rw [List.any_eq_false]
    intro e' he' hd
    exact hk'.1 e' he' (by rw [he,of_decide_eq_true hd]))]
   omega
  ·rw [if_neg he,if_neg he,my hk'.2]; omega
theorem tH (k:Int):∀ f:List Int,(f.map fun y=>if y=k then (1:Int) else 0).sum=(f.filter fun y=>decide (y=k)).length
 | []=>rfl
 | w :: f=>by
  rw [List.map_cons,List.sum_cons,tH k f,List.filter_cons]
  by_cases h:w=k
  ·simp [h]; omega
  ·simp [h]
theorem Hist.get {T:List (Int × Int)} {f:List Int} (h:Hist T f) (k:Int):gT T k=((f.filter fun y=>decide (y=k)).length:Int):=by
 rw [← my h.keys,h.sum,tH]
theorem qL:∀ (xs p:List Int) (x q:Int),p.length=xs.length→wor (xs ++ [x]) (p ++ [q])=wor xs p + q * x
 | [],[],x,q,_=>by show x * q + 0=0 + q * x; rw [Int.mul_comm]; omega
 | y :: xs,r :: p,x,q,h=>by
  show y * r + wor (xs ++ [x]) (p ++ [q])=y * r + wor xs p + q * x
  rw [qL xs p x q (by simpa using h)]; omega
 | [],_ :: _,_,_,h=>by cases h
 | _ :: _,[],_,_,h=>by cases h
def wsL (K:List Int) (xs:List Int):List Int:=(cN K xs.length).map (wor xs)
theorem gU (K xs:List Int) (x:Int):wsL K (xs ++ [x])=fS K x (wsL K xs):=by
 unfold wsL fS
 rw [List.length_append,List.length_cons,List.length_nil]
 show (ext K (cN K xs.length)).map _=_
 unfold ext
 rw [List.map_flatMap,List.flatMap_map]
 have:∀ l:List (List Int),(∀ p ∈ l,p.length=xs.length)→(l.flatMap fun p=>(K.map fun k=>p ++ [k]).map (wor (xs ++ [x])))=l.flatMap fun p=>K.map fun q=>wor xs p + q * x:=fun l=>by
  induction l with
  | nil=>intro _; rfl
  | cons p l ih=>
   intro h
   rw [List.flatMap_cons,List.flatMap_cons,ih fun p hp=>h p (.tail _ hp),List.map_map]
   congr 1
   refine List.map_congr_left fun k _=>?_
   exact qL xs p x k (h p (.head _))
 exact this _ fun p hp=>((d8 _ p).mp hp).1
theorem iq {K xs:List Int} {v:Int}:v ∈ wsL K xs↔Wo K xs v:=by
 rw [jD]
 simp only [wsL,List.mem_map]
theorem j8 (K:List Int) (k:Int):∀ f:List (List Int),ext K (f.map (k :: ·))=(ext K f).map (k :: ·)
 | []=>rfl
 | p :: f=>by
  have ih:=j8 K k f
  unfold ext at ih ⊢
  rw [List.map_cons,List.flatMap_cons,List.flatMap_cons,ih,List.map_append,List.map_map]
  rfl
theorem qM (K:List Int) (g:Int→List (List Int)):∀ l:List Int,ext K (l.flatMap g)=l.flatMap fun k=>ext K (g k)
 | []=>rfl
 | k :: l=>by
  have ih:=qM K g l
  rw [List.flatMap_cons,List.flatMap_cons,← ih]
  unfold ext
  rw [List.flatMap_append]
theorem n4 (K:List Int):∀ n,cN K (n + 1)=K.flatMap fun k=>(cN K n).map (k :: ·)
 | 0=>by
  simp [cN,ext,List.flatMap_cons]
  induction K with
  | nil=>rfl
  | cons k K ih=>simp [List.flatMap_cons,ih]
 | n + 1=>by
  have ih:=n4 K n
  show ext K (cN K (n + 1))=_
  have e:ext K (cN K (n + 1))=ext K (K.flatMap fun k=>(cN K n).map (k :: ·)):=by rw [ih]
  rw [e,qM]
  congr 1
  funext k
  rw [j8]
  rfl
inductive First (K:List Int):List Int→Int→List Int→Prop
 | nil:First K [] 0 []
 | cons {x v q:Int} {xs ys K1 K2:List Int}:K=K1 ++ q :: K2→(∀ k ∈ K1,¬ Wo K xs (v - k * x))→First K xs (v - q * x) ys→First K (x :: xs) v (q :: ys)
theorem First.find {K:List Int}:∀ {xs:List Int} {v:Int} {ys:List Int},First K xs v ys→(cN K xs.length).find? (fun p=>decide (wor xs p=v))=some ys
 | _,_,_,.nil=>rfl
 | _,v,_,.cons (x:=x) (q:=q) (xs:=xs) (ys:=ys) (K1:=K1) (K2:=K2) e hn h=>by
  have ih:=h.find
  rw [List.length_cons,n4]
  have hk:∀ k:Int,((cN K xs.length).map (k :: ·)).find? (fun p=>decide (wor (x :: xs) p=v))=((cN K xs.length).find? fun p=>decide (wor xs p=v - k * x)).map (k :: ·):=fun k=>by
   rw [List.find?_map]
   congr 2
   funext p
   show decide (x * k + wor xs p=v)=decide (wor xs p=v - k * x)
   rw [decide_eq_decide,Int.mul_comm x k]
   omega
  have hK:∀ l r:List Int,(∀ k ∈ l,¬ Wo K xs (v - k * x))→((l ++ q :: r).flatMap fun k=>(cN K xs.length).map (k :: ·)).find? (fun p=>decide (wor (x :: xs) p=v))=some (q :: ys):=fun l r=>by
   induction l with
   | nil=>
    intro _
    rw [List.nil_append,List.flatMap_cons,List.find?_append,hk q,ih]
    rfl
   | cons k l ihl=>
    intro hl
    rw [List.cons_append,List.flatMap_cons,List.find?_append,hk k]
    have:(cN K xs.length).find? (fun p=>decide (wor xs p=v - k * x))=none:=by
     rw [List.find?_eq_none]
     intro p hp hd
     exact hl k (.head _) (jD.mpr ⟨p,hp,of_decide_eq_true hd⟩)
    rw [this,ihl fun k' hk'=>hl k' (.tail _ hk')]
    rfl
  have:=hK K1 K2 hn
  rw [← e] at this
  exact this
theorem find_none {K xs:List Int} {v:Int} (h:¬ Wo K xs v):(cN K xs.length).find? (fun p=>decide (wor xs p=v))=none:=by
 rw [List.find?_eq_none]
 intro p hp hd
 exact h (jD.mpr ⟨p,hp,of_decide_eq_true hd⟩)
def aG (T:List (Int × Int)):List (KD × D):=T.map fun e=>(.inl e.1,.int e.2)
theorem qN (T:List (Int × Int)) (k:Int):(aG T).any (fun kv=>decide (kv.1=.inl k))=T.any fun e=>decide (e.1=k):=by
 unfold aG
 rw [List.any_map]
 congr 1
 funext e
 show decide ((Sum.inl e.1:KD)=.inl k)=decide (e.1=k)
 rw [decide_eq_decide]
 exact ⟨Sum.inl.inj,fun h=>by rw [h]⟩
theorem xj (T:List (Int × Int)) (k c:Int):putD (aG T) (.inl k) (.int c)=aG (pT T k c):=by
 unfold putD pT
 rw [qN]
 cases T.any fun e=>decide (e.1=k) with
 | true=>
  rw [if_pos rfl,if_pos rfl]
  unfold aG
  rw [List.map_map,List.map_map]
  refine List.map_congr_left fun e _=>?_
  simp only [Function.comp]
  by_cases h:e.1=k
  ·rw [if_pos (by rw [h]),if_pos h]
  ·rw [if_neg (fun z=>h (Sum.inl.inj z)),if_neg h]
 | false=>
  rw [if_neg Bool.false_ne_true,if_neg Bool.false_ne_true]
  simp [aG]
theorem mz (T:List (Int × Int)) (k:Int):(cU (aG T) (.inl k)).getD (.int 0)=.int (gT T k):=by
 unfold cU gT aG
 rw [List.find?_map]
 have e:((fun kv:KD × D=>decide (kv.1=.inl k)) ∘ fun e:Int × Int=>((.inl e.1:KD),D.int e.2))=fun e=>decide (e.1=k):=by
  funext e
  show decide ((Sum.inl e.1:KD)=.inl k)=decide (e.1=k)
  rw [decide_eq_decide]
  exact ⟨Sum.inl.inj,fun h=>by rw [h]⟩
 rw [e]
 cases T.find? fun e=>decide (e.1=k) <;> rfl
theorem kB (T:List (Int × Int)) (k:Int):(cU (aG T) (.inl k)).isSome=true↔∃ e ∈ T,e.1=k:=by
 rw [nY,qN,List.any_eq_true]
 constructor
 ·rintro ⟨e,he,h⟩; exact ⟨e,he,of_decide_eq_true h⟩
 ·rintro ⟨e,he,h⟩; exact ⟨e,he,decide_eq_true h⟩
def dAt (S:Sto) (n:Nat) (T:List (Int × Int)):Prop:=S[n]?=some (.dic (aG T)) ∨ S[n]?=some (.fdic (aG T))
theorem dAt.dic {S:Sto} {n:Nat} {T:List (Int × Int)} (h:dAt S n T):du S (.ref n)=some (aG T):=by
 rcases h with h | h <;> simp [du,h]
theorem dAt.seq {S:Sto} {n:Nat} {T:List (Int × Int)} (h:dAt S n T):bg S (.ref n)=none:=by
 rcases h with h | h <;> simp [bg,h]
theorem dAt.lt {S:Sto} {n:Nat} {T:List (Int × Int)} (h:dAt S n T):n < S.length:=by
 rcases h with h | h <;> exact (List.getElem?_eq_some_iff.mp h).1
abbrev stI:SM:=(aA (aQ 7 (eOp bO (ae 4) (eOp cf (ae 6) (ae 1)))) (pZ nK (eOp bO (ji (ae 3) (ae 7) (eC (.int 0))) (ae 5)) (ae 3) (ae 7)))
abbrev stO:SM:=(fJ (cz (ae 2) bJ) (.nm 6) (aA (aQ 7 (eOp bO (ae 4) (eOp cf (ae 6) (ae 1)))) (pZ nK (eOp bO (ji (ae 3) (ae 7) (eC (.int 0))) (ae 5)) (ae 3) (ae 7))))
abbrev Dt:SM:=(aQ 2 (au cj (ab (ae 2) (ab (ae 3) (ab (ae 1) ak)))))
abbrev tbB:SM:=(bE (ko cc (ae 2) (ab (au cj (ab (eOp oIx (ae 2) (eUn jv (eC (.int 1)))) (ab (ae 3) (ab (ae 1) ak)))) ak)))
abbrev ftB:SM:=(aA (aQ 8 (eOp oIx (ae 3) (eOp dq (eOp dq (eB et (ab (ae 0) ak)) (ae 6)) (eC (.int 1))))) (aA (aQ 9 (eB nL (ab (bF (cz (ae 2) bJ) 1 [5,7,8] (.nm 0) (tV (eOp (gD false) (eOp dq (ae 1) (eOp cf (ae 0) (ae 2))) (ae 3))) (ae 0)) ak))) (aA (bE (ko cc (ae 4) (ab (ae 9) ak))) (aQ 5 (eOp dq (ae 5) (eOp cf (ae 9) (ae 7)))))))
theorem sml {q:Int} (h:-1≤q∧q≤1):cF q:=⟨by omega,by omega⟩
theorem BD {S:Sto} {m:Nat} {W:List (Int × Int)} {x w c q:Int} (hq:-1≤q∧q≤1) (hm:S[m]?=some (.dic (aG W))) (hz:W.length < 1000) (r0 r2 r7:Option D):
  stI [r0,some (.int x),r2,some (.ref m),some (.int w),some (.int c),some (.int q),r7] S=.ok (.nx [r0,some (.int x),r2,some (.ref m),some (.int w),some (.int c),some (.int q),some (.int (w + q * x))]) (S.set m (.dic (aG (pT W (w + q * x) (gT W (w + q * x) + c))))):=by
 have hd:du S (.ref m)=some (aG W):=by simp [du,hm]
 have z:(1000:Nat)≤sizeLine:=by decide
 refine (av (aS (ax (af rfl) (ax (af rfl) (af rfl) (fq (.inl (sml hq)))) rfl))).trans ?_
 have hg:ji (ae 3) (ae 7) (eC (.int 0)) [r0,some (.int x),r2,some (.ref m),some (.int w),some (.int c),some (.int q),some (.int (w + q * x))] S=.ok (.int (gT W (w + q * x))) S:=by
  rw [← mz]
  exact qI (af rfl) hd (af rfl) rfl hd rfl
 refine yV (ax hg (af rfl) rfl) (af rfl) (af rfl) ?_
 have h1:sY S (.ref m)=true:=by simp [sY,hm]
 unfold nK
 rw [if_pos h1]
 unfold sX
 simp only [hm,gN]
 rw [if_pos (by simp [aG]; omega),xj]
theorem qO {x w c:Int} (r0 r2:Option D) {m:Nat}:∀ (K:List Int) (S:Sto) (W L:List (Int × Int)) (r6 r7:Option D),(∀ q ∈ K,-1≤q∧q≤1)→S[m]?=some (.dic (aG W))→HistC W L→L.length + K.length≤1000→
  ∃ (W':List (Int × Int)) (r6' r7':Option D),forL (.nm 6) stI (K.map .int) [r0,some (.int x),r2,some (.ref m),some (.int w),some (.int c),r6,r7] S=.ok (.nx [r0,some (.int x),r2,some (.ref m),some (.int w),some (.int c),r6',r7']) (S.set m (.dic (aG W')))∧HistC W' (L ++ K.map fun q=>(w + q * x,c))
 | [],S,W,L,r6,r7,_,hm,h,_=>⟨W,r6,r7,by
  have hml:m < S.length:=(List.getElem?_eq_some_iff.mp hm).1
  have:S.set m (.dic (aG W))=S:=by
   have e:=(List.getElem?_eq_some_iff.mp hm).2
   rw [← e]; exact List.set_getElem_self hml
  rw [this]; rfl,by simpa using h⟩
 | q :: K,S,W,L,r6,r7,hK,hm,h,hz=>by
  rw [List.length_cons] at hz
  have hml:m < S.length:=(List.getElem?_eq_some_iff.mp hm).1
  have e1:=BD (S:=S) (x:=x) (w:=w) (c:=c) (hK q (.head _)) hm (by have:=h.len; omega) r0 r2 r7
  obtain ⟨W',a6,a7,e2,h2⟩:=qO r0 r2 K (S.set m (.dic (aG (pT W (w + q * x) (gT W (w + q * x) + c))))) (pT W (w + q * x) (gT W (w + q * x) + c)) (L ++ [(w + q * x,c)]) (some (.int q)) (some (.int (w + q * x))) (fun q hq=>hK q (.tail _ hq)) (List.getElem?_set_self hml) (h.put (w + q * x) c) (by simp; omega)
  rw [List.set_set] at e2
  refine ⟨W',a6,a7,(cv (r1:=[r0,some (.int x),r2,some (.ref m),some (.int w),some (.int c),some (.int q),r7]) rfl e1).trans e2,?_⟩
  rw [List.map_cons]
  simpa using h2
theorem qP {K:List Int} {x:Int} (hK:∀ q ∈ K,-1≤q∧q≤1) (r0:Option D) {m:Nat}:∀ (T:List (Int × Int)) (S:Sto) (W L:List (Int × Int)) (r4 r5 r6 r7:Option D),S[m]?=some (.dic (aG W))→HistC W L→L.length + T.length * K.length≤1000→
  ∃ (W':List (Int × Int)) (r4' r5' r6' r7':Option D),forL (.tp [.nm 4,.nm 5]) stO ((aG T).map pairD) [r0,some (.int x),some (tupI K),some (.ref m),r4,r5,r6,r7] S=.ok (.nx [r0,some (.int x),some (tupI K),some (.ref m),r4',r5',r6',r7']) (S.set m (.dic (aG W')))∧HistC W' (L ++ fM K x T)
 | [],S,W,L,r4,r5,r6,r7,hm,h,_=>⟨W,r4,r5,r6,r7,by
  have hml:m < S.length:=(List.getElem?_eq_some_iff.mp hm).1
  have:S.set m (.dic (aG W))=S:=by
   have e:=(List.getElem?_eq_some_iff.mp hm).2
   rw [← e]; exact List.set_getElem_self hml
  rw [this]; rfl,by simpa [fM] using h⟩
 | e :: T,S,W,L,r4,r5,r6,r7,hm,h,hz=>by
  have hm2:(e :: T).length * K.length=T.length * K.length + K.length:=by rw [List.length_cons,Nat.succ_mul]
  have hml:m < S.length:=(List.getElem?_eq_some_iff.mp hm).1
  obtain ⟨W1,a6,a7,e1,h1⟩:=qO (x:=x) (w:=e.1) (c:=e.2) r0 (some (tupI K)) K S W L r6 r7 hK hm h (by omega)
  obtain ⟨W2,b4,b5,b6,b7,e2,h2⟩:=qP hK r0 T (S.set m (.dic (aG W1))) W1 (L ++ K.map fun q=>(e.1 + q * x,e.2)) (some (.int e.1)) (some (.int e.2)) a6 a7 (List.getElem?_set_self hml) h1 (by rw [List.length_append,List.length_map]; omega)
  rw [List.set_set] at e2
  refine ⟨W2,b4,b5,b6,b7,?_,?_⟩
  ·show forL _ _ (pairD (.inl e.1,.int e.2) :: (aG T).map pairD) _ _=_
   exact (cv (r1:=[r0,some (.int x),some (tupI K),some (.ref m),some (.int e.1),some (.int e.2),r6,r7]) rfl ((gf (af rfl) rfl).trans e1)).trans e2
  ·have:fM K x (e :: T)=(K.map fun q=>(e.1 + q * x,e.2)) ++ fM K x T:=by simp [fM]
   rw [this,← List.append_assoc]
   exact h2
theorem xk {S:Sto} {n:Nat} {T:List (Int × Int)} {ρ:Rho} {i:Nat} (hi:ρ[i]?=some (some (.ref n))) (h:dAt S n T):o6 (ae i) ρ S=.ok ((aG T).map pairD) (S.set n (.fdic (aG T))):=by
 unfold o6
 rw [af hi,R.bind_ok]
 rcases h with h | h
 ·simp only [h]
 ·simp only [h]
  have hnl:n < S.length:=(List.getElem?_eq_some_iff.mp h).1
  have:S.set n (.fdic (aG T))=S:=by
   have e:=(List.getElem?_eq_some_iff.mp h).2
   rw [← e]; exact List.set_getElem_self hnl
  rw [this]
theorem jE {K:List Int} {x:Int} {S:Sto} {n:Nat} {T:List (Int × Int)} {f:List Int} (hK:∀ q ∈ K,-1≤q∧q≤1) (hd:dAt S n T) (h:Hist T f) (hz:f.length * K.length≤1000):
  ∃ T':List (Int × Int),cj [.ref n,.int x,tupI K] S=.ok (.ref S.length) (S.set n (.fdic (aG T)) ++ [.dic (aG T')])∧Hist T' (fS K x f):=by
 have hnl:=hd.lt
 have hd':dAt (S ++ [.dic []]) n T:=by
  unfold dAt
  rw [List.getElem?_append_left hnl]
  exact hd
 have hle:T.length * K.length≤f.length * K.length:=Nat.mul_le_mul_right _ h.len
 have e0:(S ++ [SO.dic []]).set n (.fdic (aG T))=S.set n (.fdic (aG T)) ++ [.dic []]:=List.set_append_left _ _ hnl
 obtain ⟨T',a4,a5,a6,a7,e1,h1⟩:=qP (x:=x) hK (some (.ref n)) (m:=S.length) T (S.set n (.fdic (aG T)) ++ [.dic []]) [] [] none none none none (by simp [aG]) HistC.nil (by simp; omega)
 have e2:(S.set n (.fdic (aG T)) ++ [SO.dic []]).set S.length (.dic (aG T'))=S.set n (.fdic (aG T)) ++ [.dic (aG T')]:=by
  rw [List.set_append_right _ _ (by simp)]; simp
 rw [e2] at e1
 refine ⟨T',?_,h.step (by simpa using h1)⟩
 exact bb (ρ:=[some (.ref n),some (.int x),some (tupI K),none,none,none,none,none]) rfl ((av (S1:=S ++ [.dic []]) (aS rfl)).trans ((av (r1:=[some (.ref n),some (.int x),some (tupI K),some (.ref S.length),a4,a5,a6,a7]) ((ig (xk rfl hd')).trans (by rw [e0]; exact e1))).trans (aR (af rfl))))
structure Pre (S0 S:Sto):Prop where
 old:∀ i,i < S0.length→S[i]?=S0[i]?
 len:S0.length≤S.length
theorem Pre.refl (S:Sto):Pre S S:=⟨fun _ _=>rfl,Nat.le_refl _⟩
theorem Pre.trans {S0 S1 S2:Sto} (a:Pre S0 S1) (b:Pre S1 S2):Pre S0 S2:=⟨fun i h=>(b.old i (Nat.lt_of_lt_of_le h a.len)).trans (a.old i h),Nat.le_trans a.len b.len⟩
theorem Pre.app (S l:Sto):Pre S (S ++ l):=⟨fun i h=>List.getElem?_append_left h,by simp⟩
theorem Pre.set {S0 S:Sto} (p:Pre S0 S) {n:Nat} (h:S0.length≤n) (o:SO):Pre S0 (S.set n o):=⟨fun i hi=>by rw [List.getElem?_set_ne (by omega)]; exact p.old i hi,by rw [List.length_set]; exact p.len⟩
theorem Pre.gr {b:Nat} {S0 S:Sto} (g:Gr b S0 S0) (p:Pre S0 S):Gr b S0 S:=by
 obtain ⟨n,hn⟩:=g.bx
 have hb:b < S0.length:=(List.getElem?_eq_some_iff.mp hn).1
 exact ⟨⟨n,by rw [p.old b hb]; exact hn⟩,fun i _ hl=>p.old i hl,p.len⟩
theorem dAt.step {S:Sto} {n r:Nat} {T Tr:List (Int × Int)} {l:Sto} (h:dAt S n T) (hr:dAt S r Tr):dAt (S.set n (.fdic (aG T)) ++ l) r Tr:=by
 have hnl:=h.lt
 have hrl:=hr.lt
 unfold dAt
 rw [List.getElem?_append_left (by rw [List.length_set]; exact hrl)]
 by_cases e:n=r
 ·subst e
  rw [List.getElem?_set_self hnl]
  have:aG Tr=aG T:=by
   rcases h with h | h <;> rcases hr with hr | hr <;> rw [h] at hr <;> have hr:=Option.some.inj hr <;> first | exact (SO.dic.inj hr).symm | exact (SO.fdic.inj hr).symm | (cases hr; done)
  rw [this]
  exact .inr rfl
 ·rw [List.getElem?_set_ne e]
  exact hr
theorem dAt.app {S l:Sto} {r:Nat} {T:List (Int × Int)} (h:dAt S r T):dAt (S ++ l) r T:=by
 unfold dAt
 rw [List.getElem?_append_left h.lt]
 exact h
theorem dAt.set {S:Sto} {r n:Nat} {o:SO} {T:List (Int × Int)} (h:dAt S r T) (hn:n ≠ r):dAt (S.set n o) r T:=by
 unfold dAt
 rw [List.getElem?_set_ne hn]
 exact h
def fold (K:List Int) (xs:List Int) (f:List Int):List Int:=xs.foldl (fun f x=>fS K x f) f
theorem tI (K:List Int):∀ (xs pre:List Int),fold K xs (wsL K pre)=wsL K (pre ++ xs)
 | [],pre=>by simp [fold]
 | x :: xs,pre=>by
  have:=tI K xs (pre ++ [x])
  rw [gU,List.append_assoc] at this
  exact this
theorem tJ {K:List Int} (hK:K.length≤3) {n r:Nat} (h:n * 3 ^ (r + 1)≤729):n * K.length≤1000∧n * K.length * 3 ^ r≤729:=by
 have h1:n * K.length≤n * 3:=Nat.mul_le_mul_left _ hK
 have h2:1≤3 ^ r:=Nat.one_le_pow _ _ (by decide)
 have h3:n * K.length * 3 ^ r≤n * 3 * 3 ^ r:=Nat.mul_le_mul_right _ h1
 have h4:n * 3 * 3 ^ r=n * 3 ^ (r + 1):=by rw [Nat.pow_succ,Nat.mul_assoc,Nat.mul_comm 3]
 have h5:n * 3 * 1≤n * 3 * 3 ^ r:=Nat.mul_le_mul_left _ h2
 omega
theorem qQ {K:List Int} (hK:K.length≤3) (hk:∀ q ∈ K,-1≤q∧q≤1) {S0:Sto} (r0:Option D):∀ (xs:List Int) (S:Sto) (n:Nat) (T:List (Int × Int)) (f:List Int) (r3:Option D),dAt S n T→Hist T f→f.length * 3 ^ xs.length≤729→S0.length≤n→Pre S0 S→
  ∃ (S':Sto) (n':Nat) (T':List (Int × Int)) (r3':Option D),forL (.nm 3) Dt (xs.map .int) [r0,some (tupI K),some (.ref n),r3] S=.ok (.nx [r0,some (tupI K),some (.ref n'),r3']) S'∧dAt S' n' T'∧Hist T' (fold K xs f)∧Pre S0 S'
 | [],S,n,T,f,r3,hd,h,_,_,p=>⟨S,n,T,r3,rfl,hd,h,p⟩
 | x :: xs,S,n,T,f,r3,hd,h,hz,hn,p=>by
  rw [List.length_cons] at hz
  obtain ⟨z1,z2⟩:=tJ hK hz
  obtain ⟨T1,e1,h1⟩:=jE (x:=x) hk hd h z1
  have p1:Pre S0 (S.set n (.fdic (aG T)) ++ [SO.dic (aG T1)]):=(p.set hn _).trans (Pre.app _ _)
  obtain ⟨S2,n2,T2,a3,e2,d2,h2,p2⟩:=qQ hK hk r0 xs (S.set n (.fdic (aG T)) ++ [SO.dic (aG T1)]) S.length T1 (fS K x f) (some (.int x)) (.inl (by simp)) h1 (by rw [kA]; exact z2) p.len p1
  exact ⟨S2,n2,T2,a3,(cv (r1:=[r0,some (tupI K),some (.ref n),some (.int x)]) rfl (aS ((aw (ag (af rfl) (ag (af rfl) (ag (af rfl) rfl)))).trans e1))).trans e2,d2,h2,p2⟩
theorem pA {ρ:Rho} {S:Sto}:lO [((eC (.int 0)),(eC (.int 1)))] ρ S=.ok (.ref S.length) (S ++ [.dic (aG [(0,1)])]):=rfl
theorem jF {K xs:List Int} (hK:K.length≤3) (hk:∀ q ∈ K,-1≤q∧q≤1) (h6:xs.length≤6) (S:Sto):∃ (S':Sto) (n:Nat) (T:List (Int × Int)),bN [tupI xs,tupI K] S=.ok (.ref n) S'∧dAt S' n T∧Hist T (wsL K xs)∧Pre S S':=by
 obtain ⟨S',n,T,a3,e,hd,h,p⟩:=qQ hK hk (S0:=S) (some (tupI xs)) xs (S ++ [.dic (aG [(0,1)])]) S.length [(0,1)] [0] none (.inl (by simp)) Hist.zero (by
  rw [List.length_singleton,Nat.one_mul]
  exact Nat.le_trans (Nat.pow_le_pow_right (by decide) h6) (by decide)) (Nat.le_refl _) (Pre.app _ _)
 have hf:=tI K xs []
 rw [List.nil_append] at hf
 have h0:wsL K []=[0]:=rfl
 rw [h0] at hf
 rw [hf] at h
 exact ⟨S',n,T,bb (ρ:=[some (tupI xs),some (tupI K),none,none]) rfl ((av (aS pA)).trans ((av ((gf (af rfl) rfl).trans e)).trans (aR (af rfl)))),hd,h,p⟩
def pB (K back:List Int) (S:Sto) (rs:List Nat):Prop:=rs.length=back.length + 1∧∀ j,(hj:j < rs.length)→∃ (T:List (Int × Int)) (f:List Int),dAt S rs[j] T∧Hist T f∧(∀ v,v ∈ f↔Wo K (back.drop (back.length - j)) v)∧f.length≤3 ^ j
theorem tK {S:Sto} {l:Nat} {rs:List Nat} {n:Nat} (hl:S[l]?=some (.lst (rs.map .ref))) (hn:rs.length=n + 1):oIx S (.ref l) (.int (-1))=some (.ref (rs[n]'(by omega))):=by
 have e:bg S (.ref l)=some (rs.map .ref):=by simp [bg,hl]
 unfold oIx
 rw [e]
 show atI (rs.map D.ref) (-1)=_
 have e2:ixN (rs.map D.ref).length (-1)=some n:=by
  unfold ixN
  rw [if_neg (by omega),if_pos (by rw [List.length_map,hn]; omega)]
  congr 1
  rw [List.length_map,hn]; omega
 unfold atI
 rw [e2]
 show (rs.map D.ref)[n]?=_
 rw [List.getElem?_map,List.getElem?_eq_getElem (by omega)]; rfl
theorem BE {S:Sto} {l:Nat} {rs:List Nat} {j:Nat} (hl:S[l]?=some (.lst (rs.map .ref))) (hj:j < rs.length):oIx S (.ref l) (.int j)=some (.ref rs[j]):=by
 have e:bg S (.ref l)=some (rs.map .ref):=by simp [bg,hl]
 unfold oIx
 rw [e]
 show atI (rs.map D.ref) (j:Int)=_
 rw [iK (by rw [List.length_map]; exact hj)]
 simp
theorem tL {K:List Int} (hK:K.length≤3) (hk:∀ q ∈ K,-1≤q∧q≤1) {S0:Sto} (r0:Option D) {l:Nat} (hl0:S0.length≤l):∀ (rem back:List Int) (S:Sto) (rs:List Nat) (r3:Option D),rem.length + back.length≤6→S[l]?=some (.lst (rs.map .ref))→pB K back S rs→(∀ r ∈ rs,S0.length≤r)→Pre S0 S→
  ∃ (S':Sto) (rs':List Nat) (r3':Option D),forL (.nm 3) tbB (rem.map .int) [r0,some (tupI K),some (.ref l),r3] S=.ok (.nx [r0,some (tupI K),some (.ref l),r3']) S'∧S'[l]?=some (.lst (rs'.map .ref))∧pB K (rem.reverse ++ back) S' rs'∧Pre S0 S'
 | [],back,S,rs,r3,_,hl,ht,_,p=>⟨S,rs,r3,rfl,hl,ht,p⟩
 | y :: rem,back,S,rs,r3,hz,hl,ht,hr,p=>by
  rw [List.length_cons] at hz
  have hll:l < S.length:=(List.getElem?_eq_some_iff.mp hl).1
  have hn:=ht.1
  have hlast:back.length < rs.length:=by omega
  obtain ⟨T,f,hd,h,hm,hf⟩:=ht.2 back.length hlast
  rw [Nat.sub_self,List.drop_zero] at hm
  have z1:f.length * K.length≤1000:=by
   have a1:f.length * K.length≤3 ^ back.length * 3:=Nat.mul_le_mul hf hK
   have a2:3 ^ back.length≤3 ^ 5:=Nat.pow_le_pow_right (by decide) (by omega)
   have a3:(3:Nat) ^ 5=243:=by decide
   omega
  obtain ⟨T1,e1,h1⟩:=jE (x:=y) hk hd h z1
  have hrl:rs[back.length] ≠ l:=fun e=>by
   rw [e] at hd
   rcases hd with hd | hd <;> rw [hl] at hd <;> cases hd
  have hl1:(S.set rs[back.length] (.fdic (aG T)) ++ [SO.dic (aG T1)])[l]?=some (.lst (rs.map .ref)):=by
   rw [List.getElem?_append_left (by rw [List.length_set]; exact hll),List.getElem?_set_ne hrl]
   exact hl
  have hll1:l < (S.set rs[back.length] (.fdic (aG T)) ++ [SO.dic (aG T1)]).length:=(List.getElem?_eq_some_iff.mp hl1).1
  have zs:rs.length < sizeLine:=Nat.lt_of_le_of_lt (show rs.length≤100 by omega) (by decide)
  have hap:cc (S.set rs[back.length] (.fdic (aG T)) ++ [SO.dic (aG T1)]) (.ref l) [.ref S.length]=.ok .non ((S.set rs[back.length] (.fdic (aG T)) ++ [SO.dic (aG T1)]).set l (.lst ((rs ++ [S.length]).map .ref))):=by
   unfold cc
   simp only [hl1,List.length_map]
   rw [if_pos zs,List.map_append]; rfl
  have p1:Pre S0 ((S.set rs[back.length] (.fdic (aG T)) ++ [SO.dic (aG T1)]).set l (.lst ((rs ++ [S.length]).map .ref))):=((p.set (hr _ (List.getElem_mem hlast)) _).trans (Pre.app _ _)).set hl0 _
  have ht1:pB K (y :: back) ((S.set rs[back.length] (.fdic (aG T)) ++ [SO.dic (aG T1)]).set l (.lst ((rs ++ [S.length]).map .ref))) (rs ++ [S.length]):=by
   refine ⟨by rw [List.length_append,List.length_cons,List.length_nil,List.length_cons]; omega,fun j hj=>?_⟩
   rw [List.length_append,List.length_cons,List.length_nil] at hj
   by_cases hjl:j < rs.length
   ·obtain ⟨Tj,fj,dj,hj1,hj2,hj3⟩:=ht.2 j hjl
    refine ⟨Tj,fj,?_,hj1,?_,hj3⟩
    ·rw [List.getElem_append_left hjl]
     refine (hd.step dj).set fun e=>?_
     rw [← e] at dj
     rcases dj with dj | dj <;> rw [hl] at dj <;> cases dj
    ·rw [List.length_cons,show back.length + 1 - j=(back.length - j) + 1 by omega,List.drop_succ_cons]
     exact hj2
   ·have ej:j=rs.length:=by omega
    subst ej
    refine ⟨T1,fS K y f,?_,h1,?_,?_⟩
    ·rw [List.getElem_append_right (Nat.le_refl _)]
     simp only [Nat.sub_self,List.getElem_cons_zero]
     have hne:l ≠ S.length:=by omega
     refine dAt.set (.inl ?_) hne
     simp
    ·intro v
     rw [List.length_cons,hn,Nat.sub_self,List.drop_zero,sf]
     constructor
     ·rintro ⟨w,hw,q,hq,rfl⟩
      exact ⟨q,hq,by rw [show w + q * y - y * q=w by rw [Int.mul_comm y q]; omega]; exact (hm w).mp hw⟩
     ·rintro ⟨q,hq,hw⟩
      exact ⟨_,(hm _).mpr hw,q,hq,by rw [Int.mul_comm y q]; omega⟩
    ·rw [kA,hn,Nat.pow_succ]
     exact Nat.mul_le_mul hf hK
  have hrs:∀ r ∈ rs ++ [S.length],S0.length≤r:=fun r hm=>by
   rcases List.mem_append.mp hm with hm | hm
   ·exact hr r hm
   ·rw [List.mem_singleton.mp hm]; exact p.len
  obtain ⟨S2,rs2,a3,e2,hl2,ht2,p2⟩:=tL hK hk r0 hl0 rem (y :: back) _ (rs ++ [S.length]) (some (.int y)) (by rw [List.length_cons]; omega) (List.getElem?_set_self hll1) ht1 hrs p1
  refine ⟨S2,rs2,a3,?_,hl2,by rw [List.reverse_cons,List.append_assoc]; exact ht2,p2⟩
  refine (cv (r1:=[r0,some (tupI K),some (.ref l),some (.int y)]) rfl (bA (d:=.non) ?_)).trans e2
  refine (pq (ys:=[.ref S.length]) (af rfl) (by simp [isL,hl]) (ag ?_ rfl)).trans hap
  exact (aw (ag (ax (af rfl) rfl (tK hl hn)) (ag (af rfl) (ag (af rfl) rfl)))).trans e1
theorem vf {K xs:List Int} (hK:K.length≤3) (hk:∀ q ∈ K,-1≤q∧q≤1) (h6:xs.length≤6) (S:Sto):∃ (S':Sto) (l:Nat) (rs:List Nat),bo [tupI xs,tupI K] S=.ok (.ref l) S'∧S'[l]?=some (.lst (rs.map .ref))∧pB K xs S' rs∧Pre S S':=by
 have z1:(1:Nat)≤sizeLine:=by decide
 have e0:eNew (ab (lO [((eC (.int 0)),(eC (.int 1)))]) ak) [some (tupI xs),some (tupI K),none,none] S=.ok (.ref (S.length + 1)) (S ++ [.dic (aG [(0,1)])] ++ [.lst [.ref S.length]]):=by
  unfold eNew
  rw [ag pA rfl,R.bind_ok,if_pos (show [D.ref S.length].length≤sizeLine from z1)]
  simp
 have hd0:dAt (S ++ [.dic (aG [(0,1)])] ++ [.lst [.ref S.length]]) S.length [(0,1)]:=dAt.app (.inl (by simp))
 obtain ⟨S',rs,a3,e,hl,ht,p⟩:=tL hK hk (S0:=S) (some (tupI xs)) (l:=S.length + 1) (by omega) xs.reverse [] (S ++ [.dic (aG [(0,1)])] ++ [.lst [.ref S.length]]) [S.length] none (by simp; omega) (by simp) ⟨rfl,fun j hj=>by
  have ej:j=0:=by simp at hj; omega
  subst ej
  exact ⟨_,[0],hd0,Hist.zero,fun v=>by
   show v ∈ [0]↔v=0
   simp,by decide⟩⟩ (fun r hm=>by rw [List.mem_singleton.mp hm]; exact Nat.le_refl _) ((Pre.app _ _).trans (Pre.app _ _))
 rw [List.reverse_reverse,List.append_nil] at ht
 have hrev:yH (ab (ae 0) ak) [some (tupI xs),some (tupI K),some (.ref (S.length + 1)),none] (S ++ [.dic (aG [(0,1)])] ++ [.lst [.ref S.length]])=.ok (xs.reverse.map .int) (S ++ [.dic (aG [(0,1)])] ++ [.lst [.ref S.length]]):=by
  unfold yH
  rw [ag (af rfl) rfl,R.bind_ok]
  show R.ok (xs.map D.int).reverse _=_
  rw [List.map_reverse]
 exact ⟨S',S.length + 1,rs,bb (ρ:=[some (tupI xs),some (tupI K),none,none]) rfl ((av (aS e0)).trans ((av ((ig hrev).trans e)).trans (aR (af rfl)))),hl,ht,p⟩
theorem n5:∀ (l:List Int) (m:Int),(∀ x ∈ l,m≤x)→iz m l=m
 | [],m,_=>rfl
 | x :: l,m,h=>by
  have hx:=h x (.head _)
  show iz (if x < m then x else m) l=m
  rw [if_neg (by omega)]
  exact n5 l m fun y hy=>h y (.tail _ hy)
theorem min_list {S:Sto} {q:Int} {qs:List Int} (h:∀ x ∈ qs,q≤x):nL S [.lst ((q :: qs).map .int)]=some (.int q):=by
 unfold nL
 rw [if_pos (show [D.lst ((q :: qs).map D.int)].length=1 from rfl)]
 show (match intsOf ((q :: qs).map D.int) with | some (n :: ns)=>some (D.int (iz n ns)) | _=>none)=_
 rw [ip]
 show some (D.int (iz q qs))=_
 rw [n5 qs q h]
theorem CS {S:Sto} {n:Nat} {T:List (Int × Int)} (h:dAt S n T) (v:Int):gD false S (.int v) (.ref n)=some (.bl (cU (aG T) (.inl v)).isSome):=by
 unfold gD
 rw [h.seq]
 simp only [Option.isSome_none,Bool.false_eq_true,if_false,oX,h.dic,gN]
theorem CT {S:Sto} {n:Nat} {T:List (Int × Int)} (h:dAt S n T) (v:Int):gD true S (.int v) (.ref n)=some (.bl (!(cU (aG T) (.inl v)).isSome)):=by
 unfold gD
 rw [h.seq]
 simp only [Option.isSome_none,Bool.false_eq_true,if_false,oX,h.dic,gN,if_true]
theorem pB.set {K back:List Int} {S:Sto} {rs:List Nat} (h:pB K back S rs) {c:Nat} {o:SO} (hc:∀ r ∈ rs,c ≠ r):pB K back (S.set c o) rs:=
 ⟨h.1,fun j hj=>by
  obtain ⟨T,f,d,r⟩:=h.2 j hj
  exact ⟨T,f,d.set (hc _ (List.getElem_mem hj)),r⟩⟩
theorem tM {K row:List Int} (hs:K.Pairwise (· < ·)) (hk:∀ q ∈ K,-1≤q∧q≤1) (hK:K.length≤3) (h6:row.length≤6) {S0:Sto} {l c:Nat} {rs:List Nat} (hlc:c ≠ l) (hcr:∀ r ∈ rs,c ≠ r) (hc0:S0.length≤c) (r1:Option D):∀ (xs:List Int) (i:Nat) (S:Sto) (cs:List Int) (v:Int) (r6 r7 r8 r9:Option D),i + xs.length=row.length→row.drop i=xs→S[l]?=some (.lst (rs.map .ref))→S[c]?=some (.lst (cs.map .int))→pB K row S rs→cs.length≤i→Wo K xs v→Pre S0 S→
  ∃ (S':Sto) (ys:List Int) (ρ:Rho),forL (.tp [.nm 6,.nm 7]) ftB (numbered i (xs.map .int)) [some (tupI row),r1,some (tupI K),some (.ref l),some (.ref c),some (.int v),r6,r7,r8,r9] S=.ok (.nx ρ) S'∧ρ[4]?=some (some (.ref c))∧S'[c]?=some (.lst ((cs ++ ys).map .int))∧First K xs v ys∧Pre S0 S'
 | [],i,S,cs,v,r6,r7,r8,r9,_,_,_,hc,_,_,hw,p=>by
  have hv:v=0:=hw
  subst hv
  exact ⟨S,[],_,rfl,rfl,by rw [List.append_nil]; exact hc,.nil,p⟩
 | x :: xs,i,S,cs,v,r6,r7,r8,r9,hi,hd,hl,hc,ht,hci,hw,p=>by
  rw [List.length_cons] at hi
  have hcl:c < S.length:=(List.getElem?_eq_some_iff.mp hc).1
  have hxs:row.drop (i + 1)=xs:=by
   have:=congrArg (List.drop 1) hd
   rw [List.drop_drop] at this
   simpa using this
  have hj:xs.length < rs.length:=by rw [ht.1]; omega
  obtain ⟨T,f,dT,hT,hm,_⟩:=ht.2 xs.length hj
  rw [show row.length - xs.length=i + 1 by omega,hxs] at hm
  have hb:eOp oIx (ae 3) (eOp dq (eOp dq (eB et (ab (ae 0) ak)) (ae 6)) (eC (.int 1))) [some (tupI row),r1,some (tupI K),some (.ref l),some (.ref c),some (.int v),some (.int i),some (.int x),r8,r9] S=.ok (.ref rs[xs.length]) S:=by
   refine ax (af rfl) (ax (ax (bW (ag (af rfl) rfl) (z:=.int row.length) (by show some (D.int ((row.map D.int).length:Int))=_; rw [List.length_map])) (af rfl) rfl) rfl rfl) ?_
   rw [show (row.length:Int) - (i:Int) - 1=(xs.length:Int) by omega]
   exact BE hl hj
  have hin:∀ q:Int,gD false S (.int (v - q * x)) (.ref rs[xs.length])=some (.bl (cU (aG T) (.inl (v - q * x))).isSome):=fun q=>CS dT _
  have hcomp:bF (cz (ae 2) bJ) 1 [5,7,8] (.nm 0) (tV (eOp (gD false) (eOp dq (ae 1) (eOp cf (ae 0) (ae 2))) (ae 3))) (ae 0) [some (tupI row),r1,some (tupI K),some (.ref l),some (.ref c),some (.int v),some (.int i),some (.int x),some (.ref rs[xs.length]),r9] S=.ok (.lst ((K.filter fun q=>(cU (aG T) (.inl (v - q * x))).isSome).map .int)) S:=
   vc (enc:=D.int) (out:=D.int) (tl:=[some (.int v),some (.int x),some (.ref rs[xs.length])]) K (iU rfl rfl) (Nat.le_trans hK (by decide)) rfl (fun q hq=>bw (ax (ax (af rfl) (ax (af rfl) (af rfl) (fq (.inl (sml (hk q hq))))) rfl) (af rfl) (hin q))) (fun q _ _=>af rfl)
  have hiff:∀ q:Int,(cU (aG T) (.inl (v - q * x))).isSome=true↔Wo K xs (v - q * x):=fun q=>by rw [kB,hT.mem,hm]
  obtain ⟨q0,hq0,hw0⟩:=hw
  have hne:(K.filter fun q=>(cU (aG T) (.inl (v - q * x))).isSome) ≠ []:=fun e=>by
   rw [List.filter_eq_nil_iff] at e
   exact e q0 hq0 ((hiff q0).mpr (by rw [Int.mul_comm]; exact hw0))
  cases hfl:K.filter fun q=>(cU (aG T) (.inl (v - q * x))).isSome with
  | nil=>exact absurd hfl hne
  | cons q qs=>
   rw [hfl] at hcomp
   have hsf:(q :: qs).Pairwise (· < ·):=by rw [← hfl]; exact hs.filter _
   have hmin:∀ y ∈ qs,q≤y:=fun y hy=>Int.le_of_lt ((List.pairwise_cons.mp hsf).1 y hy)
   obtain ⟨K1,K2,hKe,hK1,hq,_⟩:=List.filter_eq_cons_iff.mp hfl
   have hwq:Wo K xs (v - q * x):=(hiff q).mp hq
   have hqk:-1≤q∧q≤1:=hk q (by rw [hKe]; simp)
   have zs:cs.length < sizeLine:=Nat.lt_of_le_of_lt (show cs.length≤100 by omega) (by decide)
   have hap:cc S (.ref c) [.int q]=.ok .non (S.set c (.lst ((cs ++ [q]).map .int))):=by
    unfold cc
    simp only [hc,List.length_map]
    rw [if_pos zs,List.map_append]; rfl
   have st:ftB [some (tupI row),r1,some (tupI K),some (.ref l),some (.ref c),some (.int v),some (.int i),some (.int x),r8,r9] S=.ok (.nx [some (tupI row),r1,some (tupI K),some (.ref l),some (.ref c),some (.int (v - q * x)),some (.int i),some (.int x),some (.ref rs[xs.length]),some (.int q)]) (S.set c (.lst ((cs ++ [q]).map .int))):=by
    refine (av (aS hb)).trans ((av (aS (bW (ag hcomp rfl) (min_list hmin)))).trans ((av (bA (d:=.non) ?_)).trans (aS (ax (af rfl) (ax (af rfl) (af rfl) (fq (.inl (sml hqk)))) rfl))))
    exact (pq (ys:=[.int q]) (af rfl) (by simp [isL,hc]) (ag (af rfl) rfl)).trans hap
   obtain ⟨S2,ys,ρ,e2,h4,hc2,hf2,p2⟩:=tM hs hk hK h6 hlc hcr hc0 r1 xs (i + 1) (S.set c (.lst ((cs ++ [q]).map .int))) (cs ++ [q]) (v - q * x) (some (.int i)) (some (.int x)) (some (.ref rs[xs.length])) (some (.int q)) (by omega) hxs (by rw [List.getElem?_set_ne hlc]; exact hl) (List.getElem?_set_self hcl) (ht.set hcr) (by simp; omega) hwq (p.set hc0 _)
   refine ⟨S2,q :: ys,ρ,(cv (r1:=[some (tupI row),r1,some (tupI K),some (.ref l),some (.ref c),some (.int v),some (.int i),some (.int x),r8,r9]) rfl st).trans e2,h4,?_,.cons hKe (fun k hk1 hwk=>?_) hf2,p2⟩
   ·rw [hc2,List.append_assoc]; rfl
   ·exact hK1 k hk1 ((hiff k).mpr hwk)
def CU:Option (List Int)→D
 | some ys=>tupI ys
 | none=>.non
theorem xl {K row:List Int} (hs:K.Pairwise (· < ·)) (hk:∀ q ∈ K,-1≤q∧q≤1) (hK:K.length≤3) (h6:row.length≤6) (v:Int) (S:Sto):∃ S':Sto,dA [tupI row,.int v,tupI K] S=.ok (CU ((cN K row.length).find? fun p=>decide (wor row p=v))) S'∧Pre S S':=by
 obtain ⟨S1,l,rs,e1,hl,ht,p1⟩:=vf hK hk h6 S
 have hll:l < S1.length:=(List.getElem?_eq_some_iff.mp hl).1
 have hj:row.length < rs.length:=by rw [ht.1]; omega
 obtain ⟨T,f,dT,hT,hm,_⟩:=ht.2 row.length hj
 rw [Nat.sub_self,List.drop_zero] at hm
 have hiff:(cU (aG T) (.inl v)).isSome=true↔Wo K row v:=by rw [kB,hT.mem,hm]
 have h0:aQ 3 (au bo (ab (ae 0) (ab (ae 2) ak))) [some (tupI row),some (.int v),some (tupI K),none,none,none,none,none,none,none] S=.ok (.nx [some (tupI row),some (.int v),some (tupI K),some (.ref l),none,none,none,none,none,none]) S1:=aS ((aw (ag (af rfl) (ag (af rfl) rfl))).trans e1)
 have hc:tV (eOp (gD true) (ae 1) (eOp oIx (ae 3) (eUn jv (eC (.int 1))))) [some (tupI row),some (.int v),some (tupI K),some (.ref l),none,none,none,none,none,none] S1=.ok (!(cU (aG T) (.inl v)).isSome) S1:=bw (ax (af rfl) (ax (af rfl) rfl (tK hl ht.1)) (CT dT v))
 cases hb:(cU (aG T) (.inl v)).isSome with
 | false=>
  rw [hb] at hc
  have hnw:¬ Wo K row v:=fun hw=>by rw [hiff.mpr hw] at hb; cases hb
  rw [find_none hnw]
  exact ⟨S1,bb (ρ:=[some (tupI row),some (.int v),some (tupI K),none,none,none,none,none,none,none]) rfl ((av h0).trans (tE ((qE hc).trans rfl))),p1⟩
 | true=>
  rw [hb] at hc
  have hw:Wo K row v:=hiff.mp hb
  have hnew:∀ r ∈ rs,S1.length ≠ r:=fun r hr=>by
   obtain ⟨j,hj',rfl⟩:=List.getElem_of_mem hr
   obtain ⟨_,_,d,_⟩:=ht.2 j hj'
   have:=d.lt
   omega
  have ht2:pB K row (S1 ++ [.lst []]) rs:=⟨ht.1,fun j hj=>by
   obtain ⟨T,f,d,r⟩:=ht.2 j hj
   exact ⟨T,f,d.app,r⟩⟩
  obtain ⟨S2,ys,ρ,e2,h4,hc2,hf,p2⟩:=tM hs hk hK h6 (S0:=S1) (l:=l) (c:=S1.length) (rs:=rs) (by omega) hnew (Nat.le_refl _) (some (.int v)) row 0 (S1 ++ [.lst []]) [] v none none none none (by omega) rfl (by rw [List.getElem?_append_left hll]; exact hl) (by simp) ht2 (Nat.le_refl _) hw (Pre.app _ _)
  rw [hf.find]
  refine ⟨S2,?_,p1.trans p2⟩
  have hnum:kI (ab (ae 0) ak) [some (tupI row),some (.int v),some (tupI K),some (.ref l),some (.ref S1.length),some (.int v),none,none,none,none] (S1 ++ [.lst []])=.ok (numbered 0 (row.map .int)) (S1 ++ [.lst []]):=by
   unfold kI
   rw [ag (af rfl) rfl,R.bind_ok]
   rfl
  have hnewl:eNew ak [some (tupI row),some (.int v),some (tupI K),some (.ref l),none,none,none,none,none,none] S1=.ok (.ref S1.length) (S1 ++ [.lst []]):=by simp [eNew,ak,R.bind]
  refine bb (ρ:=[some (tupI row),some (.int v),some (tupI K),none,none,none,none,none,none,none]) rfl ((av h0).trans ((av ((cP hc).trans rfl)).trans ((av (aS hnewl)).trans ((av (aS (af rfl))).trans ((av ((ig hnum).trans e2)).trans (aR (bW (ag (af h4) rfl) ?_)))))))
  show (bg S2 (.ref S1.length)).map D.tup=_
  simp only [bg,hc2]
  rfl
theorem gu {xs:List Int} (h:Row xs) (S:Sto):bf [.tup (xs.map .int)] S=.ok .non S:=by
 have e:=xc (S:=S) h.okay
 rw [h.is] at e
 simp [bf,fnM,hZ,sIf,aV,tNx,R.nx,PD.dG,tV,au,ae,ab,ak,R.bind,e]
theorem sg {xs:List Int} (h:Row xs) (v:Int) (S:Sto):bj [tupI xs,.int v] S=.ok .non S:=by
 have e2:cg [.int v] S=.ok .non S:=by
  have e:=qD (d:=.int v) (S:=S) rfl
  have e':isI (.int v)=true:=rfl
  rw [e'] at e
  simp [cg,fnM,fL,sIf,aV,tNx,R.nx,PD.dG,tV,au,ae,ab,ak,R.bind,e]
 refine pk (ρ:=[some (tupI xs),some (.int v)]) rfl ((av (bA ((aw (ag (af rfl) rfl)).trans (gu h S)))).trans (bA ((aw (ag (af rfl) rfl)).trans e2)))
theorem n6:∀ T:List (Int × Int),gR (aG T)=some (T.map (·.1))
 | []=>rfl
 | e :: T=>by
  show (gR (aG T)).map (e.1 :: ·)=_
  rw [n6 T]; rfl
def wsS (T:List (Int × Int)):List Int:=jh (T.map (·.1))
theorem BF {S:Sto} {n:Nat} {T:List (Int × Int)} (h:dAt S n T) (hz:T.length≤1000):wV S [.ref n]=some (.lst ((wsS T).map .int)):=by
 have z:(1000:Nat)≤sizeLine:=by decide
 show (match qu S (.ref n) with | some ns=>if ns.length≤sizeLine then some (D.lst ((jh ns).map .int)) else none | none=>none)=_
 have e:qu S (.ref n)=some (T.map (·.1)):=by
  unfold qu
  rw [h.seq]
  simp only [h.dic,n6]
 rw [e]
 dsimp only
 rw [if_pos (by rw [List.length_map]; omega)]
 rfl
theorem yY {T:List (Int × Int)} {f:List Int} (h:Hist T f) (w:Int):w ∈ wsS T↔w ∈ f:=by
 unfold wsS
 rw [(ft _).mem_iff,List.mem_map,← h.mem w]
theorem yZ (T:List (Int × Int)):(wsS T).length=T.length:=by unfold wsS; rw [(ft _).length_eq,List.length_map]
theorem sh {xs:List Int} (hr:Row xs) (h10:xs.length≤10) (S:Sto):bT [tupI xs] S=.ok .non S:=by
 have hl:et S [tupI xs]=some (.int xs.length):=by show some (D.int ((xs.map D.int).length:Int))=_; rw [List.length_map]
 have hc:tV (eOp oGt (eB et (ab (ae 0) ak)) (eC (.int (10)))) [some (tupI xs)] S=.ok (decide ((10:Int) < xs.length)) S:=bw (ax (bW (ag (af rfl) rfl) hl) rfl rfl)
 rw [decide_eq_false (by omega)] at hc
 exact pk (ρ:=[some (tupI xs)]) rfl ((av (bA ((aw (ag (af rfl) rfl)).trans (gu hr S)))).trans ((cP hc).trans rfl))
theorem n8 {xs:List Int} (hr:Row xs) (h10:xs.length≤10) (v:Int) (S:Sto):aj [tupI xs,.int v] S=.ok .non S:=
 pk (ρ:=[some (tupI xs),some (.int v)]) rfl ((av (bA ((aw (ag (af rfl) (ag (af rfl) rfl))).trans (sg hr v S)))).trans (bA ((aw (ag (af rfl) rfl)).trans (sh hr h10 S))))
structure Lay (K row:List Int) (Ls:List (List Int)):Prop where
 len:Ls.length=row.length + 1
 up:∀ L ∈ Ls,L.Pairwise (· < ·)
 mem:∀ i,i≤row.length→∀ v,v ∈ Ls.getD i []↔Wo K (row.take i) v
 sm:∀ L ∈ Ls,L.length≤1000
abbrev dR (Ls:List (List Int)):List D:=Ls.map tupI
theorem BG {T:List (Int × Int)} (h:Keys T):(wsS T).Pairwise (· < ·):=by
 have a:=g9 (T.map (·.1))
 have nd:(T.map (·.1)).Nodup:=by
  unfold Keys at h
  rw [List.nodup_iff_pairwise_ne,List.pairwise_map]
  exact h
 have b:(jh (T.map (·.1))).Pairwise (· ≠ ·):=List.nodup_iff_pairwise_ne.mp ((ft (T.map (·.1))).nodup_iff.mpr nd)
 exact (a.and b).imp fun ⟨x,y⟩=>by omega
theorem Lay.snoc {K pre:List Int} {Ls:List (List Int)} {x:Int} {L:List Int} (h:Lay K pre Ls) (hL:L.Pairwise (· < ·)) (hm:∀ v,v ∈ L↔Wo K (pre ++ [x]) v) (hs:L.length≤1000):Lay K (pre ++ [x]) (Ls ++ [L]):=by
 refine ⟨by rw [List.length_append,List.length_append,h.len]; rfl,fun M hM=>?_,fun i hi v=>?_,fun M hM=>?_⟩
 ·rcases List.mem_append.mp hM with q | q
  ·exact h.up M q
  ·rw [List.mem_singleton.mp q]; exact hL
 ·rw [List.length_append,List.length_singleton] at hi
  by_cases c:i≤pre.length
  ·have e:(Ls ++ [L]).getD i []=Ls.getD i []:=by
    rw [List.getD_eq_getElem?_getD,List.getD_eq_getElem?_getD,List.getElem?_append_left (by rw [h.len]; omega)]
   rw [e,h.mem i c v,List.take_append_of_le_length c]
  ·have ei:i=pre.length + 1:=by omega
   subst ei
   have e:(Ls ++ [L]).getD (pre.length + 1) []=L:=by
    rw [List.getD_eq_getElem?_getD,List.getElem?_append_right (by rw [h.len]; omega),h.len]
    simp
   rw [e,hm v,List.take_of_length_le (by rw [List.length_append]; simp)]
 ·rcases List.mem_append.mp hM with q | q
  ·exact h.sm M q
  ·rw [List.mem_singleton.mp q]; exact hs
abbrev llB:SM:=(aA (aQ 2 (au cj (ab (ae 2) (ab (ae 4) (ab (ae 1) ak))))) (bE (ko cc (ae 3) (ab (eB jw (ab (eB wV (ab (ae 2) ak)) ak)) ak))))
theorem vg {S:Sto} {f:Nat} {xs:List D} {v:D} (h:S[f]?=some (.lst xs)) (hl:xs.length < sizeLine):cc S (.ref f) [v]=.ok .non (S.set f (.lst (xs ++ [v]))):=by
 unfold cc
 simp only [h]
 rw [if_pos hl]
theorem y6 {S:Sto} {f:Nat} {xs:List D} (h:S[f]?=some (.lst xs)):isL S (.ref f)=true:=by
 unfold isL; simp only [h]
theorem tN {K:List Int} (hK:K.length≤3) (hk:∀ q ∈ K,-1≤q∧q≤1) {S0:Sto} (r0:Option D) {l:Nat} (hl0:S0.length≤l):∀ (xs pre:List Int) (S:Sto) (n:Nat) (T:List (Int × Int)) (Ls:List (List Int)) (r4:Option D),dAt S n T→n ≠ l→Hist T (wsL K pre)→(wsL K pre).length * 3 ^ xs.length≤729→S0.length≤n→Pre S0 S→S[l]?=some (.lst (dR Ls))→Lay K pre Ls→pre.length + xs.length≤100→
  ∃ (S':Sto) (Ls':List (List Int)) (a2 a4:Option D),forL (.nm 4) llB (xs.map .int) [r0,some (tupI K),some (.ref n),some (.ref l),r4] S=.ok (.nx [r0,some (tupI K),a2,some (.ref l),a4]) S'∧S'[l]?=some (.lst (dR Ls'))∧Lay K (pre ++ xs) Ls'∧Pre S0 S'
 | [],pre,S,n,T,Ls,r4,hd,hnl,h,hz,hn,p,hl,hL,_=>⟨S,Ls,some (.ref n),r4,rfl,hl,by rw [List.append_nil]; exact hL,p⟩
 | x :: xs,pre,S,n,T,Ls,r4,hd,hnl,h,hz,hn,p,hl,hL,hb=>by
  rw [List.length_cons] at hz hb
  have z:(1000:Nat)≤sizeLine:=by decide
  obtain ⟨z1,z2⟩:=tJ hK hz
  obtain ⟨T1,e1,h1⟩:=jE (x:=x) hk hd h z1
  rw [← gU] at h1
  have hll:l < S.length:=(List.getElem?_eq_some_iff.mp hl).1
  have hl1:(S.set n (.fdic (aG T)) ++ [SO.dic (aG T1)])[l]?=some (.lst (dR Ls)):=by
   rw [List.getElem?_append_left (by rw [List.length_set]; exact hll),List.getElem?_set_ne hnl]; exact hl
  have p1:Pre S0 (S.set n (.fdic (aG T)) ++ [SO.dic (aG T1)]):=(p.set hn _).trans (Pre.app _ _)
  have d1:dAt (S.set n (.fdic (aG T)) ++ [SO.dic (aG T1)]) S.length T1:=.inl (by simp)
  have l1:(S.set n (.fdic (aG T)) ++ [SO.dic (aG T1)]).length=S.length + 1:=by simp
  generalize S.set n (.fdic (aG T)) ++ [SO.dic (aG T1)]=S1 at *
  have tl:T1.length≤1000:=by
   have:=h1.len
   have e:(wsL K (pre ++ [x])).length=(wsL K pre).length * K.length:=by rw [gU,kA]
   omega
  have hs:=BF d1 tl
  have hap:=vg (v:=tupI (wsS T1)) hl1 (by rw [List.length_map,hL.len]; omega)
  have eL:dR Ls ++ [tupI (wsS T1)]=dR (Ls ++ [wsS T1]):=by unfold dR; rw [List.map_append]; rfl
  rw [eL] at hap
  have hL':=hL.snoc (x:=x) (BG h1.keys) (fun v=>by rw [yY h1,iq]) (by rw [yZ]; exact tl)
  have eb:llB [r0,some (tupI K),some (.ref n),some (.ref l),some (.int x)] S=.ok (.nx [r0,some (tupI K),some (.ref S.length),some (.ref l),some (.int x)]) (S1.set l (.lst (dR (Ls ++ [wsS T1])))):=
   (av (aS ((aw (ag (af rfl) (ag (af rfl) (ag (af rfl) rfl)))).trans e1))).trans (bA ((pq (af rfl) (y6 hl1) (ag (bW (ag (bW (ag (af rfl) rfl) hs) rfl) rfl) rfl)).trans hap))
  have d2:dAt (S1.set l (.lst (dR (Ls ++ [wsS T1])))) S.length T1:=d1.set (by omega)
  have p2:Pre S0 (S1.set l (.lst (dR (Ls ++ [wsS T1])))):=p1.set hl0 _
  have hl2:(S1.set l (.lst (dR (Ls ++ [wsS T1]))))[l]?=some (.lst (dR (Ls ++ [wsS T1]))):=List.getElem?_set_self (by omega)
  obtain ⟨S',Ls',a2,a4,e2,q1,q2,q3⟩:=tN hK hk r0 hl0 xs (pre ++ [x]) _ S.length T1 (Ls ++ [wsS T1]) (some (.int x)) d2 (by omega) h1 (by rw [gU,kA]; exact z2) p.len p2 hl2 hL' (by rw [List.length_append,List.length_singleton]; omega)
  refine ⟨S',Ls',a2,a4,?_,q1,?_,q3⟩
  ·rw [List.map_cons]
   exact (cv (r1:=[r0,some (tupI K),some (.ref n),some (.ref l),some (.int x)]) rfl eb).trans e2
  ·rw [List.append_assoc] at q2
   exact q2
theorem lay0 (K:List Int):Lay K [] [[0]]:=⟨rfl,fun L h=>by rw [List.mem_singleton.mp h]; exact List.pairwise_singleton _ _,fun i hi v=>by
 have:i=0:=by simpa using hi
 subst this
 show v ∈ [0]↔Wo K [] v
 rw [List.mem_singleton]
 rfl,fun L h=>by rw [List.mem_singleton.mp h]; decide⟩
theorem vh {K row:List Int} (hK:K.length≤3) (hk:∀ q ∈ K,-1≤q∧q≤1) (h6:row.length≤6) (S:Sto):∃ (S':Sto) (l:Nat) (Ls:List (List Int)),dy [tupI row,tupI K] S=.ok (.ref l) S'∧S'[l]?=some (.lst (dR Ls))∧Lay K row Ls∧S.length≤l∧Pre S S':=by
 have z1:(1:Nat)≤sizeLine:=by decide
 have p0:Pre S (S ++ [.dic (aG [(0,1)]),.lst (dR [[0]])]):=Pre.app _ _
 have hd:dAt (S ++ [SO.dic (aG [(0,1)]),.lst (dR [[0]])]) S.length [(0,1)]:=.inl (by simp)
 have hl:(S ++ [SO.dic (aG [(0,1)]),.lst (dR [[0]])])[S.length + 1]?=some (.lst (dR [[0]])):=by
  rw [List.getElem?_append_right (by omega),show S.length + 1 - S.length=1 by omega]; rfl
 obtain ⟨S',Ls,a2,a4,e,q1,q2,q3⟩:=tN hK hk (S0:=S) (some (tupI row)) (l:=S.length + 1) (by omega) row [] _ S.length [(0,1)] [[0]] none hd (by omega) Hist.zero (by
  show 1 * 3 ^ row.length≤729
  rw [Nat.one_mul]
  exact Nat.le_trans (Nat.pow_le_pow_right (by decide) h6) (by decide)) (Nat.le_refl _) p0 hl (lay0 K) (by simp; omega)
 rw [List.nil_append] at q2
 have es:aQ 3 (eNew (ab (gz (ab (eC (.int 0)) ak)) ak)) [some (tupI row),some (tupI K),some (.ref S.length),none,none] (S ++ [.dic (aG [(0,1)])])=.ok (.nx [some (tupI row),some (tupI K),some (.ref S.length),some (.ref (S.length + 1)),none]) (S ++ [.dic (aG [(0,1)]),.lst (dR [[0]])]):=by
  have ht:ab (gz (ab (eC (.int 0)) ak)) ak [some (tupI row),some (tupI K),some (.ref S.length),none,none] (S ++ [SO.dic (aG [(0,1)])])=.ok (dR [[0]]) (S ++ [.dic (aG [(0,1)])]):=ag (gq (xs:=[.int 0]) rfl z1) rfl
  have:eNew (ab (gz (ab (eC (.int 0)) ak)) ak) [some (tupI row),some (tupI K),some (.ref S.length),none,none] (S ++ [SO.dic (aG [(0,1)])])=.ok (.ref (S ++ [SO.dic (aG [(0,1)])]).length) ((S ++ [.dic (aG [(0,1)])]) ++ [.lst (dR [[0]])]):=by
   unfold eNew
   rw [ht,R.bind_ok,if_pos (by show 1≤sizeLine; exact z1)]
  rw [show (S ++ [SO.dic (aG [(0,1)])]).length=S.length + 1 by simp,List.append_assoc] at this
  exact aS this
 exact ⟨S',S.length + 1,Ls,bb (ρ:=[some (tupI row),some (tupI K),none,none,none]) rfl ((av (aS pA)).trans ((av es).trans ((av ((gf (af rfl) rfl).trans e)).trans (aR (af rfl))))),q1,q2,by omega,q3⟩
theorem si {S:Sto} {neg:Bool} {v:Int} {L:List Int}:oIn neg S (.int v) (tupI L)=some (.bl (if neg then !decide (v ∈ L) else decide (v ∈ L))):=by
 have h1:(L.map D.int).all iI=true:=List.all_eq_true.mpr fun d hd=>by
  obtain ⟨i,_,rfl⟩:=List.mem_map.mp hd; rfl
 have h2:((L.map D.int).any fun z=>eqF z (.int v))=decide (v ∈ L):=by
  rw [Bool.eq_iff_iff,List.any_eq_true,decide_eq_true_iff]
  constructor
  ·rintro ⟨d,hd,q⟩
   obtain ⟨i,hi,rfl⟩:=List.mem_map.mp hd
   have:i=v:=by simpa [eqF] using q
   rw [← this]; exact hi
  ·intro h
   exact ⟨.int v,List.mem_map.mpr ⟨v,h,rfl⟩,by simp [eqF]⟩
 unfold oIn
 simp only [bg]
 rw [if_pos ⟨rfl,h1⟩,h2]
def lAt (S:Sto) (l:Nat) (xs:List D):Prop:=S[l]?=some (.lst xs) ∨ S[l]?=some (.flst xs)
theorem lAt.seq {S:Sto} {l:Nat} {xs:List D} (h:lAt S l xs):bg S (.ref l)=some xs:=by
 rcases h with h | h <;> simp [bg,h]
theorem lAt.pre {S S':Sto} {l:Nat} {xs:List D} (h:lAt S l xs) (p:Pre S S'):lAt S' l xs:=by
 have hl:l < S.length:=by rcases h with h | h <;> exact (List.getElem?_eq_some_iff.mp h).1
 unfold lAt
 rw [p.old l hl]; exact h
theorem sj {S:Sto} {l:Nat} {Ls:List (List Int)} (h:lAt S l (dR Ls)) {i:Nat} (hi:i < Ls.length):oIx S (.ref l) (.int (i:Int))=some (tupI (Ls.getD i [])):=by
 unfold oIx
 simp only [h.seq]
 have:=iK (xs:=dR Ls) (i:=i) (by rw [List.length_map]; exact hi)
 rw [List.getElem_map] at this
 rw [this,List.getD_eq_getElem?_getD,List.getElem?_eq_getElem hi]; rfl
theorem tO {S:Sto} {l:Nat} {Ls:List (List Int)} {n:Nat} (h:lAt S l (dR Ls)) (hn:Ls.length=n + 1):oIx S (.ref l) (.int (-1))=some (tupI (Ls.getD n [])):=by
 unfold oIx
 simp only [h.seq]
 have hi:n < Ls.length:=by omega
 have e:atI (dR Ls) (-1)=(dR Ls)[n]?:=by
  unfold atI ixN
  have hl:(dR Ls).length=n + 1:=by rw [List.length_map,hn]
  rw [hl,if_neg (by omega),if_pos (by omega)]
  show (dR Ls)[((-1:Int) + ((n + 1:Nat):Int)).toNat]?=_
  rw [show ((-1:Int) + ((n + 1:Nat):Int)).toNat=n by omega]
 rw [e,List.getElem?_map,List.getElem?_eq_getElem hi,List.getD_eq_getElem?_getD,List.getElem?_eq_getElem hi]; rfl
theorem sk {K row:List Int} (hK:K.length≤3) (hk:∀ q ∈ K,-1≤q∧q≤1) (h6:row.length≤6) (v:Int) (S:Sto):∃ S':Sto,Pre S S'∧((Wo K row v∧aY [.int v,tupI row,tupI K] S=.ok .non S') ∨ (¬ Wo K row v∧∃ (l:Nat) (Ls:List (List Int)),aY [.int v,tupI row,tupI K] S=.ok (.ref l) S'∧lAt S' l (dR Ls)∧Lay K row Ls∧S.length≤l)):=by
 obtain ⟨S',l,Ls,e,hl,hL,l0,p⟩:=vh hK hk h6 S
 have hx:=tO (S:=S') (.inl hl) hL.len
 have hm:=hL.mem row.length (Nat.le_refl _) v
 rw [List.take_length] at hm
 have ht:tV (eOp (oIn false) (ae 0) (eOp oIx (ae 3) (eUn jv (eC (.int 1))))) [some (.int v),some (tupI row),some (tupI K),some (.ref l)] S'=.ok (decide (v ∈ Ls.getD row.length [])) S':=bw (ax (af rfl) (ax (af rfl) rfl hx) si)
 refine ⟨S',p,?_⟩
 by_cases c:Wo K row v
 ·rw [decide_eq_true (hm.mpr c)] at ht
  exact .inl ⟨c,bb (ρ:=[some (.int v),some (tupI row),some (tupI K),none]) rfl ((av (aS ((aw (ag (af rfl) (ag (af rfl) rfl))).trans e))).trans (aR ((zG ht).trans rfl)))⟩
 ·rw [decide_eq_false (fun z=>c (hm.mp z))] at ht
  exact .inr ⟨c,l,Ls,bb (ρ:=[some (.int v),some (tupI row),some (tupI K),none]) rfl ((av (aS ((aw (ag (af rfl) (ag (af rfl) rfl))).trans e))).trans (aR ((zH ht).trans (af rfl)))),.inl hl,hL,l0⟩
theorem pC (i:Int) (S:Sto):aW [.int i] S=.ok (.bl true) S:=by kernel_rfl
theorem ir {S:Sto} {A:List Int}:et S [tupI A]=some (.int A.length):=by
 show some (D.int ((A.map D.int).length:Int))=_
 rw [List.length_map]
theorem oo {S:Sto} {A:List Int} {i:Nat} (h:i < A.length):oIx S (tupI A) (.int (i:Int))=some (.int A[i]):=by
 have:=iK (xs:=A.map D.int) (i:=i) (by rw [List.length_map]; exact h)
 rw [List.getElem_map] at this
 exact this
theorem vi {r:Rho} {S:Sto} {t:AM} {n:Nat} (h:t r S=.ok [.int 1,.int (n:Int)] S) (hn:n≤100000):jV t r S=.ok ((List.range (n - 1)).map fun (m:Nat)=>D.int (1 + m)) S:=by
 unfold jV
 rw [h,R.bind_ok]
 have b1:=xf (n:=1) (by decide) (by decide)
 have b2:=xf (n:=(n:Int)) (by omega) (by omega)
 have e:PD.u7 [.int 1,.int (n:Int)]=some ((1:Int),(n:Int)):=by
  simp only [PD.u7]
  rw [if_pos ⟨b1.2,b1.1,b2.2,b2.1⟩]
 simp only [e]
 rw [show ((n:Int) - 1).toNat=n - 1 by omega]
theorem CV {S:Sto} {i j:Int}:oLt S (.int i) (.int j)=some (.bl (decide (i < j))):=rfl
theorem y8 {L:List Int} (hu:L.Pairwise (· < ·)) {m:Nat} (hm:m + 1 < L.length) (S:Sto):eOp oLt (eOp oIx (ae 1) (eOp dq (ae 0) (eC (.int 1)))) (eOp oIx (ae 1) (ae 0)) [some (.int (1 + (m:Int))),some (tupI L)] S=.ok (.bl true) S:=by
 have e1:dq S (.int (1 + (m:Int))) (.int 1)=some (.int (m:Int)):=by
  show some (D.int (1 + (m:Int) - 1))=_
  rw [show (1 + (m:Int) - 1)=m by omega]
 have hm0:m < L.length:=by omega
 have e2:oIx S (tupI L) (.int (1 + (m:Int)))=some (.int L[m + 1]):=by
  rw [show (1 + (m:Int))=((m + 1:Nat):Int) by omega]
  exact oo hm
 have lt:L[m] < L[m + 1]:=List.pairwise_iff_getElem.mp hu m (m + 1) hm0 hm (by omega)
 have ha:eOp dq (ae 0) (eC (.int 1)) [some (.int (1 + (m:Int))),some (tupI L)] S=.ok (.int (m:Int)) S:=ax (af rfl) rfl e1
 have hb:eOp oIx (ae 1) (eOp dq (ae 0) (eC (.int 1))) [some (.int (1 + (m:Int))),some (tupI L)] S=.ok (.int L[m]) S:=ax (af rfl) ha (oo hm0)
 have hd:eOp oIx (ae 1) (ae 0) [some (.int (1 + (m:Int))),some (tupI L)] S=.ok (.int L[m + 1]) S:=ax (af rfl) (af rfl) e2
 have hf:oLt S (.int L[m]) (.int L[m + 1])=some (.bl true):=by rw [CV,decide_eq_true lt]
 exact ax hb hd hf
theorem vj {L:List Int} (hu:L.Pairwise (· < ·)) (hl:L.length≤1000) (S:Sto):eI [tupI L] S=.ok (.bl true) S:=by
 have z:(1000:Nat)≤sizeLine:=by decide
 have hi:gL S [tupI L,.ty "tuple"]=some (.bl true):=by simp [gL,tyD,fK]
 have hc:=eU (enc:=D.int) (out:=fun _:Int=>D.bl true) (e:=au aW (ab (ae 0) ak)) (it:=cz (ae 0) bJ) (caps:=[]) (tl:=[]) (r:=[some (tupI L)]) (S:=S) L (iU rfl rfl) (by omega) rfl fun x _=>(aw (ag (af rfl) rfl)).trans (pC x S)
 have ha:gi S [.lst (L.map fun _:Int=>D.bl true)]=some (.bl true):=by
  rw [fH (f:=fun _=>true),List.all_eq_true.mpr fun _ _=>rfl]
 have hr:jV (ab (eC (.int 1)) (ab (eB et (ab (ae 0) ak)) ak)) [some (tupI L)] S=.ok ((List.range (L.length - 1)).map fun (m:Nat)=>D.int (1 + m)) S:=vi (ag rfl (ag (bW (ag (af rfl) rfl) ir) rfl)) (by omega)
 have hc2:=eU (enc:=fun (m:Nat)=>D.int (1 + m)) (out:=fun _:Nat=>D.bl true) (e:=eOp oLt (eOp oIx (ae 1) (eOp dq (ae 0) (eC (.int 1)))) (eOp oIx (ae 1) (ae 0))) (caps:=[0]) (tl:=[some (tupI L)]) (List.range (L.length - 1)) hr (by rw [List.length_range]; omega) rfl fun m hm=>y8 hu (by have:=List.mem_range.mp hm; omega) S
 have ha2:gi S [.lst ((List.range (L.length - 1)).map fun _:Nat=>D.bl true)]=some (.bl true):=by
  rw [fH (f:=fun _=>true),List.all_eq_true.mpr fun _ _=>rfl]
 exact bb (ρ:=[some (tupI L)]) rfl ((av ((cP ((jr (dP (b:=true) (bw (bW (ag (af rfl) (ag rfl rfl)) hi)))).trans (dP (b:=true) (bw (bW (ag hc rfl) ha))))).trans rfl)).trans (aR (bW (ag hc2 rfl) ha2)))
def gg (B:List Int):List (KD × D):=B.map fun v=>(.inl v,.bl true)
theorem xm:∀ (U A:List Int),(A ++ U).Nodup→g7 (gg A) (gg U)=gg (A ++ U)
 | [],A,_=>by rw [List.append_nil]; rfl
 | v :: U,A,h=>by
  have na:(gg A).any (fun kv=>decide (kv.1=(.inl v:KD)))=false:=by
   rw [List.any_eq_false]
   intro kv hkv hq
   obtain ⟨a,ha,rfl⟩:=List.mem_map.mp hkv
   have e:a=v:=Sum.inl.inj (of_decide_eq_true hq)
   exact (List.nodup_append.mp h).2.2 a ha v (.head _) e
  have e1:putD (gg A) (.inl v) (.bl true)=gg (A ++ [v]):=by
   unfold putD
   rw [na]
   simp [gg]
  have e2:A ++ v :: U=(A ++ [v]) ++ U:=by rw [List.append_assoc]; rfl
  show g7 (putD (gg A) (.inl v) (.bl true)) (gg U)=_
  rw [e1,e2]
  exact xm U (A ++ [v]) (e2 ▸ h)
theorem CW:∀ B:List Int,PD.u5 (B.map fun v=>D.tup [.int v,.bl true])=some (gg B)
 | []=>rfl
 | v :: B=>by
  rw [List.map_cons]
  unfold PD.u5
  simp only [gN,CW B]
  rfl
theorem inB {S:Sto} {p:Nat} {B:List Int} (hp:S[p]?=some (.dic (gg B))) {v:Int} (hv:v ∈ B):gD true S (.int v) (.ref p)=some (.bl false):=by
 have hs:bg S (.ref p)=none:=by simp [bg,hp]
 have hd:du S (.ref p)=some (gg B):=by simp [du,hp]
 have hk:(cU (gg B) (.inl v)).isSome=true:=by
  rw [nY,List.any_eq_true]
  exact ⟨_,List.mem_map.mpr ⟨v,hv,rfl⟩,decide_eq_true rfl⟩
 unfold gD
 rw [hs]
 simp only [Option.isSome_none,Bool.false_eq_true,if_false]
 unfold oX
 simp only [hd,gN,hk]
 rfl
abbrev loI:SM:=(sIf (tV (eOp (gD true) (eOp bO (ae 5) (eOp cf (ae 6) (ae 2))) (ae 4))) (aO (eC (.bl false))) aV)
theorem qR {S:Sto} {p:Nat} {B:List Int} (hp:S[p]?=some (.dic (gg B))) {a x:Int} (r0 r1 r3:Option D):∀ (K:List Int) (r6:Option D),(∀ q ∈ K,(-1≤q∧q≤1)∧a + q * x ∈ B)→∃ a6:Option D,forL (.nm 6) loI (K.map .int) [r0,r1,some (.int x),r3,some (.ref p),some (.int a),r6] S=.ok (.nx [r0,r1,some (.int x),r3,some (.ref p),some (.int a),a6]) S
 | [],r6,_=>⟨r6,rfl⟩
 | q :: K,r6,h=>by
  obtain ⟨hq,hB⟩:=h q (.head _)
  obtain ⟨a6,e⟩:=qR hp r0 r1 r3 K (some (.int q)) fun y hy=>h y (.tail _ hy)
  rw [List.map_cons]
  exact ⟨a6,(cv (r1:=[r0,r1,some (.int x),r3,some (.ref p),some (.int a),some (.int q)]) rfl ((cP (bw (ax (ax (af rfl) (ax (af rfl) (af rfl) (fq (.inl (sml hq)))) rfl) (af rfl) (inB hp hB)))).trans rfl)).trans e⟩
theorem qS {S:Sto} {p:Nat} {B K:List Int} (hp:S[p]?=some (.dic (gg B))) (hK:∀ q ∈ K,-1≤q∧q≤1) {x:Int} (r0 r1:Option D):∀ (A:List Int) (r5 r6:Option D),(∀ a ∈ A,∀ q ∈ K,a + q * x ∈ B)→∃ a5 a6:Option D,forL (.nm 5) (fJ (cz (ae 3) bJ) (.nm 6) loI) (A.map .int) [r0,r1,some (.int x),some (tupI K),some (.ref p),r5,r6] S=.ok (.nx [r0,r1,some (.int x),some (tupI K),some (.ref p),a5,a6]) S
 | [],r5,r6,_=>⟨r5,r6,rfl⟩
 | a :: A,r5,r6,h=>by
  obtain ⟨b6,e1⟩:=qR hp (a:=a) (x:=x) r0 r1 (some (tupI K)) K r6 fun q hq=>⟨hK q hq,h a (.head _) q hq⟩
  obtain ⟨a5,a6,e⟩:=qS hp hK r0 r1 A (some (.int a)) b6 fun y hy=>h y (.tail _ hy)
  rw [List.map_cons]
  exact ⟨a5,a6,(cv (r1:=[r0,r1,some (.int x),some (tupI K),some (.ref p),some (.int a),r6]) rfl ((gf (af rfl) rfl).trans e1)).trans e⟩
theorem xn {A B K:List Int} (hK:∀ q ∈ K,-1≤q∧q≤1) {x:Int} (nd:B.Nodup) (hb:B.length≤1000) (hc:∀ a ∈ A,∀ q ∈ K,a + q * x ∈ B) (S:Sto):fu [tupI A,tupI B,.int x,tupI K] S=.ok (.bl true) (S ++ [.dic (gg B)]):=by
 have z:(1000:Nat)≤sizeLine:=by decide
 have z2:(2:Nat)≤sizeLine:=by decide
 have h1:=eU (enc:=D.int) (out:=fun v:Int=>D.tup [.int v,.bl true]) (e:=gz (ab (ae 0) (ab (eC (.bl true)) ak))) (it:=cz (ae 1) bJ) (caps:=[]) (tl:=[]) (r:=[some (tupI A),some (tupI B),some (.int x),some (tupI K),none,none,none]) (S:=S) B (iU rfl rfl) (by omega) rfl fun v _=>gq (xs:=[.int v,.bl true]) (ag (af rfl) (ag rfl rfl)) z2
 have h2:wY S [.lst (B.map fun v=>D.tup [.int v,.bl true])]=.ok (.ref S.length) (S ++ [.dic (gg B)]):=by
  have hm:g7 [] (gg B)=gg B:=xm B [] nd
  unfold wY
  simp only [qp,CW,hm]
 have hbr:∀ {f:Sto→List D→R D} {t:AM} {r:Rho} {S S1:Sto} {xs:List D},t r S=.ok xs S1→eBR f t r S=f S1 xs:=fun h=>by unfold eBR; rw [h,R.bind_ok]
 have hp:(S ++ [SO.dic (gg B)])[S.length]?=some (.dic (gg B)):=by simp
 obtain ⟨a5,a6,e⟩:=qS hp hK (x:=x) (some (tupI A)) (some (tupI B)) A none none hc
 exact bb (ρ:=[some (tupI A),some (tupI B),some (.int x),some (tupI K),none,none,none]) rfl ((av (aS ((hbr (ag h1 rfl)).trans h2))).trans ((av ((gf (af rfl) rfl).trans e)).trans (aR rfl)))
theorem kz {i:Nat} {l:Nat} {xs:List D} {ρ:Rho} {S:Sto} (hi:ρ[i]?=some (some (.ref l))) (h:lAt S l xs):∃ S1:Sto,yN (ae i) ρ S=.ok xs S1∧S1[l]?=some (.flst xs)∧(∀ j,j ≠ l→S1[j]?=S[j]?)∧S1.length=S.length:=by
 have hl:l < S.length:=by rcases h with h | h <;> exact (List.getElem?_eq_some_iff.mp h).1
 unfold yN
 rw [af hi,R.bind_ok]
 rcases h with h | h
 ·simp only [h]
  exact ⟨_,rfl,List.getElem?_set_self hl,fun j hj=>List.getElem?_set_ne (Ne.symm hj),List.length_set⟩
 ·simp only [h]
  exact ⟨S,rfl,h,fun _ _=>rfl,rfl⟩
theorem y9 {S:Sto} {l:Nat} {xs:List D} (h:lAt S l xs):jW S [.ref l,.ty "list"]=some (.bl true):=by
 rcases h with h | h
 ·have e:jW S [.ref l,.ty "list"]=gL S [.ref l,.ty "list"]:=by simp only [jW,h]
  rw [e]
  simp [gL,tyD,fK,h]
 ·simp [jW,h,fK]
theorem vk {A:Type} {enc out:A→D} {e:EM} {it:AM} {caps:List Nat} {tl r:Rho} {S S1:Sto} (xs:List A) (hi:it r S=.ok (xs.map enc) S1) (hl:xs.length≤sizeLine) (hc:caps.map (fun i=>(r[i]?).join)=tl) (h:∀ x ∈ xs,e (some (enc x) :: tl) S1=.ok (out x) S1):bF it 1 caps (.nm 0) cA e r S=.ok (.lst (xs.map out)) S1:=by
 unfold bF
 rw [hi,R.bind_ok,if_pos (by rw [List.length_map]; exact hl)]
 have:fN 1 caps r=none :: tl:=by unfold fN; rw [hc]; rfl
 rw [this,comp_map (out:=out) xs none h,R.bind_ok]
abbrev ldE:EM:=(au fu (ab (eOp oIx (ae 2) (ae 0)) (ab (eOp oIx (ae 2) (eOp bO (ae 0) (eC (.int 1)))) (ab (ae 1) (ab (ae 3) ak)))))
theorem tP {K:List Int} (hK:∀ q ∈ K,-1≤q∧q≤1) {Ls:List (List Int)} (hup:∀ L ∈ Ls,L.Pairwise (· < ·)) (hsm:∀ L ∈ Ls,L.length≤1000) {l:Nat}:∀ (xs:List Int) (i:Nat) (S:Sto) (r0 r1:Option D),lAt S l (dR Ls)→i + xs.length + 1=Ls.length→(∀ j,(hj:j < xs.length)→∀ a ∈ Ls.getD (i + j) [],∀ q ∈ K,a + q * xs[j] ∈ Ls.getD (i + j + 1) [])→
  ∃ S':Sto,eV (.tp [.nm 0,.nm 1]) cA ldE (PD.numbered i (xs.map .int)) [r0,r1,some (.ref l),some (tupI K)] S=.ok (xs.map fun _=>D.bl true) S'∧Pre S S'
 | [],i,S,r0,r1,_,_,_=>⟨S,rfl,Pre.refl _⟩
 | x :: xs,i,S,r0,r1,hl,hn,hc=>by
  rw [List.length_cons] at hn
  have gm:∀ j,j < Ls.length→Ls.getD j [] ∈ Ls:=fun j hj=>by
   rw [List.getD_eq_getElem?_getD,List.getElem?_eq_getElem hj]; exact List.getElem_mem hj
  have h0:=hc 0 (by simp)
  have e2:oIx S (.ref l) (.int ((i:Int) + 1))=some (tupI (Ls.getD (i + 1) [])):=by
   rw [show (i:Int) + 1=((i + 1:Nat):Int) by omega]
   exact sj hl (by omega)
  have nd:(Ls.getD (i + 1) []).Nodup:=List.nodup_iff_pairwise_ne.mpr ((hup _ (gm (i + 1) (by omega))).imp fun h=>by omega)
  have ee:ldE [some (.int i),some (.int x),some (.ref l),some (tupI K)] S=.ok (.bl true) (S ++ [.dic (gg (Ls.getD (i + 1) []))]):=
   (aw (ag (ax (af rfl) (af rfl) (sj hl (by omega))) (ag (ax (af rfl) (ax (af rfl) rfl rfl) e2) (ag (af rfl) (ag (af rfl) rfl))))).trans (xn hK nd (hsm _ (gm (i + 1) (by omega))) h0 S)
  obtain ⟨S',e,p⟩:=tP hK hup hsm xs (i + 1) (S ++ [.dic (gg (Ls.getD (i + 1) []))]) (some (.int i)) (some (.int x)) (hl.pre (Pre.app _ _)) (by omega) (fun j hj=>by
   have:=hc (j + 1) (by simp; omega)
   rw [show i + (j + 1)=i + 1 + j by omega] at this
   exact this)
  refine ⟨S',?_,(Pre.app _ _).trans p⟩
  rw [List.map_cons,PD.numbered,eV]
  have hp:G.put (.tp [.nm 0,.nm 1]) (.tup [.int (i:Int),.int x]) [r0,r1,some (.ref l),some (tupI K)]=some [some (.int i),some (.int x),some (.ref l),some (tupI K)]:=rfl
  simp only [hp,cA,R.bind_ok,if_true,ee,e,List.map_cons]
theorem j9:∀ (xs:List D) (i:Nat),(PD.numbered i xs).length=xs.length
 | [],_=>rfl
 | x :: xs,i=>by rw [PD.numbered,List.length_cons,List.length_cons,j9 xs (i + 1)]
theorem BH {K row:List Int} (hK:∀ q ∈ K,-1≤q∧q≤1) (h6:row.length≤100) {Ls:List (List Int)} (hn:Ls.length=row.length + 1) (hup:∀ L ∈ Ls,L.Pairwise (· < ·)) (hsm:∀ L ∈ Ls,L.length≤1000) (h0:0 ∈ Ls.getD 0 []) (hc:∀ j,(hj:j < row.length)→∀ a ∈ Ls.getD j [],∀ q ∈ K,a + q * row[j] ∈ Ls.getD (j + 1) []) {l:Nat} {S:Sto} (hl:lAt S l (dR Ls)):
  ∃ S':Sto,cx [.ref l,tupI row,tupI K] S=.ok (.bl true) S'∧lAt S' l (dR Ls)∧(∀ j,j ≠ l→j < S.length→S'[j]?=S[j]?)∧S.length≤S'.length:=by
 have z:(1000:Nat)≤sizeLine:=by decide
 have hi:=y9 hl
 have hlen:et S [.ref l]=some (.int Ls.length):=by
  unfold et
  simp only [hl.seq,Option.map_some,List.length_map]
 have hne:eu S (.int Ls.length) (.int ((row.length:Int) + 1))=some (.bl false):=by
  rw [ie,decide_eq_true (by omega)]; rfl
 obtain ⟨S1,e1,f1,o1,l1⟩:=kz (ρ:=[some (.ref l),some (tupI row),some (tupI K)]) (i:=0) rfl hl
 have hl1:lAt S1 l (dR Ls):=.inr f1
 have hc1:=vk (enc:=tupI) (out:=fun _:List Int=>D.bl true) (e:=au eI (ab (ae 0) ak)) (caps:=[]) (tl:=[]) Ls e1 (by omega) rfl fun L hL=>(aw (ag (af rfl) rfl)).trans (vj (hup L hL) (hsm L hL) S1)
 have ha:gi S1 [.lst (Ls.map fun _:List Int=>D.bl true)]=some (.bl true):=by
  rw [fH (f:=fun _=>true),List.all_eq_true.mpr fun _ _=>rfl]
 have hx0:oIx S1 (.ref l) (.int 0)=some (tupI (Ls.getD 0 [])):=sj (i:=0) hl1 (by omega)
 have hin:oIn true S1 (.int 0) (tupI (Ls.getD 0 []))=some (.bl false):=by rw [si,decide_eq_true h0]; rfl
 obtain ⟨S2,e2,p2⟩:=tP hK hup hsm row 0 S1 none none hl1 (by omega) (fun j hj=>by simpa using hc j hj)
 have hen:kI (ab (ae 1) ak) [some (.ref l),some (tupI row),some (tupI K)] S1=.ok (PD.numbered 0 (row.map .int)) S1:=by
  unfold kI
  rw [ag (af rfl) rfl,R.bind_ok]
  rfl
 have hc2:bF (kI (ab (ae 1) ak)) 2 [0,2] (.tp [(.nm 0),(.nm 1)]) cA ldE [some (.ref l),some (tupI row),some (tupI K)] S1=.ok (.lst (row.map fun _=>D.bl true)) S2:=by
  unfold bF
  rw [hen,R.bind_ok,if_pos (by rw [j9,List.length_map]; omega)]
  have:fN 2 [0,2] [some (D.ref l),some (tupI row),some (tupI K)]=[none,none,some (.ref l),some (tupI K)]:=rfl
  rw [this,e2,R.bind_ok]
 have ha2:gi S2 [.lst (row.map fun _:Int=>D.bl true)]=some (.bl true):=by
  rw [fH (f:=fun _=>true),List.all_eq_true.mpr fun _ _=>rfl]
 refine ⟨S2,?_,hl1.pre p2,fun j hj hjl=>by rw [p2.old j (by omega)]; exact o1 j hj,by rw [← l1]; exact p2.len⟩
 refine bb (ρ:=[some (.ref l),some (tupI row),some (tupI K)]) rfl ?_
 refine (av ((cP ((jr (dP (b:=true) (bw (bW (ag (af rfl) (ag rfl rfl)) hi)))).trans (bw (ax (bW (ag (af rfl) rfl) hlen) (ax (bW (ag (af rfl) rfl) ir) rfl rfl) hne)))).trans rfl)).trans ?_
 refine (av ((cP ((jr (dP (b:=true) (bw (bW (ag hc1 rfl) ha)))).trans (bw (ax rfl (ax (af rfl) rfl hx0) hin)))).trans rfl)).trans ?_
 exact aR (bW (ag hc2 rfl) ha2)
structure Sim (d:D) (p:PyData):Prop where
 py:toPy d=some p
 lay:p.canLay0=true
 dep:p.depth≤3
theorem BI:∀ {ds:List D} {f:D→PyData},(∀ d ∈ ds,Sim d (f d))→iJ ds=some (ds.map f)∧PyData.canLayAll0 (ds.map f)=true∧PyData.depthAll (ds.map f)≤3
 | [],f,_=>⟨rfl,rfl,by show 0≤3; omega⟩
 | d :: ds,f,h=>by
  have h1:=h d List.mem_cons_self
  obtain ⟨a,b,c⟩:=BI (ds:=ds) (f:=f) fun x hx=>h x (List.mem_cons_of_mem _ hx)
  refine ⟨by unfold iJ; rw [h1.py,a]; rfl,by unfold List.map PyData.canLayAll0; rw [h1.lay,b]; rfl,?_⟩
  have:=h1.dep
  unfold List.map PyData.depthAll
  omega
theorem n9 {p:PyData} (h:p.canLay0=true) (hd:p.depth≤64):SeqAt.shaped p=true:=by
 unfold SeqAt.shaped; rw [h,decide_eq_true hd]; rfl
theorem zc {xs ys:List D} {f:D→PyData} (hx:∀ d ∈ xs,Sim d (f d)) (hy:∀ d ∈ ys,Sim d (f d)):eqP (.tup xs) (.tup ys)=some (PyData.eqvAll (xs.map f) (ys.map f)):=by
 obtain ⟨a,b,c⟩:=BI hx
 obtain ⟨a',b',c'⟩:=BI hy
 have e1:toPy (.tup xs)=some (.tuple (xs.map f)):=by unfold toPy; rw [a]; rfl
 have e2:toPy (.tup ys)=some (.tuple (ys.map f)):=by unfold toPy; rw [a']; rfl
 have s1:SeqAt.shaped (.tuple (xs.map f))=true:=n9 (by unfold PyData.canLay0; exact b) (by unfold PyData.depth; omega)
 have s2:SeqAt.shaped (.tuple (ys.map f))=true:=n9 (by unfold PyData.canLay0; exact b') (by unfold PyData.depth; omega)
 unfold eqP
 have e0:eqS (.tup xs) (.tup ys)=none:=rfl
 rw [e0,e1,e2]
 simp only [s1,s2,and_self,if_true]
 rw [PyData.eqv]
def pyI:D→PyData
 | .int i=>.int i
 | .tup [.int i,.int j]=>.tuple [.int i,.int j]
 | _=>.none
theorem CY (i:Int):pyI (.int i)=PyData.int i:=rfl
theorem zd (i:Int):Sim (.int i) (pyI (.int i)):=⟨rfl,rfl,by show 0≤3; omega⟩
theorem qT {is:List Int}:∀ d ∈ is.map D.int,Sim d (pyI d):=fun d hd=>by
 obtain ⟨i,_,rfl⟩:=List.mem_map.mp hd
 exact zd i
theorem qU:∀ (xs ys:List Int),PyData.eqvAll ((xs.map D.int).map pyI) ((ys.map D.int).map pyI)=decide (xs=ys)
 | [],[]=>by simp [PyData.eqvAll]
 | [],y :: ys=>by simp [PyData.eqvAll]
 | x :: xs,[]=>by simp [PyData.eqvAll]
 | x :: xs,y :: ys=>by
  simp only [List.map_cons,PyData.eqvAll,qU xs ys,CY,PyData.eqv]
  rw [Bool.eq_iff_iff]
  simp
theorem vl (xs ys:List Int):eqP (.tup (xs.map .int)) (.tup (ys.map .int))=some (decide (xs=ys)):=by
 rw [zc qT qT,qU]
theorem vm {t:TM} {b:SM} {n:Nat} {r r':Rho} {S S1 S2:Sto} (h1:t r S=.ok true S1) (h2:b r S1=.ok (.nx r') S2):cD t b (n + 1) r S=cD t b n r' S2:=by
 rw [cD]
 simp only [h1,h2,R.bind_ok,if_true]
theorem xo {d o:Int} (hd:0≤d) (ho:0 < o):(Int.gcd o (d % o):Int)=Int.gcd d o:=by
 obtain ⟨a,rfl⟩:=Int.eq_ofNat_of_zero_le hd
 obtain ⟨b,rfl⟩:=Int.eq_ofNat_of_zero_le (Int.le_of_lt ho)
 have e:((a:Int) % (b:Int))=((a % b:Nat):Int):=rfl
 rw [e]
 show ((Nat.gcd b (a % b):Nat):Int)=((Nat.gcd a b:Nat):Int)
 rw [Nat.gcd_comm b,← Nat.gcd_rec,Nat.gcd_comm]
abbrev cdT:TM:=tV (eOp eu (ae 3) (eC (.int 0)))
abbrev cdB:SM:=aA (aQ 4 (eOp oMod (ae 1) (ae 3))) (aA (aQ 1 (ae 3)) (aQ 3 (ae 4)))
theorem qV:∀ (n:Nat) (d o:Int) (S:Sto) (r0 r2 r4:Option D),0≤d→0≤o→o.toNat < n→∃ r4',cD cdT cdB n [r0,some (.int d),r2,some (.int o),r4] S=.ok (.nx [r0,some (.int (Int.gcd d o)),r2,some (.int 0),r4']) S
 | 0,_,_,_,_,_,_,_,_,h=>absurd h (Nat.not_lt_zero _)
 | n + 1,d,o,S,r0,r2,r4,hd,ho,h=>by
  by_cases z:o=0
  ·subst z
   refine ⟨r4,?_⟩
   have e:(Int.gcd d 0:Int)=d:=by rw [Int.gcd_zero_right]; omega
   rw [e]
   simp [cD,tV,eOp,ae,eC,R.bind,R.of,ie]
  ·have hp:0 < o:=by omega
   have h1:=Int.emod_nonneg d z
   have h2:=Int.emod_lt_of_pos d hp
   obtain ⟨r4',e⟩:=qV n o (d % o) S r0 r2 (some (.int (d % o))) ho h1 (by omega)
   refine ⟨r4',?_⟩
   rw [xo hd hp] at e
   have tt:cdT [r0,some (.int d),r2,some (.int o),r4] S=.ok true S:=by simp [tV,eOp,ae,eC,R.bind,R.of,ie,z]
   have st:cdB [r0,some (.int d),r2,some (.int o),r4] S=.ok (.nx [r0,some (.int o),r2,some (.int (d % o)),some (.int (d % o))]) S:=by simp [eOp,ae,R.bind,R.of,aA,aQ,oT hp]
   rw [vm tt st]
   exact e
def i9 (xs:List Int) (d:Int):Int:=xs.foldl (fun d x=>(Int.gcd d x:Int)) d
theorem xp (r0:Option D):∀ (xs:List Int) (d:Int) (S:Sto) (r2 r3 r4:Option D),(∀ x ∈ xs,1≤x)→0≤d→∃ r2' r3' r4',forL (.nm 2) (aA (aQ 3 (ae 2)) (sWh cdT cdB)) (xs.map .int) [r0,some (.int d),r2,r3,r4] S=.ok (.nx [r0,some (.int (i9 xs d)),r2',r3',r4']) S
 | [],d,S,r2,r3,r4,_,_=>⟨r2,r3,r4,rfl⟩
 | x :: xs,d,S,r2,r3,r4,hx,hd=>by
  have h1:0≤x:=by have:=hx x (.head _); omega
  obtain ⟨a4,e⟩:=qV (x.toNat + 1) d x S r0 (some (.int x)) r4 hd h1 (Nat.lt_succ_self _)
  have e':=(AZ (x.toNat + 1) (by rw [e]; intro z; cases z)).trans e
  obtain ⟨b2,b3,b4,f⟩:=xp r0 xs (Int.gcd d x) S (some (.int x)) (some (.int 0)) a4 (fun y hy=>hx y (.tail _ hy)) (Int.natCast_nonneg _)
  refine ⟨b2,b3,b4,?_⟩
  rw [List.map_cons]
  show _=R.ok (F.nx [r0,some (.int (i9 xs (Int.gcd d x))),b2,b3,b4]) S
  rw [← f]
  simp only [forL,G.put,aA,aQ,ae,List.set_cons_succ,List.set_cons_zero,List.getElem?_cons_succ,List.getElem?_cons_zero,R.bind,e']
theorem mB:∀ (xs:List Int) (d:Int),(∀ x ∈ xs,1≤x)→0≤d→(0 < d ∨ xs ≠ [])→0 < i9 xs d
 | [],d,_,_,h=>by rcases h with h | h; exact h; exact absurd rfl h
 | x :: xs,d,hx,hd,_=>by
  refine mB xs _ (fun y hy=>hx y (.tail _ hy)) (Int.natCast_nonneg _) (.inl ?_)
  have h1:=hx x (.head _)
  have:0 < Int.gcd d x:=Int.gcd_pos_of_ne_zero_right _ (by omega)
  show (0:Int) < ((Int.gcd d x:Nat):Int)
  omega
theorem vn {xs:List Int} (hx:∀ x ∈ xs,1≤x) (S:Sto):bZ [tupI xs] S=.ok (.int (i9 xs 0)) S:=by
 obtain ⟨a,b,c,e⟩:=xp (some (tupI xs)) xs 0 S none none none hx (Int.le_refl _)
 exact bb (ρ:=[some (tupI xs),none,none,none,none]) rfl ((av (aS rfl)).trans ((av ((gf (af rfl) rfl).trans e)).trans (aR (af rfl))))
theorem qW:∀ (xs:List Int) (d:Int),i9 xs d ∣ d∧∀ x ∈ xs,i9 xs d ∣ x
 | [],d=>⟨Int.dvd_refl _,fun x hx=>by cases hx⟩
 | x :: xs,d=>by
  obtain ⟨h1,h2⟩:=qW xs (Int.gcd d x)
  have e:i9 (x :: xs) d=i9 xs (Int.gcd d x):=rfl
  rw [e]
  exact ⟨Int.dvd_trans h1 (Int.gcd_dvd_left ..),fun y hy=>by
   rcases List.mem_cons.mp hy with rfl | hy
   ·exact Int.dvd_trans h1 (Int.gcd_dvd_right ..)
   ·exact h2 y hy⟩
theorem xq {xs:List Int} {v g:Int} (hg:∀ x ∈ xs,g ∣ x) (h:Wo KS xs v):(2 * g) ∣ (xs.sum - v):=by
 obtain ⟨p,hp,rfl⟩:=jD.mp h
 obtain ⟨hl,hq⟩:=(d8 _ _).mp hp
 clear h hp
 induction xs generalizing p with
 | nil=>exact ⟨0,by rw [Int.mul_zero]; cases p <;> rfl⟩
 | cons x xs ih=>
  cases p with
  | nil=>cases hl
  | cons q p=>
   obtain ⟨k,hk⟩:=ih (fun y hy=>hg y (.tail _ hy)) p (by simpa using hl) fun y hy=>hq y (.tail _ hy)
   obtain ⟨c,hc⟩:=hg x (.head _)
   have hq':q = -1 ∨ q=1:=by simpa using hq q (.head _)
   have e:(x :: xs).sum - wor (x :: xs) (q :: p)=(x - x * q) + (xs.sum - wor xs p):=by
    show (x :: xs).sum - (x * q + wor xs p)=_
    rw [List.sum_cons]; omega
   rw [e,hk]
   rcases hq' with rfl | rfl
   ·refine ⟨c + k,?_⟩
    rw [Int.mul_add,hc]
    have:g * c - g * c * -1=2 * g * c:=by rw [Int.mul_assoc 2 g c]; omega
    omega
   ·exact ⟨k,by omega⟩
def tQ (xs:List Int) (n:Int):Option Int:=if xs=[] then none else if (xs.sum - n) % (2 * i9 xs 0)=0 then none else some (2 * i9 xs 0)
def optN:Option Int→D
 | some i=>.int i
 | none=>.non
theorem ze {S:Sto} (xs:List Int):fE S (tupI xs) (.tup [])=some (.bl (decide (xs=[]))):=by
 have:=vl xs []
 show (eqP (tupI xs) (.tup ([].map D.int))).map _=_
 rw [this]; rfl
theorem qX {xs:List Int} (h:Row xs) (hl:xs.length≤10) (n:Int) (S:Sto):fg [tupI xs,.int n] S=.ok (optN (tQ xs n)) S:=by
 have s2:cF 2:=by decide
 have e0:bE (au aj (ab (ae 0) (ab (ae 1) ak))) [some (tupI xs),some (.int n),none] S=.ok (.nx [some (tupI xs),some (.int n),none]) S:=bA ((aw (ag (af rfl) (ag (af rfl) rfl))).trans (n8 h hl n S))
 have ht:tV (eOp fE (ae 0) (gz ak)) [some (tupI xs),some (.int n),none] S=.ok (decide (xs=[])) S:=bw (ax (af rfl) (gq (xs:=[]) rfl (Nat.zero_le _)) (ze xs))
 unfold tQ
 by_cases c:xs=[]
 ·rw [decide_eq_true c] at ht
  rw [if_pos c]
  exact bb (ρ:=[some (tupI xs),some (.int n),none]) rfl ((av e0).trans (tE ((qE ht).trans (aR rfl))))
 ·rw [decide_eq_false c] at ht
  rw [if_neg c]
  have hg:=mB xs 0 h.1 (Int.le_refl _) (.inr c)
  have hp:0 < 2 * i9 xs 0:=by omega
  have e2:=vn h.1 S
  have hq:tV (eOp eu (eOp oMod (eOp dq (eB kT (ab (ae 0) ak)) (ae 1)) (ae 2)) (eC (.int 0))) [some (tupI xs),some (.int n),some (.int (2 * i9 xs 0))] S=.ok (!decide ((xs.sum - n) % (2 * i9 xs 0)=0)) S:=bw (ax (ax (ax (bW (ag (af rfl) rfl) rZ) (af rfl) rfl) (af rfl) (oT hp)) rfl ie)
  have hs:aQ 2 (eOp cf (eC (.int 2)) (au bZ (ab (ae 0) ak))) [some (tupI xs),some (.int n),none] S=.ok (.nx [some (tupI xs),some (.int n),some (.int (2 * i9 xs 0))]) S:=aS (ax rfl ((aw (ag (af rfl) rfl)).trans e2) (fq (.inl s2)))
  by_cases z:(xs.sum - n) % (2 * i9 xs 0)=0
  ·rw [decide_eq_true z] at hq
   rw [if_pos z]
   exact bb (ρ:=[some (tupI xs),some (.int n),none]) rfl ((av e0).trans ((av ((cP ht).trans rfl)).trans ((av hs).trans (aR ((zH hq).trans rfl)))))
  ·rw [decide_eq_false z] at hq
   rw [if_neg z]
   exact bb (ρ:=[some (tupI xs),some (.int n),none]) rfl ((av e0).trans ((av ((cP ht).trans rfl)).trans ((av hs).trans (aR ((zG hq).trans (af rfl))))))
theorem sr {xs:List Int} (h:Row xs) (hl:xs.length≤10) {i:Int} (hi:2≤i) (hd:∀ x ∈ xs,i ∣ 2 * x) {n:Int} (hn:(xs.sum - n) % i ≠ 0) (S:Sto):eO [.int i,tupI xs,.int n] S=.ok (.bl true) S:=by
 have s2:cF 2:=by decide
 have hp:0 < i:=by omega
 have z:(100:Nat)≤sizeLine:=by decide
 have ht:tV (eOp oLt (ae 0) (eC (.int 2))) [some (.int i),some (tupI xs),some (.int n),none] S=.ok (decide (i < 2)) S:=bw (ax (af rfl) rfl rfl)
 rw [decide_eq_false (by omega)] at ht
 have hc:=eU (enc:=D.int) (out:=fun _:Int=>D.bl true) (e:=eOp fE (eOp oMod (eOp cf (eC (.int 2)) (ae 0)) (ae 1)) (eC (.int 0))) (it:=cz (ae 1) bJ) (caps:=[0]) (tl:=[some (.int i)]) (r:=[some (.int i),some (tupI xs),some (.int n),none]) (S:=S) xs (iU rfl rfl) (by omega) rfl fun x hx=>by
  have e:fE S (.int (2 * x % i)) (.int 0)=some (.bl true):=by rw [mw,decide_eq_true (Int.emod_eq_zero_of_dvd (hd x hx))]
  exact ax (ax (ax rfl (af rfl) (fq (.inl s2))) (af rfl) (oT hp)) rfl e
 have ha:gi S [.lst (xs.map fun _:Int=>D.bl true)]=some (.bl true):=by
  rw [fH (f:=fun _=>true),List.all_eq_true.mpr fun _ _=>rfl]
 have hq:eu S (.int ((xs.sum - n) % i)) (.int 0)=some (.bl true):=by rw [ie,decide_eq_false hn]; rfl
 exact bb (ρ:=[some (.int i),some (tupI xs),some (.int n),none]) rfl ((av (bA ((aw (ag (af rfl) (ag (af rfl) rfl))).trans (n8 h hl n S)))).trans ((av ((cP ((jr (dP (b:=true) (bw ((aw (ag (af rfl) rfl)).trans (pC i S))))).trans ht)).trans rfl)).trans ((av (aS (bW (ag hc rfl) ha))).trans (aR ((jC (af rfl)).trans (ax (ax (ax (bW (ag (af rfl) rfl) rZ) (af rfl) rfl) (af rfl) (oT hp)) rfl hq))))))
theorem tR {p:List Int} {n:Nat} (hp:p.length=n) (hn:n≤100) (S:Sto):dw [tupI p,.int n] S=.ok (.bl true) S:=by
 have z:(100:Nat)≤sizeLine:=by decide
 have hi:gL S [tupI p,.ty "tuple"]=some (.bl true):=by simp [gL,tyD,fK]
 have hl:fE S (.int p.length) (.int n)=some (.bl true):=by rw [mw,decide_eq_true (by omega)]
 have hc:=eU (enc:=D.int) (out:=fun _:Int=>D.bl true) (e:=au aW (ab (ae 0) ak)) (it:=cz (ae 0) bJ) (caps:=[]) (tl:=[]) (r:=[some (tupI p),some (.int n)]) (S:=S) p (iU rfl rfl) (by omega) rfl fun x _=>(aw (ag (af rfl) rfl)).trans (pC x S)
 have ha:gi S [.lst (p.map fun _:Int=>D.bl true)]=some (.bl true):=by
  rw [fH (f:=fun _=>true),List.all_eq_true.mpr fun _ _=>rfl]
 exact bb (ρ:=[some (tupI p),some (.int n)]) rfl (aR ((jC (bW (ag (af rfl) (ag rfl rfl)) hi)).trans ((jC (ax (bW (ag (af rfl) rfl) ir) (af rfl) hl)).trans (bW (ag hc rfl) ha))))
theorem tS {xs p:List Int} (h:Row xs) (hp:p.length=xs.length) (hq:∀ q ∈ p,-1≤q∧q≤1) (S:Sto):bV [tupI p,tupI xs] S=.ok (.bl true) S:=by
 have z:(100:Nat)≤sizeLine:=by decide
 have hl:=h.2
 have hc:=eU (enc:=D.int) (out:=fun _:Int=>D.bl true) (e:=lH oLe oLe (eUn jv (eC (.int 1))) (ae 0) (eC (.int 1))) (it:=cz (ae 0) bJ) (caps:=[]) (tl:=[]) (r:=[some (tupI p),some (tupI xs)]) (S:=S) p (iU rfl rfl) (by omega) rfl fun q hq'=>by
  obtain ⟨q0,q1⟩:=hq q hq'
  have e1:eUn jv (eC (.int 1)) [some (.int q)] S=.ok (.int (-1)) S:=rfl
  have e2:oLe S (.int (-1)) (.int q)=some (.bl true):=by show some (D.bl (decide ((-1:Int)≤q)))=_; rw [decide_eq_true q0]
  have e3:oLe S (.int q) (.int 1)=some (.bl true):=by show some (D.bl (decide (q≤(1:Int))))=_; rw [decide_eq_true q1]
  have ev:ae 0 [some (.int q)] S=.ok (.int q) S:=af rfl
  show lH oLe oLe (eUn jv (eC (.int 1))) (ae 0) (eC (.int 1)) [some (.int q)] S=_
  unfold lH
  rw [e1,R.bind_ok,ev,R.bind_ok]
  simp only [e2]
  show (R.ok (D.int 1) S).bind _=_
  rw [R.bind_ok,e3]
  rfl
 have ha:gi S [.lst (p.map fun _:Int=>D.bl true)]=some (.bl true):=by
  rw [fH (f:=fun _=>true),List.all_eq_true.mpr fun _ _=>rfl]
 exact bb (ρ:=[some (tupI p),some (tupI xs)]) rfl ((av (bA ((aw (ag (af rfl) rfl)).trans (gu h S)))).trans (aR ((jC ((aw (ag (af rfl) (ag (bW (ag (af rfl) rfl) ir) rfl))).trans (tR hp (by omega) S))).trans (bW (ag hc rfl) ha))))
theorem zf {xs p:List Int} (h:Row xs) (hp:p.length=xs.length) (hq:∀ q ∈ p,q = -1 ∨ q=1) (S:Sto):cY [tupI p,tupI xs] S=.ok (.bl true) S:=by
 have z:(100:Nat)≤sizeLine:=by decide
 have hl:=h.2
 have hc:=eU (enc:=D.int) (out:=fun _:Int=>D.bl true) (e:=eOp fE (eB uN (ab (ae 0) ak)) (eC (.int 1))) (it:=cz (ae 0) bJ) (caps:=[]) (tl:=[]) (r:=[some (tupI p),some (.int xs.length)]) (S:=S) p (iU rfl rfl) (by omega) rfl fun q hq'=>by
  rcases hq q hq' with rfl | rfl
  ·exact ax (bW (ag (af rfl) rfl) rfl) rfl rfl
  ·exact ax (bW (ag (af rfl) rfl) rfl) rfl rfl
 have ha:gi S [.lst (p.map fun _:Int=>D.bl true)]=some (.bl true):=by
  rw [fH (f:=fun _=>true),List.all_eq_true.mpr fun _ _=>rfl]
 have es:bQ [tupI p,.int xs.length] S=.ok (.bl true) S:=bb (ρ:=[some (tupI p),some (.int xs.length)]) rfl (aR ((jC ((aw (ag (af rfl) (ag (af rfl) rfl))).trans (tR hp (by omega) S))).trans (bW (ag hc rfl) ha)))
 exact bb (ρ:=[some (tupI p),some (tupI xs)]) rfl ((av (bA ((aw (ag (af rfl) rfl)).trans (gu h S)))).trans (aR ((aw (ag (af rfl) (ag (bW (ag (af rfl) rfl) ir) rfl))).trans es)))
theorem qY:∀ (xs p:List Int),PD.kU (xs.map .int) (p.map .int)=(xs.zip p).map fun e=>D.tup [.int e.1,.int e.2]
 | [],_=>rfl
 | _ :: _,[]=>rfl
 | x :: xs,q :: p=>by
  show D.tup [.int x,.int q] :: PD.kU (xs.map .int) (p.map .int)=_
  rw [qY xs p]; rfl
theorem tT:∀ (xs p:List Int),((xs.zip p).map fun e=>e.1 * e.2).sum=wor xs p
 | [],p=>by cases p <;> rfl
 | _ :: _,[]=>rfl
 | x :: xs,q :: p=>by
  rw [List.zip_cons_cons,List.map_cons,List.sum_cons,tT xs p]; rfl
theorem qZ {xs p:List Int} (h:Row xs) (hp:p.length=xs.length) (hq:∀ q ∈ p,-1≤q∧q≤1) (S:Sto):eR [tupI xs,tupI p] S=.ok (.int (wor xs p)) S:=by
 have z:(100:Nat)≤sizeLine:=by decide
 have hl:=h.2
 have hn:dB [tupI xs,tupI p] S=.ok .non S:=pk (ρ:=[some (tupI xs),some (tupI p)]) rfl ((cP (dP (b:=true) (bw ((aw (ag (af rfl) (ag (af rfl) rfl))).trans (tS h hp hq S))))).trans rfl)
 have hz:yw (ab (ae 0) (ab (ae 1) ak)) [some (tupI xs),some (tupI p)] S=.ok ((xs.zip p).map fun e=>D.tup [.int e.1,.int e.2]) S:=by
  unfold yw
  rw [ag (af rfl) (ag (af rfl) rfl),R.bind_ok]
  show R.ok (PD.kU (xs.map .int) (p.map .int)) S=_
  rw [qY]
 have hc:=ve (x1:=fun e:Int × Int=>D.int e.1) (x2:=fun e=>D.int e.2) (out:=fun e=>D.int (e.1 * e.2)) (e:=eOp cf (ae 0) (ae 1)) (caps:=[]) (tl:=[]) (xs.zip p) hz (by rw [List.length_zip]; omega) rfl fun e he=>ax (af rfl) (af rfl) (fq (.inr (sml (hq _ (List.of_mem_zip he).2))))
 have hs:kT S [.lst ((xs.zip p).map fun e=>D.int (e.1 * e.2))]=some (.int (wor xs p)):=by
  have e:((xs.zip p).map fun e=>D.int (e.1 * e.2))=((xs.zip p).map fun e=>e.1 * e.2).map .int:=by rw [List.map_map]; rfl
  rw [e,Bz,tT]
 exact bb (ρ:=[some (tupI xs),some (tupI p)]) rfl ((av (bA ((aw (ag (af rfl) (ag (af rfl) rfl))).trans hn))).trans (aR (bW (ag hc rfl) hs)))
theorem lA (K xs:List Int):(wsL K xs).length=K.length ^ xs.length:=by unfold wsL; rw [List.length_map,j6]
theorem xr {K:List Int} (hK:∀ g:Int→Int,(K.map g).sum=(K.map fun q=>g (-q)).sum):∀ (n:Nat) (xs:List Int) (h:Int→Int),xs.length=n→((wsL K xs).map h).sum=((wsL K xs).map fun v=>h (0 - v)).sum
 | 0,xs,h,hn=>by
  rw [List.length_eq_zero_iff.mp hn]
  show h 0 + 0=h (0 - 0) + 0
  rw [Int.sub_zero]
 | n + 1,xs,h,hn=>by
  obtain ⟨zs,y,rfl⟩:∃ zs y,xs=zs ++ [y]:=⟨xs.dropLast,xs.getLast (fun z=>by rw [z] at hn; cases hn),(List.dropLast_concat_getLast _).symm⟩
  rw [List.length_append] at hn
  have hl:zs.length=n:=by simpa using hn
  rw [gU,pz,pz,xr hK n zs _ hl]
  congr 1
  refine List.map_congr_left fun w _=>?_
  rw [hK]
  congr 1
  refine List.map_congr_left fun q _=>?_
  rw [Int.neg_mul]
  congr 1
  omega
theorem Du:∀ g:Int→Int,(KS.map g).sum=(KS.map fun q=>g (-q)).sum:=fun g=>by
 show g (-1) + (g 1 + 0)=g (- -1) + (g (-1) + 0)
 rw [show (- -1:Int)=1 by decide]; omega
theorem Dv:∀ g:Int→Int,(KP.map g).sum=(KP.map fun q=>g (-q)).sum:=fun g=>by
 show g (-1) + (g 0 + (g 1 + 0))=g (- -1) + (g (-0) + (g (-1) + 0))
 rw [show (- -1:Int)=1 by decide,show (-0:Int)=0 by decide]; omega
theorem xt {K row:List Int} (hK:∀ g:Int→Int,(K.map g).sum=(K.map fun q=>g (-q)).sum) {T:List (Int × Int)} (h:Hist T (wsL K row)) (v:Int):gT T v=gT T (0 - v):=by
 rw [← my h.keys,← my h.keys,h.sum,h.sum,xr hK row.length row _ rfl]
 congr 1
 refine List.map_congr_left fun w _=>?_
 by_cases c:w=0 - v
 ·rw [if_pos c,if_pos (by omega)]
 ·rw [if_neg c,if_neg (by omega)]
theorem zg {K row:List Int} (hK:∀ g:Int→Int,(K.map g).sum=(K.map fun q=>g (-q)).sum) {T:List (Int × Int)} (h:Hist T (wsL K row)) {v:Int} (hv:∃ e ∈ T,e.1=v):∃ e ∈ T,e.1=0 - v:=by
 rw [h.mem] at hv ⊢
 have e:=xt hK h v
 rw [h.get,h.get] at e
 have p:0 < ((wsL K row).filter fun y=>decide (y=v)).length:=List.length_pos_of_mem (List.mem_filter.mpr ⟨hv,decide_eq_true rfl⟩)
 have p':0 < ((wsL K row).filter fun y=>decide (y=0 - v)).length:=by omega
 obtain ⟨y,hy⟩:=List.exists_mem_of_length_pos p'
 obtain ⟨h1,h2⟩:=List.mem_filter.mp hy
 rw [← of_decide_eq_true h2]; exact h1
theorem rf:∀ T:List (Int × Int),kO (aG T)=some (T.map (·.2))
 | []=>rfl
 | e :: T=>by
  show (kO (aG T)).map (e.2 :: ·)=_
  rw [rf T]; rfl
theorem rh:∀ f:List Int,(f.map fun _=>(1:Int)).sum=(f.length:Int)
 | []=>rfl
 | x :: f=>by rw [List.map_cons,List.sum_cons,rh f,List.length_cons]; omega
theorem tU {S:Sto} {n:Nat} {T:List (Int × Int)} {f:List Int} (hd:dAt S n T) (h:Hist T f):nQ S (.ref n)=some (.int (f.length:Int)):=by
 have e:(T.map (·.2)).sum=(f.length:Int):=by
  have:=h.sum fun _=>1
  unfold sumH at this
  have e1:(T.map fun e=>(1:Int) * e.2)=T.map (·.2):=List.map_congr_left fun e _=>Int.one_mul _
  rw [e1] at this
  rw [this]
  exact rh f
 unfold nQ
 simp only [hd.dic,rf,Option.map_some,e]
theorem set_same {S:Sto} {m:Nat} {o:SO} (hm:S[m]?=some o):S.set m o=S:=by
 have hml:m < S.length:=(List.getElem?_eq_some_iff.mp hm).1
 have e:=(List.getElem?_eq_some_iff.mp hm).2
 rw [← e]; exact List.set_getElem_self hml
theorem tW {i n:Nat} {T:List (Int × Int)} {ρ:Rho} {S:Sto} {m:EM} {d:D} (hi:ρ[i]?=some (some (.ref n))) (hd:dAt S n T) (hm:m ρ S=.ok d (S.set n (.fdic (aG T)))):jO i m ρ S=.ok d S:=by
 unfold jO
 rw [hi]
 rcases hd with h | h
 ·have hnl:n < S.length:=(List.getElem?_eq_some_iff.mp h).1
  simp only [h]
  rw [hm,R.bind_ok]
  congr 1
  unfold PD.fY
  rw [List.getElem?_set_self hnl]
  show (S.set n _).set n (.dic (aG T))=S
  rw [List.set_set]; exact set_same h
 ·simp only [h]
  rw [hm,set_same h]
theorem og {A:Type} {enc:A→D} {t:TM} {e:EM} {it:AM} {caps:List Nat} {tl r:Rho} {S S1:Sto} (xs:List A) (hi:it r S=.ok (xs.map enc) S1) (hl:xs.length≤sizeLine) (hc:caps.map (fun i=>(r[i]?).join)=tl) (h:∀ x ∈ xs,t (some (enc x) :: tl) S1=.ok false S1):bF it 1 caps (.nm 0) t e r S=.ok (.lst []) S1:=by
 have key:∀ (xs:List A) (r0:Option D),(∀ x ∈ xs,t (some (enc x) :: tl) S1=.ok false S1)→eV (.nm 0) t e (xs.map enc) (r0 :: tl) S1=.ok [] S1:=fun xs=>by
  induction xs with
  | nil=>exact fun _ _=>rfl
  | cons x xs ih=>
   intro r0 h
   have h1:=h x (.head _)
   have h2:=ih (some (enc x)) fun y hy=>h y (.tail _ hy)
   rw [List.map_cons,eV]
   simp only [G.put,List.set_cons_zero,h1,R.bind_ok,Bool.false_eq_true,if_false,h2]
 unfold bF
 rw [hi,R.bind_ok,if_pos (by rw [List.length_map]; exact hl)]
 have:fN 1 caps r=none :: tl:=by unfold fN; rw [hc]; rfl
 rw [this,key xs none h,R.bind_ok]
theorem get_some {T:List (Int × Int)} {k:Int} (h:∃ e ∈ T,e.1=k):cU (aG T) (.inl k)=some (.int (gT T k)):=by
 have h1:=(kB T k).mpr h
 have h2:=mz T k
 cases hg:cU (aG T) (.inl k) with
 | none=>rw [hg] at h1; cases h1
 | some d=>rw [hg] at h2; exact congrArg some h2
theorem tX {S:Sto} {n:Nat} {T:List (Int × Int)} {ρ:Rho} {i:Nat} (hi:ρ[i]?=some (some (.ref n))) (h:dAt S n T):kM (ae i) ρ S=.ok (T.map fun e=>D.int e.1) (S.set n (.fdic (aG T))):=by
 have hm:((aG T).map fun kv=>kD kv.1)=T.map fun e=>D.int e.1:=by
  unfold aG
  rw [List.map_map]; rfl
 unfold kM
 rw [af hi,R.bind_ok]
 rcases h with h | h
 ·simp only [h,hm]
 ·simp only [h,hm]
  rw [set_same h]
theorem dAt.frz {S:Sto} {n:Nat} {T:List (Int × Int)} (h:dAt S n T):dAt (S.set n (.fdic (aG T))) n T:=.inr (List.getElem?_set_self h.lt)
theorem BJ {S:Sto} {n:Nat} {T:List (Int × Int)} (h:dAt S n T) {k:Int} (hk:∃ e ∈ T,e.1=k):rT S (.ref n) (.int k)=some (.int (gT T k)):=by
 unfold rT
 rw [h.seq]
 simp only [Option.isSome_none,Bool.false_eq_true,if_false]
 unfold yx
 simp only [h.dic,gN]
 exact get_some hk
theorem tY {K row:List Int} (hK:∀ g:Int→Int,(K.map g).sum=(K.map fun q=>g (-q)).sum) {S:Sto} {n:Nat} {T:List (Int × Int)} (hd:dAt S n T) (h:Hist T (wsL K row)) (hl:T.length≤1000) {i:Nat} {ρ:Rho} (hi:ρ[i]?=some (some (.ref n))):jO i (bF (kM (ae i)) 1 [i] (.nm 0) (tV (eOp eu (eOp rT (ae 1) (ae 0)) (nR (ae 1) (eOp dq (eC (.int 0)) (ae 0))))) (ae 0)) ρ S=.ok (.lst []) S:=by
 have z:(1000:Nat)≤sizeLine:=by decide
 refine tW hi hd (og (enc:=fun e:Int × Int=>D.int e.1) (tl:=[some (.ref n)]) T (tX hi hd) (by omega) (by simp [hi]) fun e he=>?_)
 have hv:∃ d ∈ T,d.1=e.1:=⟨e,he,rfl⟩
 have hd1:=hd.frz
 generalize S.set n (.fdic (aG T))=S1 at hd1
 have eg:nR (ae 1) (eOp dq (eC (.int 0)) (ae 0)) [some (.int e.1),some (.ref n)] S1=.ok (.int (gT T (0 - e.1))) S1:=by
  unfold nR
  rw [af rfl,R.bind_ok]
  have ek:eOp dq (eC (.int 0)) (ae 0) [some (.int e.1),some (.ref n)] S1=.ok (.int (0 - e.1)) S1:=ax rfl (af rfl) rfl
  simp only [hd1.dic,Option.isSome_some,if_true,ek,R.bind_ok,gN]
  rw [get_some (zg hK h hv)]; rfl
 refine bw (ax (ax (af rfl) (af rfl) (BJ hd1 hv)) eg ?_)
 rw [ie,← xt hK h,decide_eq_true rfl]; rfl
theorem xu {f:Sto→D→Option D} {a:EM} {r:Rho} {S S1:Sto} {x z:D} (h1:a r S=.ok x S1) (h3:f S1 x=some z):eUn f a r S=.ok z S1:=by unfold eUn; rw [h1,R.bind_ok,h3]; rfl
theorem zh {g:PD.G} {a:EM} {r r1:Rho} {S S1:Sto} {x:D} (h:a r S=.ok x S1) (hp:g.put x r=some r1):uK g a r S=.ok (.nx r1) S1:=by unfold uK; rw [h,R.bind_ok,hp]
theorem ne_nil {S:Sto}:eu S (.lst []) (.lst [])=some (.bl false):=by kernel_rfl
theorem tZ {row:List Int} {v:Int} (h:Wo KS row v):Wo KP row v:=by
 obtain ⟨p,hp,e⟩:=jD.mp h
 obtain ⟨hl,hq⟩:=(d8 _ _).mp hp
 refine jD.mpr ⟨p,(d8 _ _).mpr ⟨hl,fun q hq'=>?_⟩,e⟩
 have:=hq q hq'
 simp only [KS,List.mem_cons,List.not_mem_nil,or_false] at this
 rcases this with rfl | rfl <;> decide
theorem BK {row:List Int} (hr:Row row) (h6:row.length≤6) (S:Sto):∃ (S':Sto) (n:Nat) (T:List (Int × Int)),dD [tupI row] S=.ok (.ref n) S'∧dAt S' n T∧Hist T (wsL KS row)∧Pre S S':=by
 obtain ⟨S',n,T,e,hd,hT,p⟩:=jF (K:=KS) (xs:=row) (by decide) (by decide) h6 S
 exact ⟨S',n,T,bb (ρ:=[some (tupI row)]) rfl ((av (bA ((aw (ag (af rfl) rfl)).trans (sh hr (by omega) S)))).trans (aR ((aw (ag (af rfl) (ag rfl rfl))).trans e))),hd,hT,p⟩
theorem BL {row:List Int} (hr:Row row) (h6:row.length≤6) (S:Sto):∃ (S':Sto) (n:Nat) (T:List (Int × Int)),dC [tupI row] S=.ok (.ref n) S'∧dAt S' n T∧Hist T (wsL KP row)∧Pre S S':=by
 obtain ⟨S',n,T,e,hd,hT,p⟩:=jF (K:=KP) (xs:=row) (by decide) (by decide) h6 S
 exact ⟨S',n,T,bb (ρ:=[some (tupI row)]) rfl ((av (bA ((aw (ag (af rfl) rfl)).trans (sh hr (by omega) S)))).trans (aR ((aw (ag (af rfl) (ag rfl rfl))).trans e))),hd,hT,p⟩
theorem dAt.pre {S S':Sto} {n:Nat} {T:List (Int × Int)} (h:dAt S n T) (p:Pre S S'):dAt S' n T:=by
 unfold dAt
 rw [p.old n h.lt]; exact h
theorem zi {row:List Int} (hr:Row row) (h6:row.length≤6) (S:Sto):∃ S':Sto,bS [tupI row] S=.ok (.bl true) S'∧Pre S S':=by
 have z:(1000:Nat)≤sizeLine:=by decide
 have z2:(2:Nat)≤sizeLine:=by decide
 have z3:(3:Nat)≤sizeLine:=by decide
 obtain ⟨S1,n1,T1,e1,d1,H1,p1⟩:=BK hr h6 S
 obtain ⟨S2,n2,T2,e2,d2,H2,p2⟩:=BL hr h6 S1
 have d12:=d1.pre p2
 have b1:(wsL KS row).length≤1000:=by rw [lA]; exact Nat.le_trans (Nat.pow_le_pow_right (by decide) h6) (by decide)
 have b2:(wsL KP row).length≤1000:=by rw [lA]; exact Nat.le_trans (Nat.pow_le_pow_right (by decide) h6) (by decide)
 have l1:=H1.len
 have l2:=H2.len
 have hv1:=tU d12 H1
 have hv2:=tU d2 H2
 have hs:oG S2 (.int 1) (.int row.length)=some (.int (2 ^ row.length)):=wx (by omega)
 have q1:eu S2 (.int ((wsL KS row).length:Int)) (.int (2 ^ row.length))=some (.bl false):=by
  have:((wsL KS row).length:Int)=2 ^ row.length:=by rw [lA]; exact Int.natCast_pow 2 row.length
  rw [ie,decide_eq_true this]; rfl
 have c1:=tY Du d12 H1 (by omega) (i:=1) (ρ:=[some (tupI row),some (.ref n1),some (.ref n2)]) rfl
 have c2:=tY Dv d2 H2 (by omega) (i:=2) (ρ:=[some (tupI row),some (.ref n1),some (.ref n2)]) rfl
 have c3:jO 1 (bF (kM (ae 1)) 1 [2] (.nm 0) (tV (eOp (gD true) (ae 0) (ae 1))) (ae 0)) [some (tupI row),some (.ref n1),some (.ref n2)] S2=.ok (.lst []) S2:=by
  refine tW rfl d12 (og (enc:=fun e:Int × Int=>D.int e.1) (tl:=[some (.ref n2)]) T1 (tX rfl d12) (by omega) rfl fun e he=>?_)
  have hw:∃ d ∈ T2,d.1=e.1:=(H2.mem _).mpr (iq.mpr (tZ (iq.mp ((H1.mem _).mp ⟨e,he,rfl⟩))))
  have dd:dAt (S2.set n1 (.fdic (aG T1))) n2 T2:=by
   have:=dAt.step (l:=[]) d12 d2
   rwa [List.append_nil] at this
  refine bw (ax (af rfl) (af rfl) ?_)
  unfold gD
  rw [dd.seq]
  simp only [Option.isSome_none,Bool.false_eq_true,if_false]
  unfold oX
  simp only [dd.dic,gN,get_some hw]
  rfl
 have ea:=all_eq (K:=[0,1,2]) (by decide) (n:=row.length) h6 (S:=S2)
 have hla:et S2 [.lst ((cN [0,1,2] row.length).map tupI)]=some (.int ((cN [0,1,2] row.length).length:Int)):=by
  show some (D.int (((cN [0,1,2] row.length).map tupI).length:Int))=_
  rw [List.length_map]
 have q2:fE S2 (.int ((wsL KP row).length:Int)) (.int ((cN [0,1,2] row.length).length:Int))=some (.bl true):=by
  rw [mw,decide_eq_true (by rw [lA,j6]; rfl)]
 refine ⟨S2,?_,p1.trans p2⟩
 refine bb (ρ:=[some (tupI row),none,none]) rfl ?_
 refine (av (zh (r1:=[some (tupI row),some (.ref n1),some (.ref n2)]) (gq (xs:=[.ref n1,.ref n2]) (ag ((aw (ag (af rfl) rfl)).trans e1) (ag ((aw (ag (af rfl) rfl)).trans e2) rfl)) z2) rfl)).trans ?_
 refine (av ((cP ((jr (bw (ax (xu (af rfl) hv1) (ax rfl (bW (ag (af rfl) rfl) ir) hs) q1))).trans (bw (ax c1 (i8 (xs:=[]) rfl (Nat.zero_le _)) ne_nil)))).trans rfl)).trans ?_
 refine (av ((cP (bw (ax c2 (i8 (xs:=[]) rfl (Nat.zero_le _)) ne_nil))).trans rfl)).trans ?_
 refine (av ((cP (bw (ax c3 (i8 (xs:=[]) rfl (Nat.zero_le _)) ne_nil))).trans rfl)).trans ?_
 exact aR (ax (xu (af rfl) hv2) (bW (ag ((aw (ag (bW (ag (af rfl) rfl) ir) (ag (gq (xs:=[.int 0,.int 1,.int 2]) (ag rfl (ag rfl (ag rfl rfl))) z3) rfl))).trans ea) rfl) hla) q2)
theorem zj (ns:List Int) (c:Nat) (hn:ns.length≤63) (hc:1≤c∧c≤63) (r:Rho) (hr:r[0]?=some (some (.fz (ns.map .int)))) (S:Sto):∃ n:Nat,dH (ab (eB wj (ab (eC (.int 1)) (ab (eB uO (ab (eB et (ab (ae 0) ak)) (ab (eC (.int c)) ak))) ak))) ak) r S=.ok ((List.range n).map (fun (i:Nat)=>D.int i)) S∧n≤c:=by
 refine ⟨max 1 (min ns.length c),jB ?_ (by omega),by omega⟩
 have e:(if (1:Int) < (if (c:Int) < (ns.length:Int) then (c:Int) else (ns.length:Int)) then (if (c:Int) < (ns.length:Int) then (c:Int) else (ns.length:Int)) else 1)=((max 1 (min ns.length c):Nat):Int):=by
  split <;> split <;> omega
 rw [← e]
 simp [ab,ak,eB,eC,ae,R.bind,R.of,hr,et,bg,uO,wj]
theorem vo {S:Sto} {b:Nat} {row:List Int} (g:Gr b S S) (h6:row.length≤6):∃ (v:Int) (S':Sto),cW [.ref b,tupI row] S=.ok (.int v) S'∧Gr b S S':=by
 obtain ⟨q,S1,e1,a0,a1,g1⟩:=ic g (many:=30) (by decide) (by decide)
 obtain ⟨j,S2,e2,b0,b1,g2⟩:=ic g1.self (many:=9) (by decide) (by decide)
 obtain ⟨n,rfl⟩:∃ n:Nat,j=n:=⟨j.toNat,by omega⟩
 generalize hs:q - 15=s
 have ss:cF s:=⟨by omega,by omega⟩
 have z1:(1:Nat)≤sizeLine:=by decide
 have z9:(9:Nat)≤sizeLine:=by decide
 have z100:(100:Nat)≤sizeLine:=by decide
 obtain ⟨x0,hx0⟩:∃ x0:Int,∀ T:Sto,oIx T (.tup (row.map .int ++ [.int 1])) (.int 0)=some (.int x0):=by
  cases row with
  | nil=>exact ⟨1,fun T=>rfl⟩
  | cons x row=>exact ⟨x,fun T=>iK (xs:=D.int x :: (row.map D.int ++ [D.int 1])) (i:=0) (Nat.zero_lt_succ _)⟩
 have hl:(gJ (ab (eC (.int 0)) (ab (ae 2) (ab (eOp dq (eC (.int 0)) (ae 2)) (ab (eOp dq (ae 2) (eC (.int 2))) (ab (ae 3) (ab (eOp bO (eOp bO (ae 2) (eC (.int 1))) (eOp cf (ae 3) (ae 3))) (ab (ae 3) (ab (eOp dq (ae 2) (eOp cf (eC (.int 2)) (eOp oIx (eOp bO (ae 1) (gz (ab (eC (.int 1)) ak))) (eC (.int 0))))) (ab (ae 3) ak)))))))))) [some (.ref b),some (tupI row),some (.int row.sum),some (.int s),none] S1=.ok (.lst ([0,row.sum,0 - row.sum,row.sum - 2,s,row.sum + 1 + s * s,s,row.sum - 2 * x0,s].map .int)) S1:=by
  have a1:∀ T:Sto,bO T (tupI row) (.tup [.int 1])=some (.tup (row.map .int ++ [.int 1])):=fun T=>xg (by simp; omega)
  have m1:∀ T:Sto,cf T (.int s) (.int s)=some (.int (s * s)):=fun T=>fq (.inl ss)
  have m2:∀ (T:Sto) (y:Int),cf T (.int 2) (.int y)=some (.int (2 * y)):=fun T y=>fq (.inl (by decide))
  exact i8 (ag rfl (ag (af rfl) (ag (ax rfl (af rfl) rfl) (ag (ax (af rfl) rfl rfl) (ag (af rfl) (ag (ax (ax (af rfl) rfl rfl) (ax (af rfl) (af rfl) (m1 _)) rfl) (ag (af rfl) (ag (ax (af rfl) (ax rfl (ax (ax (af rfl) (gq (xs:=[.int 1]) rfl z1) (a1 _)) rfl (hx0 _)) (m2 _ _)) rfl) (ag (af rfl) rfl))))))))) z9
 generalize hL:([0,row.sum,0 - row.sum,row.sum - 2,s,row.sum + 1 + s * s,s,row.sum - 2 * x0,s]:List Int)=L at hl
 have hLn:n < L.length:=by rw [← hL]; show n < 9; omega
 refine ⟨L[n],S2,?_,g1.trans g2⟩
 have hix:oIx S2 (.lst (L.map .int)) (.int (n:Int))=some (.int L[n]):=by
  have:=iK (xs:=L.map D.int) (i:=n) (by rw [List.length_map]; exact hLn)
  rw [List.getElem_map] at this
  exact this
 have t1:eOp dq (au aK (ab (ae 0) (ab (eC (.int 30)) ak))) (eC (.int 15)) [some (.ref b),some (tupI row),some (.int row.sum),none,none] S=.ok (.int s) S1:=by
  rw [← hs]
  exact ax ((aw (ag (af rfl) (ag rfl rfl))).trans e1) rfl rfl
 exact bb (ρ:=[some (.ref b),some (tupI row),none,none,none]) rfl ((av (aS (bW (ag (af rfl) rfl) rZ))).trans ((av (aS t1)).trans ((av (aS hl)).trans (aR (ax (af rfl) ((aw (ag (af rfl) (ag rfl rfl))).trans e2) hix)))))
theorem t4 {S:Sto} (b:Bool):eu S (.bl b) (.bl b)=some (.bl false):=by cases b <;> kernel_rfl
def Sg (K row:List Int) (v:Int) (a:Bool) (d:D):Prop:=(a=false∧d=.non) ∨ (a=true∧∃ p,d=tupI p∧p.length=row.length∧(∀ q ∈ p,q ∈ K)∧wor row p=v)
theorem Sg.is {K row:List Int} {v:Int} {a:Bool} {d:D} (h:Sg K row v a d) (neg:Bool) (S:Sto):fc neg S d .non=some (.bl (if neg then a else !a)):=by
 rcases h with ⟨rfl,rfl⟩ | ⟨rfl,p,rfl,_⟩ <;> cases neg <;> rfl
theorem zJ {K row:List Int} {f:FM} (hf:f=fnM 2 (aA (bE (au aj (ab (ae 0) (ab (ae 1) ak)))) (aO (au dA (ab (ae 0) (ab (ae 1) (ab (eC (tupI K)) ak))))))) (hs:K.Pairwise (· < ·)) (hk:∀ q ∈ K,-1≤q∧q≤1) (hK:K.length≤3) (hr:Row row) (h6:row.length≤6) (v:Int) {a:Bool} (ha:a=true↔Wo K row v) (S:Sto):∃ (S':Sto) (d:D),f [tupI row,.int v] S=.ok d S'∧Pre S S'∧Sg K row v a d:=by
 obtain ⟨S',e,p⟩:=xl hs hk hK h6 v S
 refine ⟨S',CU ((cN K row.length).find? fun p=>decide (wor row p=v)),?_,p,?_⟩
 ·rw [hf]
  exact bb (ρ:=[some (tupI row),some (.int v)]) rfl ((av (bA ((aw (ag (af rfl) (ag (af rfl) rfl))).trans (n8 hr (by omega) v S)))).trans (aR ((aw (ag (af rfl) (ag (af rfl) (ag rfl rfl)))).trans e)))
 ·by_cases c:Wo K row v
  ·have a1:=ha.mpr c
   obtain ⟨p0,hp0,e0⟩:=jD.mp c
   cases hfi:(cN K row.length).find? fun p=>decide (wor row p=v) with
   | none=>
    rw [List.find?_eq_none] at hfi
    exact absurd (decide_eq_true e0) (hfi p0 hp0)
   | some q=>
    have h1:=List.find?_some hfi
    have h2:=List.mem_of_find?_eq_some hfi
    obtain ⟨l1,l2⟩:=(d8 _ _).mp h2
    exact .inr ⟨a1,q,rfl,l1,l2,by simpa using h1⟩
  ·have a1:a=false:=by
    cases a with
    | true=>exact absurd (ha.mp rfl) c
    | false=>rfl
   rw [find_none c]
   exact .inl ⟨a1,rfl⟩
theorem t5 {K row:List Int} {f:FM} (hf:f=fnM 2 (aA (bE (au aj (ab (ae 0) (ab (ae 1) ak)))) (aO (ji (au bN (ab (ae 0) (ab (eC (tupI K)) ak))) (ae 1) (eC (.int 0)))))) (hk:∀ q ∈ K,-1≤q∧q≤1) (hK:K.length≤3) (hr:Row row) (h6:row.length≤6) (v:Int) {a:Bool} (ha:a=true↔Wo K row v) (S:Sto):∃ (S':Sto) (c:Int),f [tupI row,.int v] S=.ok (.int c) S'∧Pre S S'∧decide (c=0) = !a:=by
 obtain ⟨S',n,T,e,hd,hT,p⟩:=jF hK hk h6 S
 refine ⟨S',gT T v,?_,p,?_⟩
 ·rw [hf,← show (cU (aG T) (.inl v)).getD (.int 0)=.int (gT T v) from mz T v]
  exact bb (ρ:=[some (tupI row),some (.int v)]) rfl ((av (bA ((aw (ag (af rfl) (ag (af rfl) rfl))).trans (n8 hr (by omega) v S)))).trans (aR (qI ((aw (ag (af rfl) (ag rfl rfl))).trans e) hd.dic (af rfl) rfl hd.dic rfl)))
 ·rw [hT.get]
  cases a with
  | true=>
   have h1:=iq.mpr (ha.mp rfl)
   have:0 < ((wsL K row).filter fun y=>decide (y=v)).length:=List.length_pos_of_mem (List.mem_filter.mpr ⟨h1,decide_eq_true rfl⟩)
   exact decide_eq_false (by omega)
  | false=>
   have h1:¬ v ∈ wsL K row:=fun z=>by have:=ha.mpr (iq.mp z); cases this
   have:((wsL K row).filter fun y=>decide (y=v))=[]:=List.filter_eq_nil_iff.mpr fun y hy hd=>h1 (by rw [← of_decide_eq_true hd]; exact hy)
   rw [this]
   exact decide_eq_true rfl
def Ly (K row:List Int) (a:Bool) (S S':Sto) (d:D):Prop:=(a=true∧d=.non) ∨ (a=false∧∃ (l:Nat) (Ls:List (List Int)),d=.ref l∧lAt S' l (dR Ls)∧Lay K row Ls∧S.length≤l)
theorem Ly.is {K row:List Int} {a:Bool} {S S':Sto} {d:D} (h:Ly K row a S S' d) (T:Sto):fc true T d .non=some (.bl (!a)):=by
 rcases h with ⟨rfl,rfl⟩ | ⟨rfl,l,Ls,rfl,_⟩ <;> rfl
theorem xv {K row:List Int} {f:FM} (hf:f=fnM 2 (aA (bE (au aj (ab (ae 0) (ab (ae 1) ak)))) (aO (au aY (ab (ae 1) (ab (ae 0) (ab (eC (tupI K)) ak))))))) (hk:∀ q ∈ K,-1≤q∧q≤1) (hK:K.length≤3) (hr:Row row) (h6:row.length≤6) (v:Int) {a:Bool} (ha:a=true↔Wo K row v) (S:Sto):∃ (S':Sto) (d:D),f [tupI row,.int v] S=.ok d S'∧Pre S S'∧Ly K row a S S' d:=by
 have go:∀ {d:D} {S':Sto},aY [.int v,tupI row,tupI K] S=.ok d S'→f [tupI row,.int v] S=.ok d S':=fun e=>by
  rw [hf]
  exact bb (ρ:=[some (tupI row),some (.int v)]) rfl ((av (bA ((aw (ag (af rfl) (ag (af rfl) rfl))).trans (n8 hr (by omega) v S)))).trans (aR ((aw (ag (af rfl) (ag (af rfl) (ag rfl rfl)))).trans e)))
 obtain ⟨S',p,⟨c,e⟩ | ⟨c,l,Ls,e,h1,h2,h3⟩⟩:=sk hK hk h6 v S
 ·exact ⟨S',.non,go e,p,.inl ⟨ha.mpr c,rfl⟩⟩
 ·refine ⟨S',.ref l,go e,p,.inr ⟨?_,l,Ls,rfl,h1,h2,h3⟩⟩
  cases a with
  | true=>exact absurd (ha.mp rfl) c
  | false=>rfl
theorem su {K K' row:List Int} {f:FM} (hf:f=fnM 3 (aA (bE (au aj (ab (ae 1) (ab (ae 2) ak)))) (aO (iy (au cx (ab (ae 0) (ab (ae 1) (ab (eC (tupI K)) ak)))) (eOp (oIn true) (ae 2) (eOp oIx (ae 0) (eUn jv (eC (.int 1))))))))) (hk:∀ q ∈ K,-1≤q∧q≤1) (hsub:∀ q ∈ K,q ∈ K') (hr:Row row) (h6:row.length≤6) {v:Int} (hv:¬ Wo K' row v) {l:Nat} {Ls:List (List Int)} {S:Sto} (hl:lAt S l (dR Ls)) (hL:Lay K' row Ls):
  ∃ S':Sto,f [.ref l,tupI row,.int v] S=.ok (.bl true) S'∧lAt S' l (dR Ls)∧(∀ j,j ≠ l→j < S.length→S'[j]?=S[j]?)∧S.length≤S'.length:=by
 have h0:0 ∈ Ls.getD 0 []:=(hL.mem 0 (Nat.zero_le _) 0).mpr rfl
 have hc:∀ j,(hj:j < row.length)→∀ a ∈ Ls.getD j [],∀ q ∈ K,a + q * row[j] ∈ Ls.getD (j + 1) []:=fun j hj a ha q hq=>by
  rw [hL.mem (j + 1) hj,List.take_succ,List.getElem?_eq_getElem hj]
  have h1:=(hL.mem j (by omega) a).mp ha
  show Wo K' (row.take j ++ [row[j]]) _
  rw [← iq,gU,sf]
  exact ⟨a,iq.mpr h1,q,hsub q hq,rfl⟩
 obtain ⟨S',e,h1,h2,h3⟩:=BH hk (by omega) hL.len hL.up hL.sm h0 hc hl
 refine ⟨S',?_,h1,h2,h3⟩
 have hx:=tO h1 hL.len
 have hm:=hL.mem row.length (Nat.le_refl _) v
 rw [List.take_length] at hm
 have hi:oIn true S' (.int v) (tupI (Ls.getD row.length []))=some (.bl true):=by rw [si,decide_eq_false (fun z=>hv (hm.mp z))]; rfl
 rw [hf]
 exact bb (ρ:=[some (.ref l),some (tupI row),some (.int v)]) rfl ((av (bA ((aw (ag (af rfl) (ag (af rfl) rfl))).trans (n8 hr (by omega) v S)))).trans (aR ((jC ((aw (ag (af rfl) (ag (af rfl) (ag rfl rfl)))).trans e)).trans (ax (af rfl) (ax (af rfl) rfl hx) hi))))
theorem ua {i j:Nat} {t:AM} {r:Rho} {S S1:Sto} {x y:D} (h:t r S=.ok [x,y] S1):vW i j t r S=.ok (.nx ((r.set i (some x)).set j (some y))) S1:=by unfold vW; rw [h,R.bind_ok]
theorem BM {a b:TM} {r:Rho} {S S1:Sto} (h:a r S=.ok true S1):PD.oi a b r S=b r S1:=by unfold PD.oi; rw [h,R.bind_ok]; exact if_pos rfl
theorem BN {a b:TM} {r:Rho} {S S1:Sto} (h:a r S=.ok false S1):PD.oi a b r S=.ok false S1:=by unfold PD.oi; rw [h,R.bind_ok]; exact if_neg Bool.false_ne_true
theorem Ly.keep {K row:List Int} {a:Bool} {S S1 S2:Sto} {d:D} (h:Ly K row a S S1 d) (p:Pre S1 S2):Ly K row a S S2 d:=by
 rcases h with h | ⟨h,l,Ls,e,h1,h2,h3⟩
 ·exact .inl h
 ·exact .inr ⟨h,l,Ls,e,h1.pre p,h2,h3⟩
theorem BO {q:Int} (h:q ∈ KS):q = -1 ∨ q=1:=by simpa using h
theorem BP {row:List Int} (hr:Row row) (h6:row.length≤6) (v:Int) (S:Sto):∃ S':Sto,bI [tupI row,.int v] S=.ok (.bl true) S'∧Pre S S':=by
 obtain ⟨a,ha⟩:∃ a:Bool,a=true↔Wo KS row v:=by
  by_cases c:Wo KS row v
  ·exact ⟨true,fun _=>c,fun _=>rfl⟩
  ·exact ⟨false,(fun z=>by cases z),fun z=>absurd z c⟩
 obtain ⟨b,hb⟩:∃ b:Bool,b=true↔Wo KP row v:=by
  by_cases c:Wo KP row v
  ·exact ⟨true,fun _=>c,fun _=>rfl⟩
  ·exact ⟨false,(fun z=>by cases z),fun z=>absurd z c⟩
 have hab:a=true→b=true:=fun z=>hb.mpr (tZ (ha.mp z))
 obtain ⟨S1,d2,e1,p1,g2⟩:=zJ (K:=KS) (f:=fh) rfl (by decide) (by decide) (by decide) hr h6 v ha S
 obtain ⟨S2,d3,e2,p2,g3⟩:=zJ (K:=KP) (f:=ff) rfl (by decide) (by decide) (by decide) hr h6 v hb S1
 obtain ⟨S3,d4,e3,p3,y4⟩:=xv (K:=KS) (f:=dz) rfl (by decide) (by decide) hr h6 v ha S2
 obtain ⟨S4,d5,e4,p4,y5⟩:=xv (K:=KP) (f:=bR) rfl (by decide) (by decide) hr h6 v hb S3
 obtain ⟨S5,c5,e5,p5,w5⟩:=t5 (K:=KS) (f:=d7) rfl (by decide) (by decide) hr h6 v ha S4
 obtain ⟨S6,c6,e6,p6,w6⟩:=t5 (K:=KP) (f:=dZ) rfl (by decide) (by decide) hr h6 v hb S5
 have P02:Pre S S2:=p1.trans p2
 have P03:Pre S S3:=P02.trans p3
 have P06:Pre S S6:=((P03.trans p4).trans p5).trans p6
 have y4':=((y4.keep p4).keep p5).keep p6
 have y5':=(y5.keep p5).keep p6
 -- what is said of signs and parts
 have t6:(sIf (tV (eOp (fc true) (ae 2) (eC .non))) (sIf (PD.tOr (PD.dG (tV (au cY (ab (ae 2) (ab (ae 0) ak))))) (PD.tOr (tV (eOp eu (au eR (ab (ae 0) (ab (ae 2) ak))) (ae 1))) (tV (eOp (fc false) (ae 3) (eC .non))))) (aO (eC (.bl false))) aV) aV) [some (tupI row),some (.int v),some d2,some d3,some d4,some d5,none] S6=.ok (.nx [some (tupI row),some (.int v),some d2,some d3,some d4,some d5,none]) S6:=by
  have ht:tV (eOp (fc true) (ae 2) (eC .non)) [some (tupI row),some (.int v),some d2,some d3,some d4,some d5,none] S6=.ok a S6:=bw (ax (af rfl) rfl (g2.is true S6))
  rcases g2 with ⟨rfl,_⟩ | ⟨rfl,p,rfl,l,q,w⟩
  ·exact (cP ht).trans rfl
  ·have i3:=g3.is false S6
   rw [hab rfl] at i3
   have hne:eu S6 (.int (wor row p)) (.int v)=some (.bl false):=by rw [ie,decide_eq_true w]; rfl
   refine (qE ht).trans ((cP ((jr (dP (b:=true) (bw ((aw (ag (af rfl) (ag (af rfl) rfl))).trans (zf hr l (fun x hx=>BO (q x hx)) S6))))).trans ((jr (bw (ax ((aw (ag (af rfl) (ag (af rfl) rfl))).trans (qZ hr l (fun x hx=>by rcases BO (q x hx) with rfl | rfl <;> decide) S6)) (af rfl) hne))).trans (bw (ax (af rfl) rfl i3))))).trans rfl)
 have t7:(sIf (tV (eOp (fc true) (ae 3) (eC .non))) (sIf (PD.tOr (PD.dG (tV (au bV (ab (ae 3) (ab (ae 0) ak))))) (tV (eOp eu (au eR (ab (ae 0) (ab (ae 3) ak))) (ae 1)))) (aO (eC (.bl false))) aV) aV) [some (tupI row),some (.int v),some d2,some d3,some d4,some d5,none] S6=.ok (.nx [some (tupI row),some (.int v),some d2,some d3,some d4,some d5,none]) S6:=by
  have ht:tV (eOp (fc true) (ae 3) (eC .non)) [some (tupI row),some (.int v),some d2,some d3,some d4,some d5,none] S6=.ok b S6:=bw (ax (af rfl) rfl (g3.is true S6))
  rcases g3 with ⟨rfl,_⟩ | ⟨rfl,p,rfl,l,q,w⟩
  ·exact (cP ht).trans rfl
  ·have hq:∀ x ∈ p,-1≤x∧x≤1:=fun x hx=>by
    have:=q x hx
    simp only [KP,List.mem_cons,List.not_mem_nil,or_false] at this
    omega
   have hne:eu S6 (.int (wor row p)) (.int v)=some (.bl false):=by rw [ie,decide_eq_true w]; rfl
   exact (qE ht).trans ((cP ((jr (dP (b:=true) (bw ((aw (ag (af rfl) (ag (af rfl) rfl))).trans (tS hr l hq S6))))).trans (bw (ax ((aw (ag (af rfl) (ag (af rfl) rfl))).trans (qZ hr l hq S6)) (af rfl) hne)))).trans rfl)
 -- layers
 obtain ⟨S7,t8,P07,k7⟩:∃ S7:Sto,(sIf (PD.oi (tV (eOp (fc true) (ae 4) (eC .non))) (PD.dG (tV (au bK (ab (ae 4) (ab (ae 0) (ab (ae 1) ak))))))) (aO (eC (.bl false))) aV) [some (tupI row),some (.int v),some d2,some d3,some d4,some d5,none] S6=.ok (.nx [some (tupI row),some (.int v),some d2,some d3,some d4,some d5,none]) S7∧Pre S S7∧Ly KP row b S3 S7 d5:=by
  have ht:tV (eOp (fc true) (ae 4) (eC .non)) [some (tupI row),some (.int v),some d2,some d3,some d4,some d5,none] S6=.ok (!a) S6:=bw (ax (af rfl) rfl (y4'.is S6))
  rcases y4' with ⟨rfl,_⟩ | ⟨rfl,l,Ls,rfl,h1,h2,h3⟩
  ·exact ⟨S6,(cP (BN ht)).trans rfl,P06,y5'⟩
  ·have hl3:l < S3.length:=by
    rcases y4 with ⟨z,_⟩ | ⟨_,l',_,e',h1',_⟩
    ·cases z
    ·cases e'
     rcases h1' with q | q <;> exact (List.getElem?_eq_some_iff.mp q).1
   obtain ⟨S7,e,b1,b2,b3⟩:=su (K:=KS) (K':=KS) (f:=bK) rfl (by decide) (fun _ q=>q) hr h6 (fun z=>by have:=ha.mpr z; cases this) h1 h2
   refine ⟨S7,(cP ((BM ht).trans (dP (b:=true) (bw ((aw (ag (af rfl) (ag (af rfl) (ag (af rfl) rfl)))).trans e))))).trans rfl,⟨fun j hj=>?_,Nat.le_trans P06.len b3⟩,?_⟩
   ·rw [b2 j (by have:=P02.len; omega) (Nat.lt_of_lt_of_le hj P06.len)]; exact P06.old j hj
   ·rcases y5' with q | ⟨q,l5,Ls5,e5',q1,q2,q3⟩
    ·exact .inl q
    ·refine .inr ⟨q,l5,Ls5,e5',?_,q2,q3⟩
     have hl5:l5 < S6.length:=by rcases q1 with x | x <;> exact (List.getElem?_eq_some_iff.mp x).1
     unfold lAt
     rw [b2 l5 (by omega) hl5]; exact q1
 obtain ⟨S9,t9,P09⟩:∃ S9:Sto,(sIf (tV (eOp (fc true) (ae 5) (eC .non))) (sIf (PD.tOr (PD.dG (tV (au bH (ab (ae 5) (ab (ae 0) (ab (ae 1) ak)))))) (PD.dG (tV (au bK (ab (ae 5) (ab (ae 0) (ab (ae 1) ak))))))) (aO (eC (.bl false))) aV) aV) [some (tupI row),some (.int v),some d2,some d3,some d4,some d5,none] S7=.ok (.nx [some (tupI row),some (.int v),some d2,some d3,some d4,some d5,none]) S9∧Pre S S9:=by
  have ht:tV (eOp (fc true) (ae 5) (eC .non)) [some (tupI row),some (.int v),some d2,some d3,some d4,some d5,none] S7=.ok (!b) S7:=bw (ax (af rfl) rfl (k7.is S7))
  rcases k7 with ⟨rfl,_⟩ | ⟨rfl,l,Ls,rfl,h1,h2,h3⟩
  ·exact ⟨S7,(cP ht).trans rfl,P07⟩
  ·have hnv:¬ Wo KP row v:=fun z=>by have:=hb.mpr z; cases this
   obtain ⟨S8,e8,b1,b2,b3⟩:=su (K:=KP) (K':=KP) (f:=bH) rfl (by decide) (fun _ q=>q) hr h6 hnv h1 h2
   obtain ⟨S9,e9,c1,c2,c3⟩:=su (K:=KS) (K':=KP) (f:=bK) rfl (by decide) (fun q hq=>by rcases BO hq with rfl | rfl <;> decide) hr h6 hnv b1 h2
   refine ⟨S9,(qE ht).trans ((cP ((jr (dP (b:=true) (bw ((aw (ag (af rfl) (ag (af rfl) (ag (af rfl) rfl)))).trans e8)))).trans (dP (b:=true) (bw ((aw (ag (af rfl) (ag (af rfl) (ag (af rfl) rfl)))).trans e9))))).trans rfl),⟨fun j hj=>?_,Nat.le_trans (Nat.le_trans P07.len b3) c3⟩⟩
   have hjl:j ≠ l:=by have:=P03.len; omega
   have hj7:=Nat.lt_of_lt_of_le hj P07.len
   rw [c2 j hjl (Nat.lt_of_lt_of_le hj7 b3),b2 j hjl hj7]; exact P07.old j hj
 -- the rest
 have er:=qX hr (by omega) v S9
 have tl:eOr (eOp (fc false) (ae 6) (eC .non)) (iy (au eO (ab (ae 6) (ab (ae 0) (ab (ae 1) ak)))) (eOp (fc false) (ae 2) (eC .non))) [some (tupI row),some (.int v),some d2,some d3,some d4,some d5,some (optN (tQ row v))] S9=.ok (.bl true) S9:=by
  unfold tQ
  by_cases c:row=[]
  ·rw [if_pos c]
   exact zI (ax (af rfl) rfl rfl)
  ·rw [if_neg c]
   by_cases z:(row.sum - v) % (2 * i9 row 0)=0
   ·rw [if_pos z]
    exact zI (ax (af rfl) rfl rfl)
   ·rw [if_neg z]
    have hg:=mB row 0 hr.1 (Int.le_refl _) (.inr c)
    have hd:=(qW row 0).2
    have a0:a=false:=by
     cases a with
     | true=>exact absurd (Int.emod_eq_zero_of_dvd (xq hd (ha.mp rfl))) z
     | false=>rfl
    have i2:=g2.is false S9
    rw [a0] at i2
    exact (CQ (ax (af rfl) rfl rfl)).trans ((jC ((aw (ag (af rfl) (ag (af rfl) (ag (af rfl) rfl)))).trans (sr hr (by omega) (by omega) (fun x hx=>Int.mul_dvd_mul_left 2 (hd x hx)) z S9))).trans (ax (af rfl) rfl i2))
 refine ⟨S9,?_,P09⟩
 refine bb (ρ:=[some (tupI row),some (.int v),none,none,none,none,none]) rfl ?_
 refine (av (ua (ag ((aw (ag (af rfl) (ag (af rfl) rfl))).trans e1) (ag ((aw (ag (af rfl) (ag (af rfl) rfl))).trans e2) rfl)))).trans ?_
 refine (av (ua (ag ((aw (ag (af rfl) (ag (af rfl) rfl))).trans e3) (ag ((aw (ag (af rfl) (ag (af rfl) rfl))).trans e4) rfl)))).trans ?_
 refine (av ((cP ((jr (bw (ax (ax (af rfl) rfl (g2.is false S4)) (ax (af rfl) rfl (y4.is S4)) (t4 _)))).trans (bw (ax (ax (af rfl) rfl (g3.is false S4)) (ax (af rfl) rfl (y5.is S4)) (t4 _))))).trans rfl)).trans ?_
 have w5':fE S5 (.int c5) (.int 0)=some (.bl (!a)):=by rw [mw,w5]
 have w6':fE S6 (.int c6) (.int 0)=some (.bl (!b)):=by rw [mw,w6]
 refine (av ((cP (bw (ax (ax (af rfl) rfl (g2.is false S4)) (ax ((aw (ag (af rfl) (ag (af rfl) rfl))).trans e5) rfl w5') (t4 _)))).trans rfl)).trans ?_
 refine (av ((cP (bw (ax (ax (af rfl) rfl (g3.is false S5)) (ax ((aw (ag (af rfl) (ag (af rfl) rfl))).trans e6) rfl w6') (t4 _)))).trans rfl)).trans ?_
 refine (av t6).trans ((av t7).trans ((av t8).trans ((av t9).trans ?_)))
 exact (av (aS ((aw (ag (af rfl) (ag (af rfl) rfl))).trans er))).trans (aR tl)
abbrev Dw:SM:=(sIf (PD.dG (tV (au bI (ab (ae 3) (ab (au cW (ab (ae 2) (ab (ae 3) ak))) ak))))) (aO (eC (.bl false))) aV)
theorem rj {row:List Int} (hr:Row row) (h6:row.length≤6) {b:Nat} (r0 r1:Option D):∀ (l:List Nat) (S:Sto) (r4:Option D),Gr b S S→∃ (S':Sto) (a4:Option D),forL (.nm 4) Dw (l.map fun (i:Nat)=>D.int i) [r0,r1,some (.ref b),some (tupI row),r4] S=.ok (.nx [r0,r1,some (.ref b),some (tupI row),a4]) S'
 | [],S,r4,g=>⟨S,r4,rfl⟩
 | i :: l,S,r4,g=>by
  obtain ⟨v,S1,e1,g1⟩:=vo g h6
  obtain ⟨S2,e2,p2⟩:=BP hr h6 v S1
  obtain ⟨S3,a4,e3⟩:=rj hr h6 r0 r1 l S2 (some (.int i)) (Pre.gr g1.self p2).self
  exact ⟨S3,a4,(cv (r1:=[r0,r1,some (.ref b),some (tupI row),some (.int i)]) rfl ((cP (dP (b:=true) (bw ((aw (ag (af rfl) (ag ((aw (ag (af rfl) (ag (af rfl) rfl))).trans e1) rfl))).trans e2)))).trans rfl)).trans e3⟩
abbrev CZ:SM:=(aA (aQ 2 (au eA (ab (ae 0) (ab (ae 1) ak)))) (aA (aQ 3 (au fB (ab (ae 2) (ab (eC (.int 6)) ak)))) (aA (sIf (PD.dG (tV (au bS (ab (ae 3) ak)))) (aO (eC (.bl false))) aV) (fJ (dH (ab (eC (.int 4)) ak)) (.nm 4) (sIf (PD.dG (tV (au bI (ab (ae 3) (ab (au cW (ab (ae 2) (ab (ae 3) ak))) ak))))) (aO (eC (.bl false))) aV)))))
theorem xw (ns:List Int) (k:Nat) (S:Sto) (r2 r3 r4:Option D):∃ (S':Sto) (a2 a3 a4:Option D),CZ [some (.fz (ns.map .int)),some (.int k),r2,r3,r4] S=.ok (.nx [some (.fz (ns.map .int)),some (.int k),a2,a3,a4]) S':=by
 obtain ⟨v,e0⟩:=Bu ns k S
 have g0:Gr S.length (S ++ [.lst [.int v]]) (S ++ [.lst [.int v]]):=⟨⟨v,by simp⟩,fun _ _ _=>rfl,Nat.le_refl _⟩
 obtain ⟨row,S1,e1,l1,p1,g1⟩:=Bv g0 (most:=6) ⟨by decide,by decide⟩
 have h6:row.length≤6:=by omega
 have hr:Row row:=⟨fun x hx=>(p1 x hx).1,by omega⟩
 obtain ⟨S2,e2,p2⟩:=zi hr h6 S1
 obtain ⟨S3,a4,e3⟩:=rj hr h6 (some (.fz (ns.map .int))) (some (.int k)) (List.range 4) S2 r4 (Pre.gr g1.self p2).self
 exact ⟨S3,_,_,a4,(av (aS ((aw (ag (af rfl) (ag (af rfl) rfl))).trans e0))).trans ((av (aS ((aw (ag (af rfl) (ag rfl rfl))).trans e1))).trans ((av ((cP (dP (b:=true) (bw ((aw (ag (af rfl) rfl)).trans e2)))).trans rfl)).trans ((ig (jB (n:=4) rfl (by decide))).trans e3)))⟩
theorem rm (ns:List Int):∀ (l:List Nat) (S:Sto) (r1 r2 r3 r4:Option D),∃ (S':Sto) (ρ:Rho),forL (.nm 1) CZ (l.map fun (i:Nat)=>D.int i) [some (.fz (ns.map .int)),r1,r2,r3,r4] S=.ok (.nx ρ) S'
 | [],S,r1,r2,r3,r4=>⟨S,_,rfl⟩
 | k :: l,S,r1,r2,r3,r4=>by
  obtain ⟨S1,a2,a3,a4,e1⟩:=xw ns k S r2 r3 r4
  obtain ⟨S2,ρ,e2⟩:=rm ns l S1 (some (.int k)) a2 a3 a4
  exact ⟨S2,ρ,(cv (r1:=[some (.fz (ns.map .int)),some (.int k),r2,r3,r4]) rfl e1).trans e2⟩
theorem xx (ns:List Int) (hn:ns.length≤63):∃ S,tw [.fz (ns.map .int)] []=.ok (.bl true) S:=by
 obtain ⟨n,hg,hn3⟩:=zj ns 3 hn (by decide) [some (.fz (ns.map .int)),none,none,none,none] rfl []
 obtain ⟨S,ρ,e⟩:=rm ns (List.range n) [] none none none none
 exact ⟨S,bb (ρ:=[some (.fz (ns.map .int)),none,none,none,none]) rfl ((av ((ig hg).trans e)).trans (aR rfl))⟩
set_option maxHeartbeats 4000000
theorem ub:bootBuiltins "abs" = some (.builtin "abs"):=by decide +kernel
theorem fV:bootBuiltins "all" = some (.builtin "all"):=by decide +kernel
theorem xy:bootBuiltins "bool" = some (.type "bool"):=by decide +kernel
theorem xA:bootBuiltins "dict" = some (.type "dict"):=by decide +kernel
theorem sv:bootBuiltins "divmod" = some (.builtin "divmod"):=by decide +kernel
theorem uc:bootBuiltins "int" = some (.type "int"):=by decide +kernel
theorem cO:bootBuiltins "isinstance" = some (.builtin "isinstance"):=by decide +kernel
theorem dk:bootBuiltins "len" = some (.builtin "len"):=by decide +kernel
theorem xB:bootBuiltins "list" = some (.type "list"):=by decide +kernel
theorem zk:bootBuiltins "max" = some (.builtin "max"):=by decide +kernel
theorem ud:bootBuiltins "min" = some (.builtin "min"):=by decide +kernel
theorem sA:bootBuiltins "sorted" = some (.builtin "sorted"):=by decide +kernel
theorem lB:bootBuiltins "sum" = some (.builtin "sum"):=by decide +kernel
theorem fX:bootBuiltins "tuple" = some (.type "tuple"):=by decide +kernel
structure Txt (K:PySem.W.Frag) (mg:Str→Option Value):Prop where
 cl:Cls K raisedX askedX isaX
 b_abs:mg "abs" = none
 b_all:mg "all" = none
 b_bool:mg "bool" = none
 b_dict:mg "dict" = none
 b_divmod:mg "divmod" = none
 b_enumerate:mg "enumerate" = none
 b_int:mg "int" = none
 b_isinstance:mg "isinstance" = none
 b_len:mg "len" = none
 b_list:mg "list" = none
 b_max:mg "max" = none
 b_min:mg "min" = none
 b_range:mg "range" = none
 b_reversed:mg "reversed" = none
 b_sorted:mg "sorted" = none
 b_sum:mg "sum" = none
 b_tuple:mg "tuple" = none
 b_zip:mg "zip" = none
 c_LONGEST_ROW:∃ t,mg "LONGEST_ROW" = some (.int 16 t)
 c_LONGEST_TABLED:∃ t,mg "LONGEST_TABLED" = some (.int 10 t)
 m_PARTS:TupAt K mg "PARTS" [(-1),(0),(1)]
 m_SIGNS:TupAt K mg "SIGNS" [(-1),(1)]
section
variable {P:Program} {w:World} {K:PySem.W.Frag} {mg:Str→Option Value} {base:Heap}
theorem pD:FnScope ["script","k"] ["script","k"] (defScope dI):=fsk
theorem pE {f:Addr} {fd:FuncData} (F:Fun K "_law_cell" "_law_cell" dI f fd) (hm:mg "_law_cell" = some (.ref f)) (hb:Binds K fd ["script","k"] []) (T:Txt K mg) :DefN P w K mg base "_law_cell" 1 2 dv:=
 aF ["script","k"] ["script","k"] 0 1 2 2 rfl rfl rfl F hm hb pD (m:=gn) fun cdv A outer s H E hr=>(aq (cw (ba wc (vL 1) (aD eZ (by unfold Gl; kernel_rfl) T.b_len dk (aa (vL 0) ai))) (ay (aC (eD eY (vL 0) (vL 1)))) bz) (ay (aC ar)))
theorem gw:FnScope ["cell","k","some","stir"] ["cell","k"] (defScope eE):=fsk
theorem rn {f:Addr} {fd:FuncData} (F:Fun K "_law_mix" "_law_mix" eE f fd) (hm:mg "_law_mix" = some (.ref f)) (hb:Binds K fd ["cell","k"] []) (T:Txt K mg) :DefN P w K mg base "_law_mix" 1 2 ez:=
 aF ["cell","k","some","stir"] ["cell","k"] 0 1 2 4 rfl rfl rfl F hm hb gw (m:=jy) fun cdv A outer s H E hr=>(aq (aN gw.nd (by kernel_rfl) (Or.inl (by kernel_rfl)) (gY (aa ar (aa ar (aa ar (aa ar (aa ar (aa ar (aa ar (aa ar (aa ar (aa ar (aa ar (aa ar (aa ar ai))))))))))))))) (aq (aN gw.nd (by kernel_rfl) (Or.inl (by kernel_rfl)) (aI cG (aI cG (aI cS (aI cG (aI gZ (vL 0) ar) ar) (eD eY (vL 2) (aI gZ (vL 1) ar))) (aI cS ar (vL 1))) (aI cS ar (aI oH (vL 1) ar)))) (aq (aN gw.nd (by kernel_rfl) (Or.inl (by kernel_rfl)) (aI gZ (vL 3) ar)) (ay (aC (aI oH (aI gZ (aI cG (aI cS (vL 3) (vL 3)) (aI cS ar (vL 1))) ar) ar))))))
theorem fI:FnScope ["script","k","cell","number","j"] ["script","k"] (defScope eF):=fsk
theorem rp {f:Addr} {fd:FuncData} (F:Fun K "_law_box" "_law_box" eF f fd) (hm:mg "_law_box" = some (.ref f)) (hb:Binds K fd ["script","k"] []) (T:Txt K mg) (d__law_cell:DefN P w K mg base "_law_cell" 1 2 dv) (d__law_mix:DefN P w K mg base "_law_mix" 1 2 ez):DefN P w K mg base "_law_box" 2 2 eA:=
 aF ["script","k","cell","number","j"] ["script","k"] 1 2 2 5 rfl rfl rfl F hm hb fI (m:=hW) fun cdv A outer s H E hr=>(aq (aN fI.nd (by kernel_rfl) (Or.inl (by kernel_rfl)) (az d__law_cell (hr.mono (by decide)) (by unfold Gl; kernel_rfl) (aa (vL 0) (aa (vL 1) ai)) (ah (ah ao)))) (aq (cw (ba (g8 hr) (aI gZ (vL 2) ar) ar) (ay (aC (kh (aa (aI oH (aD wg (by unfold Gl; kernel_rfl) T.b_abs ub (aa (vL 2) ai)) ar) ai)))) bz) (aq (aN fI.nd (by kernel_rfl) (Or.inl (by kernel_rfl)) ar) (aq (eh PassesOwn.never rfl (gK (by unfold Gl; kernel_rfl) T.b_range (aa ar ai)) (aJ fI.nd (by kernel_rfl) (Or.inl (by kernel_rfl))) (ay (aN fI.nd (by kernel_rfl) (Or.inl (by kernel_rfl)) (aI cG (aI cS (vL 3) ar) (az d__law_mix (hr.mono (by decide)) (by unfold Gl; kernel_rfl) (aa (vL 2) (aa (vL 4) ai)) (ah (ah ao))))))) (ay (aC (kh (aa (vL 3) ai))))))))
theorem iu:FnScope ["box","many","left","digit"] ["box","many"] (defScope dJ):=fsk
theorem pF {f:Addr} {fd:FuncData} (F:Fun K "_law_take" "_law_take" dJ f fd) (hm:mg "_law_take" = some (.ref f)) (hb:Binds K fd ["box","many"] []) (T:Txt K mg) :DefN P w K mg base "_law_take" 1 2 aK:=
 aF ["box","many","left","digit"] ["box","many"] 0 1 2 4 rfl rfl rfl F hm hb iu (m:=iM) fun cdv A outer s H E hr=>(aq (vZ (aD uP (by unfold Gl; kernel_rfl) T.b_divmod sv (aa (eD eY (vL 0) ar) (aa (vL 1) ai))) (ki rfl (cT (aJ iu.nd (by kernel_rfl) (Or.inl (by kernel_rfl))) (cT (aJ iu.nd (by kernel_rfl) (Or.inl (by kernel_rfl))) i4)))) (aq (v7 wq (vL 2) (vL 0) ar) (ay (aC (vL 3)))))
theorem fk:FnScope ["box","row","high","small","some"] ["box","row"] (defScope cH):=fsk
theorem mC {f:Addr} {fd:FuncData} (F:Fun K "_law_number" "_law_number" cH f fd) (hm:mg "_law_number" = some (.ref f)) (hb:Binds K fd ["box","row"] []) (T:Txt K mg) (d__law_take:DefN P w K mg base "_law_take" 1 2 aK):DefN P w K mg base "_law_number" 2 2 cW:=
 aF ["box","row","high","small","some"] ["box","row"] 1 2 2 5 rfl rfl rfl F hm hb fk (m:=jk) fun cdv A outer s H E hr=>(aq (aN fk.nd (by kernel_rfl) (Or.inl (by kernel_rfl)) (aD (oV rfl) (by unfold Gl; kernel_rfl) T.b_sum lB (aa (vL 1) ai))) (aq (aN fk.nd (by kernel_rfl) (Or.inl (by kernel_rfl)) (aI fo (az d__law_take (hr.mono (by decide)) (by unfold Gl; kernel_rfl) (aa (vL 0) (aa ar ai)) (ah (ah ao))) ar)) (aq (aN fk.nd (by kernel_rfl) (Or.inl (by kernel_rfl)) (gY (aa ar (aa (vL 2) (aa (aI fo ar (vL 2)) (aa (aI fo (vL 2) ar) (aa (vL 3) (aa (aI cG (aI cG (vL 2) ar) (aI cS (vL 3) (vL 3))) (aa (vL 3) (aa (aI fo (vL 2) (aI cS ar (eD eY (aI cG (vL 1) (iG (aa ar ai))) ar))) (aa (vL 3) ai))))))))))) (ay (aC (eD eY (vL 4) (az d__law_take (hr.mono (by decide)) (by unfold Gl; kernel_rfl) (aa (vL 0) (aa ar ai)) (ah (ah ao)))))))))
theorem rq:FnScope ["thing"] ["thing"] (defScope eG):=fsk
theorem rA {f:Addr} {fd:FuncData} (F:Fun K "is_whole" "is_whole" eG f fd) (hm:mg "is_whole" = some (.ref f)) (hb:Binds K fd ["thing"] []) (T:Txt K mg) :DefN P w K mg base "is_whole" 1 1 aW:=
 aF ["thing"] ["thing"] 0 1 1 1 rfl rfl rfl F hm hb rq (m:=jz) fun cdv A outer s H E hr=>(ay (aC (gB (aD kn (by unfold Gl; kernel_rfl) T.b_isinstance cO (aa (vL 0) (aa (nC (by unfold Gl; kernel_rfl) T.b_int uc) ai))) (gA (AK (aD kn (by unfold Gl; kernel_rfl) T.b_isinstance cO (aa (vL 0) (aa (nC (by unfold Gl; kernel_rfl) T.b_bool xy) ai))))))))
theorem pG:FnScope ["thing","many"] ["thing","many"] (defScope dM):=fsk
theorem pH {f:Addr} {fd:FuncData} (F:Fun K "are_whole" "are_whole" dM f fd) (hm:mg "are_whole" = some (.ref f)) (hb:Binds K fd ["thing","many"] []) (T:Txt K mg) (d_is_whole:DefN P w K mg base "is_whole" 1 1 aW):DefN P w K mg base "are_whole" 2 2 dw:=
 aF ["thing","many"] ["thing","many"] 1 2 2 2 rfl rfl rfl F hm hb pG (m:=kP) fun cdv A outer s H E hr=>(ay (aC (gB (aD kn (by unfold Gl; kernel_rfl) T.b_isinstance cO (aa (vL 0) (aa (nC (by unfold Gl; kernel_rfl) T.b_tuple fX) ai))) (gB (cE (g8 hr) (aD eZ (by unfold Gl; kernel_rfl) T.b_len dk (aa (vL 0) ai)) (vL 1)) (gA (aD (g6 rfl) (by unfold Gl; kernel_rfl) T.b_all fV (aa (cB (N:=["number"]) (k:=1) (caps:=[]) rfl (fun _ _ z=>z) (fO (by kernel_rfl) (by kernel_rfl) (by kernel_rfl) (by kernel_rfl) rfl (by kernel_rfl)) (dW (vL 0)) (fun _ _ _ _=>(aJ (show (["number"]:List Str).Nodup by decide +kernel) (by kernel_rfl) (Or.inl (by kernel_rfl)))) (fun _ _ _ _=>ef) (fun _ _ _ _=>(az d_is_whole (hr.mono (by decide)) (by unfold Gl; kernel_rfl) (aa (vL 0) ai) (ah ao)))) ai)))))))
theorem vp:FnScope ["thing"] ["thing"] (defScope fW):=fsk
theorem vq {f:Addr} {fd:FuncData} (F:Fun K "is_row" "is_row" fW f fd) (hm:mg "is_row" = some (.ref f)) (hb:Binds K fd ["thing"] []) (T:Txt K mg) (d_is_whole:DefN P w K mg base "is_whole" 1 1 aW):DefN P w K mg base "is_row" 2 1 fF:=
 aF ["thing"] ["thing"] 1 2 1 1 rfl rfl rfl F hm hb vp (m:=iN) fun cdv A outer s H E hr=>(aq (cw (iF (iE (dU (dS (aD kn (by unfold Gl; kernel_rfl) T.b_isinstance cO (aa (vL 0) (aa (nC (by unfold Gl; kernel_rfl) T.b_tuple fX) ai))))) (gC (ba zw (aD eZ (by unfold Gl; kernel_rfl) T.b_len dk (aa (vL 0) ai)) (zA T.c_LONGEST_ROW (by unfold Gl; kernel_rfl)))))) (ay (aC dY)) bz) (ay (aC (aD (g6 rfl) (by unfold Gl; kernel_rfl) T.b_all fV (aa (cB (N:=["number"]) (k:=1) (caps:=[]) rfl (fun _ _ z=>z) (fO (by kernel_rfl) (by kernel_rfl) (by kernel_rfl) (by kernel_rfl) rfl (by kernel_rfl)) (dW (vL 0)) (fun _ _ _ _=>(aJ (show (["number"]:List Str).Nodup by decide +kernel) (by kernel_rfl) (Or.inl (by kernel_rfl)))) (fun _ _ _ _=>ef) (fun _ _ _ _=>(gB (az d_is_whole (hr.mono (by decide)) (by unfold Gl; kernel_rfl) (aa (vL 0) ai) (ah ao)) (gA (cE CG (vL 0) ar))))) ai)))))
theorem mW:FnScope ["thing"] ["thing"] (defScope cX):=fsk
theorem mX {f:Addr} {fd:FuncData} (F:Fun K "need_row" "need_row" cX f fd) (hm:mg "need_row" = some (.ref f)) (hb:Binds K fd ["thing"] []) (T:Txt K mg) (d_is_row:DefN P w K mg base "is_row" 2 1 fF):DefN P w K mg base "need_row" 3 1 bf:=
 aF ["thing"] ["thing"] 2 3 1 1 rfl rfl rfl F hm hb mW (m:=hZ) fun cdv A outer s H E hr=>(ay (cw (dU (dS (az d_is_row (hr.mono (by decide)) (by unfold Gl; kernel_rfl) (aa (vL 0) ai) (ah ao)))) (ay jJ) bz))
theorem mD:FnScope ["thing","row"] ["thing","row"] (defScope cI):=fsk
theorem mE {f:Addr} {fd:FuncData} (F:Fun K "are_parts" "are_parts" cI f fd) (hm:mg "are_parts" = some (.ref f)) (hb:Binds K fd ["thing","row"] []) (T:Txt K mg) (d_are_whole:DefN P w K mg base "are_whole" 2 2 dw) (d_need_row_n:DefN P w K mg base "need_row" 3 1 bf):DefN P w K mg base "are_parts" 4 2 bV:=
 aF ["thing","row"] ["thing","row"] 3 4 2 2 rfl rfl rfl F hm hb mD (m:=jl) fun cdv A outer s H E hr=>(aq (br (az d_need_row_n (hr.mono (by decide)) (by unfold Gl; kernel_rfl) (aa (vL 1) ai) (ah ao))) (ay (aC (gB (az d_are_whole (hr.mono (by decide)) (by unfold Gl; kernel_rfl) (aa (vL 0) (aa (aD eZ (by unfold Gl; kernel_rfl) T.b_len dk (aa (vL 1) ai)) ai)) (ah (ah ao))) (gA (aD (g6 rfl) (by unfold Gl; kernel_rfl) T.b_all fV (aa (cB (N:=["part"]) (k:=1) (caps:=[]) rfl (fun _ _ z=>z) (fO (by kernel_rfl) (by kernel_rfl) (by kernel_rfl) (by kernel_rfl) rfl (by kernel_rfl)) (dW (vL 0)) (fun _ _ _ _=>(aJ (show (["part"]:List Str).Nodup by decide +kernel) (by kernel_rfl) (Or.inl (by kernel_rfl)))) (fun _ _ _ _=>ef) (fun _ _ _ _=>(vY zv zv (nD kj ar) (vL 0) ar))) ai)))))))
theorem iV:FnScope ["thing","many"] ["thing","many"] (defScope bh):=fsk
theorem iW {f:Addr} {fd:FuncData} (F:Fun K "are_so_many_signs" "are_so_many_signs" bh f fd) (hm:mg "are_so_many_signs" = some (.ref f)) (hb:Binds K fd ["thing","many"] []) (T:Txt K mg) (d_are_whole:DefN P w K mg base "are_whole" 2 2 dw):DefN P w K mg base "are_so_many_signs" 3 2 bQ:=
 aF ["thing","many"] ["thing","many"] 2 3 2 2 rfl rfl rfl F hm hb iV (m:=fQ) fun cdv A outer s H E hr=>(ay (aC (gB (az d_are_whole (hr.mono (by decide)) (by unfold Gl; kernel_rfl) (aa (vL 0) (aa (vL 1) ai)) (ah (ah ao))) (gA (aD (g6 rfl) (by unfold Gl; kernel_rfl) T.b_all fV (aa (cB (N:=["sign"]) (k:=1) (caps:=[]) rfl (fun _ _ z=>z) (fO (by kernel_rfl) (by kernel_rfl) (by kernel_rfl) (by kernel_rfl) rfl (by kernel_rfl)) (dW (vL 0)) (fun _ _ _ _=>(aJ (show (["sign"]:List Str).Nodup by decide +kernel) (by kernel_rfl) (Or.inl (by kernel_rfl)))) (fun _ _ _ _=>ef) (fun _ _ _ _=>(cE (g8 hr) (aD wg (by unfold Gl; kernel_rfl) T.b_abs ub (aa (vL 0) ai)) ar))) ai))))))
theorem mF:FnScope ["thing","row"] ["thing","row"] (defScope cJ):=fsk
theorem mG {f:Addr} {fd:FuncData} (F:Fun K "are_signs" "are_signs" cJ f fd) (hm:mg "are_signs" = some (.ref f)) (hb:Binds K fd ["thing","row"] []) (T:Txt K mg) (d_are_so_many_signs:DefN P w K mg base "are_so_many_signs" 3 2 bQ) (d_need_row_n:DefN P w K mg base "need_row" 3 1 bf):DefN P w K mg base "are_signs" 4 2 cY:=
 aF ["thing","row"] ["thing","row"] 3 4 2 2 rfl rfl rfl F hm hb mF (m:=jm) fun cdv A outer s H E hr=>(aq (br (az d_need_row_n (hr.mono (by decide)) (by unfold Gl; kernel_rfl) (aa (vL 1) ai) (ah ao))) (ay (aC (az d_are_so_many_signs (hr.mono (by decide)) (by unfold Gl; kernel_rfl) (aa (vL 0) (aa (aD eZ (by unfold Gl; kernel_rfl) T.b_len dk (aa (vL 1) ai)) ai)) (ah (ah ao))))))
theorem pI:FnScope ["thing"] ["thing"] (defScope dN):=fsk
theorem pJ {f:Addr} {fd:FuncData} (F:Fun K "is_rising" "is_rising" dN f fd) (hm:mg "is_rising" = some (.ref f)) (hb:Binds K fd ["thing"] []) (T:Txt K mg) (d_is_whole:DefN P w K mg base "is_whole" 1 1 aW):DefN P w K mg base "is_rising" 2 1 eI:=
 aF ["thing"] ["thing"] 1 2 1 1 rfl rfl rfl F hm hb pI (m:=kQ) fun cdv A outer s H E hr=>(aq (cw (iF (iE (dU (dS (aD kn (by unfold Gl; kernel_rfl) T.b_isinstance cO (aa (vC 0) (aa (nC (by unfold Gl; kernel_rfl) T.b_tuple fX) ai))))) (gC (dU (dS (aD (g6 rfl) (by unfold Gl; kernel_rfl) T.b_all fV (aa (cB (N:=["number"]) (k:=1) (caps:=[]) rfl (fun _ _ z=>z) (fO (by kernel_rfl) (by kernel_rfl) (by kernel_rfl) (by kernel_rfl) rfl (by kernel_rfl)) (dW (vC 0)) (fun _ _ _ _=>(aJ (show (["number"]:List Str).Nodup by decide +kernel) (by kernel_rfl) (Or.inl (by kernel_rfl)))) (fun _ _ _ _=>ef) (fun _ _ _ _=>(az d_is_whole (hr.mono (by decide)) (by unfold Gl; kernel_rfl) (aa (vL 0) ai) (ah ao)))) ai))))))) (ay (aC dY)) bz) (ay (aC (aD (g6 rfl) (by unfold Gl; kernel_rfl) T.b_all fV (aa (cB (N:=["place","thing"]) (k:=1) (caps:=[0]) rfl (fun _ _ z=>z) (fO (by kernel_rfl) (by kernel_rfl) (by kernel_rfl) (by kernel_rfl) rfl (by kernel_rfl)) (u9 (by unfold Gl; kernel_rfl) T.b_range (aa ar (aa (aD eZ (by unfold Gl; kernel_rfl) T.b_len dk (aa (vC 0) ai)) ai))) (fun _ _ _ _=>(aJ (show (["place","thing"]:List Str).Nodup by decide +kernel) (by kernel_rfl) (Or.inl (by kernel_rfl)))) (fun _ _ _ _=>ef) (fun _ _ _ _=>(cE wc (eD eY (vC 1) (aI fo (vL 0) ar)) (eD eY (vC 1) (vL 0))))) ai)))))
theorem gx:FnScope ["layer","following","step","choices","present","reached","choice"] ["layer","following","step","choices"] (defScope eJ):=fsk
theorem rB {f:Addr} {fd:FuncData} (F:Fun K "leads_on" "leads_on" eJ f fd) (hm:mg "leads_on" = some (.ref f)) (hb:Binds K fd ["layer","following","step","choices"] []) (T:Txt K mg) :DefN P w K mg base "leads_on" 1 4 fu:=
 aF ["layer","following","step","choices","present","reached","choice"] ["layer","following","step","choices"] 0 1 4 7 rfl rfl rfl F hm hb gx (m:=mh) fun cdv A outer s H E hr=>(aq (aN gx.nd (by kernel_rfl) (Or.inl (by kernel_rfl)) (rS (Bp rfl) (by unfold Gl; kernel_rfl) T.b_dict xA (aa (cB (N:=["reached"]) (k:=1) (caps:=[]) rfl (fun _ _ z=>z) (fO (by kernel_rfl) (by kernel_rfl) (by kernel_rfl) (by kernel_rfl) rfl (by kernel_rfl)) (dW (vL 1)) (fun _ _ _ _=>(aJ (show (["reached"]:List Str).Nodup by decide +kernel) (by kernel_rfl) (Or.inl (by kernel_rfl)))) (fun _ _ _ _=>ef) (fun _ _ _ _=>(iG (aa (vL 0) (aa dY ai))))) ai))) (aq (eh PassesOwn.never rfl (dW (vL 0)) (aJ gx.nd (by kernel_rfl) (Or.inl (by kernel_rfl))) (ay (eh PassesOwn.never rfl (dW (vL 3)) (aJ gx.nd (by kernel_rfl) (Or.inl (by kernel_rfl))) (ay (cw (ba (kx hr) (aI cG (vL 5) (aI cS (vL 6) (vL 2))) (vL 4)) (ay (aC dY)) bz))))) (ay (aC dY))))
theorem mY:FnScope ["thing","row","choices"] ["thing","row","choices"] (defScope cZ):=fsk
theorem mZ {f:Addr} {fd:FuncData} (F:Fun K "are_layers" "are_layers" cZ f fd) (hm:mg "are_layers" = some (.ref f)) (hb:Binds K fd ["thing","row","choices"] []) (T:Txt K mg) (d_is_rising:DefN P w K mg base "is_rising" 2 1 eI) (d_leads_on:DefN P w K mg base "leads_on" 1 4 fu):DefN P w K mg base "are_layers" 3 3 cx:=
 aF ["thing","row","choices"] ["thing","row","choices"] 2 3 3 3 rfl rfl rfl F hm hb mY (m:=jX) fun cdv A outer s H E hr=>(aq (cw (iF (iE (dU (dS (aD yR (by unfold Gl; kernel_rfl) T.b_isinstance cO (aa (vC 0) (aa (nC (by unfold Gl; kernel_rfl) T.b_list xB) ai))))) (gC (ba (dX hr) (aD eZ (by unfold Gl; kernel_rfl) T.b_len dk (aa (vC 0) ai)) (aI cG (aD eZ (by unfold Gl; kernel_rfl) T.b_len dk (aa (vL 1) ai)) ar))))) (ay (aC dY)) bz) (aq (cw (iF (iE (dU (dS (aD (g6 rfl) (by unfold Gl; kernel_rfl) T.b_all fV (aa (cB (N:=["layer"]) (k:=1) (caps:=[]) rfl (fun _ _ z=>z) (fO (by kernel_rfl) (by kernel_rfl) (by kernel_rfl) (by kernel_rfl) rfl (by kernel_rfl)) (Bo (vC 0)) (fun _ _ _ _=>(aJ (show (["layer"]:List Str).Nodup by decide +kernel) (by kernel_rfl) (Or.inl (by kernel_rfl)))) (fun _ _ _ _=>ef) (fun _ _ _ _=>(az d_is_rising (hr.mono (by decide)) (by unfold Gl; kernel_rfl) (aa (vL 0) ai) (ah ao)))) ai)))) (gC (ba jM ar (eD eY (vC 0) ar))))) (ay (aC dY)) bz) (ay (aC (aD (g6 rfl) (by unfold Gl; kernel_rfl) T.b_all fV (aa (cB (N:=["place","step","thing","choices"]) (k:=2) (caps:=[0,2]) rfl (fun _ _ z=>z) (fO (by kernel_rfl) (by kernel_rfl) (by kernel_rfl) (by kernel_rfl) rfl (by kernel_rfl)) (sU (by unfold Gl; kernel_rfl) T.b_enumerate (aa (vL 1) ai)) (fun _ _ _ _=>(ki rfl (cT (aJ (show (["place","step","thing","choices"]:List Str).Nodup by decide +kernel) (by kernel_rfl) (Or.inl (by kernel_rfl))) (cT (aJ (show (["place","step","thing","choices"]:List Str).Nodup by decide +kernel) (by kernel_rfl) (Or.inl (by kernel_rfl))) i4)))) (fun _ _ _ _=>ef) (fun _ _ _ _=>(az d_leads_on (hr.mono (by decide)) (by unfold Gl; kernel_rfl) (aa (eD eY (vC 2) (vL 0)) (aa (eD eY (vC 2) (aI cG (vL 0) ar)) (aa (vL 1) (aa (vC 3) ai)))) (ah (ah (ah (ah ao))))))) ai))))))
theorem m5:FnScope ["row"] ["row"] (defScope de):=fsk
theorem m7 {f:Addr} {fd:FuncData} (F:Fun K "need_few" "need_few" de f fd) (hm:mg "need_few" = some (.ref f)) (hb:Binds K fd ["row"] []) (T:Txt K mg) (d_need_row_n:DefN P w K mg base "need_row" 3 1 bf):DefN P w K mg base "need_few" 4 1 bT:=
 aF ["row"] ["row"] 3 4 1 1 rfl rfl rfl F hm hb m5 (m:=jY) fun cdv A outer s H E hr=>(aq (br (az d_need_row_n (hr.mono (by decide)) (by unfold Gl; kernel_rfl) (aa (vL 0) ai) (ah ao))) (ay (cw (ba zw (aD eZ (by unfold Gl; kernel_rfl) T.b_len dk (aa (vL 0) ai)) (zA T.c_LONGEST_TABLED (by unfold Gl; kernel_rfl))) (ay jJ) bz)))
theorem kC:FnScope ["thing"] ["thing"] (defScope bX):=fsk
theorem kE {f:Addr} {fd:FuncData} (F:Fun K "need_number" "need_number" bX f fd) (hm:mg "need_number" = some (.ref f)) (hb:Binds K fd ["thing"] []) (T:Txt K mg) (d_is_whole:DefN P w K mg base "is_whole" 1 1 aW):DefN P w K mg base "need_number" 2 1 cg:=
 aF ["thing"] ["thing"] 1 2 1 1 rfl rfl rfl F hm hb kC (m:=fL) fun cdv A outer s H E hr=>(ay (cw (dU (dS (az d_is_whole (hr.mono (by decide)) (by unfold Gl; kernel_rfl) (aa (vL 0) ai) (ah ao)))) (ay jJ) bz))
theorem gE:FnScope ["row","number"] ["row","number"] (defScope aT):=fsk
theorem gF {f:Addr} {fd:FuncData} (F:Fun K "need_row_and_number" "need_row_and_number" aT f fd) (hm:mg "need_row_and_number" = some (.ref f)) (hb:Binds K fd ["row","number"] []) (T:Txt K mg) (d_need_number_n:DefN P w K mg base "need_number" 2 1 cg) (d_need_row_n:DefN P w K mg base "need_row" 3 1 bf):DefN P w K mg base "need_row_and_number" 4 2 bj:=
 aF ["row","number"] ["row","number"] 3 4 2 2 rfl rfl rfl F hm hb gE (m:=eK) fun cdv A outer s H E hr=>(aq (br (az d_need_row_n (hr.mono (by decide)) (by unfold Gl; kernel_rfl) (aa (vL 0) ai) (ah ao))) (ay (br (az d_need_number_n (hr.mono (by decide)) (by unfold Gl; kernel_rfl) (aa (vL 1) ai) (ah ao)))))
theorem gG:FnScope ["row","number"] ["row","number"] (defScope aU):=fsk
theorem gH {f:Addr} {fd:FuncData} (F:Fun K "need_few_and_number" "need_few_and_number" aU f fd) (hm:mg "need_few_and_number" = some (.ref f)) (hb:Binds K fd ["row","number"] []) (T:Txt K mg) (d_need_few_n:DefN P w K mg base "need_few" 4 1 bT) (d_need_row_and_number_n:DefN P w K mg base "need_row_and_number" 4 2 bj):DefN P w K mg base "need_few_and_number" 5 2 aj:=
 aF ["row","number"] ["row","number"] 4 5 2 2 rfl rfl rfl F hm hb gG (m:=eN) fun cdv A outer s H E hr=>(aq (br (az d_need_row_and_number_n (hr.mono (by decide)) (by unfold Gl; kernel_rfl) (aa (vL 0) (aa (vL 1) ai)) (ah (ah ao)))) (ay (br (az d_need_few_n (hr.mono (by decide)) (by unfold Gl; kernel_rfl) (aa (vL 0) ai) (ah ao)))))
theorem mH:FnScope ["thing","row","number"] ["thing","row","number"] (defScope cK):=fsk
theorem mI {f:Addr} {fd:FuncData} (F:Fun K "is_barred" "is_barred" cK f fd) (hm:mg "is_barred" = some (.ref f)) (hb:Binds K fd ["thing","row","number"] []) (T:Txt K mg) (d_are_layers:DefN P w K mg base "are_layers" 3 3 cx) (d_need_few_and_number_n:DefN P w K mg base "need_few_and_number" 5 2 aj):DefN P w K mg base "is_barred" 6 3 bK:=
 aF ["thing","row","number"] ["thing","row","number"] 5 6 3 3 rfl rfl rfl F hm hb mH (m:=jn) fun cdv A outer s H E hr=>(aq (br (az d_need_few_and_number_n (hr.mono (by decide)) (by unfold Gl; kernel_rfl) (aa (vL 1) (aa (vL 2) ai)) (ah (ah ao)))) (ay (aC (gB (az d_are_layers (hr.mono (by decide)) (by unfold Gl; kernel_rfl) (aa (vL 0) (aa (vL 1) (aa (jj T.m_SIGNS (by unfold Gl; kernel_rfl)) ai))) (ah (ah (ah ao)))) (gA (cE jM (vL 2) (eD eY (vL 0) (nD kj ar))))))))
theorem ka:FnScope ["thing","row","number","divides_all"] ["thing","row","number"] (defScope dO):=fsk
theorem pK {f:Addr} {fd:FuncData} (F:Fun K "is_rest" "is_rest" dO f fd) (hm:mg "is_rest" = some (.ref f)) (hb:Binds K fd ["thing","row","number"] []) (T:Txt K mg) (d_is_whole:DefN P w K mg base "is_whole" 1 1 aW) (d_need_few_and_number_n:DefN P w K mg base "need_few_and_number" 5 2 aj):DefN P w K mg base "is_rest" 6 3 eO:=
 aF ["thing","row","number","divides_all"] ["thing","row","number"] 5 6 3 4 rfl rfl rfl F hm hb ka (m:=kR) fun cdv A outer s H E hr=>(aq (br (az d_need_few_and_number_n (hr.mono (by decide)) (by unfold Gl; kernel_rfl) (aa (vL 1) (aa (vL 2) ai)) (ah (ah ao)))) (aq (cw (iF (iE (dU (dS (az d_is_whole (hr.mono (by decide)) (by unfold Gl; kernel_rfl) (aa (vC 0) ai) (ah ao)))) (gC (ba wc (vC 0) ar)))) (ay (aC dY)) bz) (aq (aN ka.nd (by kernel_rfl) (Or.inl (by kernel_rfl)) (aD (g6 rfl) (by unfold Gl; kernel_rfl) T.b_all fV (aa (cB (N:=["step","thing"]) (k:=1) (caps:=[0]) rfl (fun _ _ z=>z) (fO (by kernel_rfl) (by kernel_rfl) (by kernel_rfl) (by kernel_rfl) rfl (by kernel_rfl)) (dW (vL 1)) (fun _ _ _ _=>(aJ (show (["step","thing"]:List Str).Nodup by decide +kernel) (by kernel_rfl) (Or.inl (by kernel_rfl)))) (fun _ _ _ _=>ef) (fun _ _ _ _=>(cE (g8 hr) (aI gZ (aI cS ar (vL 0)) (vC 1)) ar))) ai))) (ay (aC (gB (vL 3) (gA (cE (dX hr) (aI gZ (aI fo (aD (oV rfl) (by unfold Gl; kernel_rfl) T.b_sum lB (aa (vL 1) ai)) (vL 2)) (vC 0)) ar))))))))
theorem ja:FnScope ["thing","row","number"] ["thing","row","number"] (defScope bC):=fsk
theorem jc {f:Addr} {fd:FuncData} (F:Fun K "is_wide_barred" "is_wide_barred" bC f fd) (hm:mg "is_wide_barred" = some (.ref f)) (hb:Binds K fd ["thing","row","number"] []) (T:Txt K mg) (d_are_layers:DefN P w K mg base "are_layers" 3 3 cx) (d_need_few_and_number_n:DefN P w K mg base "need_few_and_number" 5 2 aj):DefN P w K mg base "is_wide_barred" 6 3 bH:=
 aF ["thing","row","number"] ["thing","row","number"] 5 6 3 3 rfl rfl rfl F hm hb ja (m:=fZ) fun cdv A outer s H E hr=>(aq (br (az d_need_few_and_number_n (hr.mono (by decide)) (by unfold Gl; kernel_rfl) (aa (vL 1) (aa (vL 2) ai)) (ah (ah ao)))) (ay (aC (gB (az d_are_layers (hr.mono (by decide)) (by unfold Gl; kernel_rfl) (aa (vL 0) (aa (vL 1) (aa (jj T.m_PARTS (by unfold Gl; kernel_rfl)) ai))) (ah (ah (ah ao)))) (gA (cE jM (vL 2) (eD eY (vL 0) (nD kj ar))))))))
theorem fC:FnScope ["table","step","choices","wider","reached","ways","choice","there"] ["table","step","choices"] (defScope fw):=fsk
theorem sC {f:Addr} {fd:FuncData} (F:Fun K "stepped" "stepped" fw f fd) (hm:mg "stepped" = some (.ref f)) (hb:Binds K fd ["table","step","choices"] []) (T:Txt K mg) :DefN P w K mg base "stepped" 1 3 cj:=
 aF ["table","step","choices","wider","reached","ways","choice","there"] ["table","step","choices"] 0 1 3 8 rfl rfl rfl F hm hb fC (m:=nS) fun cdv A outer s H E hr=>(aq (aN fC.nd (by kernel_rfl) (Or.inl (by kernel_rfl)) yC) (aq (eh PassesOwn.never rfl (wI (vL 0)) (ki rfl (cT (aJ fC.nd (by kernel_rfl) (Or.inl (by kernel_rfl))) (cT (aJ fC.nd (by kernel_rfl) (Or.inl (by kernel_rfl))) i4))) (ay (eh PassesOwn.never rfl (dW (vL 2)) (aJ fC.nd (by kernel_rfl) (Or.inl (by kernel_rfl))) (aq (aN fC.nd (by kernel_rfl) (Or.inl (by kernel_rfl)) (aI cG (vL 4) (aI cS (vL 6) (vL 1)))) (ay (v7 (yz hr) (aI cG (oY hr (vL 3) (vL 7) ar (wF (by kernel_rfl) (by kernel_rfl) (by kernel_rfl) (by kernel_rfl))) (vL 5)) (vL 3) (vL 7))))))) (ay (aC (vL 3)))))
theorem cV:FnScope ["row","choices","table","layers","step"] ["row","choices"] (defScope ck):=fsk
theorem kX {f:Addr} {fd:FuncData} (F:Fun K "least_layers" "least_layers" ck f fd) (hm:mg "least_layers" = some (.ref f)) (hb:Binds K fd ["row","choices"] []) (T:Txt K mg) (d_stepped:DefN P w K mg base "stepped" 1 3 cj):DefN P w K mg base "least_layers" 2 2 dy:=
 aF ["row","choices","table","layers","step"] ["row","choices"] 1 2 2 5 rfl rfl rfl F hm hb cV (m:=iO) fun cdv A outer s H E hr=>(aq (aN cV.nd (by kernel_rfl) (Or.inl (by kernel_rfl)) (o7 (lP ar ar oR))) (aq (aN cV.nd (by kernel_rfl) (Or.inl (by kernel_rfl)) (kh (aa (iG (aa ar ai)) ai))) (aq (eh PassesOwn.never rfl (dW (vL 0)) (aJ cV.nd (by kernel_rfl) (Or.inl (by kernel_rfl))) (aq (aN cV.nd (by kernel_rfl) (Or.inl (by kernel_rfl)) (az d_stepped (hr.mono (by decide)) (by unfold Gl; kernel_rfl) (aa (vL 2) (aa (vL 4) (aa (vL 1) ai))) (ah (ah (ah ao))))) (ay (br (oQ PySem.F.plainAttrs_list PySem.F.slot_list_append PySem.F.type_list_append i5 (vL 3) (aa (i0 lM (by unfold Gl; kernel_rfl) T.b_tuple fX (aa (aD (Bm rfl) (by unfold Gl; kernel_rfl) T.b_sorted sA (aa (vL 2) ai)) ai)) ai)))))) (ay (aC (vL 3))))))
theorem gW:FnScope ["number","row","choices","layers"] ["number","row","choices"] (defScope bY):=fsk
theorem kF {f:Addr} {fd:FuncData} (F:Fun K "least_without" "least_without" bY f fd) (hm:mg "least_without" = some (.ref f)) (hb:Binds K fd ["number","row","choices"] []) (T:Txt K mg) (d_least_layers:DefN P w K mg base "least_layers" 2 2 dy):DefN P w K mg base "least_without" 3 3 aY:=
 aF ["number","row","choices","layers"] ["number","row","choices"] 2 3 3 4 rfl rfl rfl F hm hb gW (m:=ix) fun cdv A outer s H E hr=>(aq (aN gW.nd (by kernel_rfl) (Or.inl (by kernel_rfl)) (az d_least_layers (hr.mono (by decide)) (by unfold Gl; kernel_rfl) (aa (vL 1) (aa (vL 2) ai)) (ah (ah ao)))) (ay (aC (zt (ba zx (vL 0) (eD eY (vL 3) (nD kj ar))) dm (vL 3)))))
theorem kY:FnScope ["row","number"] ["row","number"] (defScope cn):=fsk
theorem kZ {f:Addr} {fd:FuncData} (F:Fun K "layers_for" "layers_for" cn f fd) (hm:mg "layers_for" = some (.ref f)) (hb:Binds K fd ["row","number"] []) (T:Txt K mg) (d_least_without:DefN P w K mg base "least_without" 3 3 aY) (d_need_few_and_number_n:DefN P w K mg base "need_few_and_number" 5 2 aj):DefN P w K mg base "layers_for" 6 2 dz:=
 aF ["row","number"] ["row","number"] 5 6 2 2 rfl rfl rfl F hm hb kY (m:=iP) fun cdv A outer s H E hr=>(aq (br (az d_need_few_and_number_n (hr.mono (by decide)) (by unfold Gl; kernel_rfl) (aa (vL 0) (aa (vL 1) ai)) (ah (ah ao)))) (ay (aC (az d_least_without (hr.mono (by decide)) (by unfold Gl; kernel_rfl) (aa (vL 1) (aa (vL 0) (aa (jj T.m_SIGNS (by unfold Gl; kernel_rfl)) ai))) (ah (ah (ah ao)))))))
theorem gy:FnScope ["row","choices","table","step"] ["row","choices"] (defScope eP):=fsk
theorem rC {f:Addr} {fd:FuncData} (F:Fun K "table_of" "table_of" eP f fd) (hm:mg "table_of" = some (.ref f)) (hb:Binds K fd ["row","choices"] []) (T:Txt K mg) (d_stepped:DefN P w K mg base "stepped" 1 3 cj):DefN P w K mg base "table_of" 2 2 bN:=
 aF ["row","choices","table","step"] ["row","choices"] 1 2 2 4 rfl rfl rfl F hm hb gy (m:=ml) fun cdv A outer s H E hr=>(aq (aN gy.nd (by kernel_rfl) (Or.inl (by kernel_rfl)) (o7 (lP ar ar oR))) (aq (eh PassesOwn.never rfl (dW (vL 0)) (aJ gy.nd (by kernel_rfl) (Or.inl (by kernel_rfl))) (ay (aN gy.nd (by kernel_rfl) (Or.inl (by kernel_rfl)) (az d_stepped (hr.mono (by decide)) (by unfold Gl; kernel_rfl) (aa (vL 2) (aa (vL 3) (aa (vL 1) ai))) (ah (ah (ah ao))))))) (ay (aC (vL 2)))))
theorem mJ:FnScope ["row","number"] ["row","number"] (defScope cL):=fsk
theorem mK {f:Addr} {fd:FuncData} (F:Fun K "part_ways" "part_ways" cL f fd) (hm:mg "part_ways" = some (.ref f)) (hb:Binds K fd ["row","number"] []) (T:Txt K mg) (d_need_few_and_number_n:DefN P w K mg base "need_few_and_number" 5 2 aj) (d_table_of:DefN P w K mg base "table_of" 2 2 bN):DefN P w K mg base "part_ways" 6 2 dZ:=
 aF ["row","number"] ["row","number"] 5 6 2 2 rfl rfl rfl F hm hb mJ (m:=jo) fun cdv A outer s H E hr=>(aq (br (az d_need_few_and_number_n (hr.mono (by decide)) (by unfold Gl; kernel_rfl) (aa (vL 0) (aa (vL 1) ai)) (ah (ah ao)))) (ay (aC (oY hr (az d_table_of (hr.mono (by decide)) (by unfold Gl; kernel_rfl) (aa (vL 0) (aa (jj T.m_PARTS (by unfold Gl; kernel_rfl)) ai)) (ah (ah ao))) (vL 1) ar (wF (by kernel_rfl) (by kernel_rfl) (by kernel_rfl) (by kernel_rfl))))))
theorem di:FnScope ["row","choices","tables","step"] ["row","choices"] (defScope aZ):=fsk
theorem iA {f:Addr} {fd:FuncData} (F:Fun K "tables_from_behind" "tables_from_behind" aZ f fd) (hm:mg "tables_from_behind" = some (.ref f)) (hb:Binds K fd ["row","choices"] []) (T:Txt K mg) (d_stepped:DefN P w K mg base "stepped" 1 3 cj):DefN P w K mg base "tables_from_behind" 2 2 bo:=
 aF ["row","choices","tables","step"] ["row","choices"] 1 2 2 4 rfl rfl rfl F hm hb di (m:=fG) fun cdv A outer s H E hr=>(aq (aN di.nd (by kernel_rfl) (Or.inl (by kernel_rfl)) (kh (aa (o7 (lP ar ar oR)) ai))) (aq (eh PassesOwn.never rfl (Bb (by unfold Gl; kernel_rfl) T.b_reversed (aa (vL 0) ai)) (aJ di.nd (by kernel_rfl) (Or.inl (by kernel_rfl))) (ay (br (oQ PySem.F.plainAttrs_list PySem.F.slot_list_append PySem.F.type_list_append i5 (vL 2) (aa (az d_stepped (hr.mono (by decide)) (by unfold Gl; kernel_rfl) (aa (eD eY (vL 2) (nD kj ar)) (aa (vL 3) (aa (vL 1) ai))) (ah (ah (ah ao)))) ai))))) (ay (aC (vL 2)))))
theorem cy:FnScope ["row","number","choices","tables","chosen","rest","place","step","behind","first"] ["row","number","choices"] (defScope eQ):=fsk
theorem rD {f:Addr} {fd:FuncData} (F:Fun K "first_to" "first_to" eQ f fd) (hm:mg "first_to" = some (.ref f)) (hb:Binds K fd ["row","number","choices"] []) (T:Txt K mg) (d_tables_from_behind:DefN P w K mg base "tables_from_behind" 2 2 bo):DefN P w K mg base "first_to" 3 3 dA:=
 aF ["row","number","choices","tables","chosen","rest","place","step","behind","first"] ["row","number","choices"] 2 3 3 10 rfl rfl rfl F hm hb cy (m:=mn) fun cdv A outer s H E hr=>(aq (aN cy.nd (by kernel_rfl) (Or.inl (by kernel_rfl)) (az d_tables_from_behind (hr.mono (by decide)) (by unfold Gl; kernel_rfl) (aa (vL 0) (aa (vL 2) ai)) (ah (ah ao)))) (aq (cw (ba (kx hr) (vL 1) (eD eY (vL 3) (nD kj ar))) (ay (aC dm)) bz) (aq (aN cy.nd (by kernel_rfl) (Or.inl (by kernel_rfl)) (kh ai)) (aq (aN cy.nd (by kernel_rfl) (Or.inr (by kernel_rfl)) (vL 1)) (aq (eh PassesOwn.never rfl (sU (by unfold Gl; kernel_rfl) T.b_enumerate (aa (vL 0) ai)) (ki rfl (cT (aJ cy.nd (by kernel_rfl) (Or.inl (by kernel_rfl))) (cT (aJ cy.nd (by kernel_rfl) (Or.inr (by kernel_rfl))) i4))) (aq (aN cy.nd (by kernel_rfl) (Or.inr (by kernel_rfl)) (eD eY (vL 3) (aI fo (aI fo (aD eZ (by unfold Gl; kernel_rfl) T.b_len dk (aa (vL 0) ai)) (vL 6)) ar))) (aq (aN cy.nd (by kernel_rfl) (Or.inl (by kernel_rfl)) (aD (yE rfl) (by unfold Gl; kernel_rfl) T.b_min ud (aa (cB (N:=["choice","rest","step","behind"]) (k:=1) (caps:=[5,7,8]) rfl (fun _ _ z=>z) (fO (by kernel_rfl) (by kernel_rfl) (by kernel_rfl) (by kernel_rfl) rfl (by kernel_rfl)) (dW (vL 2)) (fun _ _ _ _=>(aJ (show (["choice","rest","step","behind"]:List Str).Nodup by decide +kernel) (by kernel_rfl) (Or.inl (by kernel_rfl)))) (fun _ _ _ _=>(lx (ba (A7 hr) (aI fo (vC 1) (aI cS (vL 0) (vC 2))) (vC 3)))) (fun _ _ _ _=>(vL 0))) ai))) (aq (br (oQ PySem.F.plainAttrs_list PySem.F.slot_list_append PySem.F.type_list_append i5 (vL 4) (aa (vL 9) ai))) (ay (aN cy.nd (by kernel_rfl) (Or.inr (by kernel_rfl)) (aI fo (vC 5) (aI cS (vL 9) (vC 7))))))))) (ay (aC (i0 lM (by unfold Gl; kernel_rfl) T.b_tuple fX (aa (vL 4) ai)))))))))
theorem m8:FnScope ["row","number"] ["row","number"] (defScope df):=fsk
theorem m9 {f:Addr} {fd:FuncData} (F:Fun K "parts_to" "parts_to" df f fd) (hm:mg "parts_to" = some (.ref f)) (hb:Binds K fd ["row","number"] []) (T:Txt K mg) (d_first_to:DefN P w K mg base "first_to" 3 3 dA) (d_need_few_and_number_n:DefN P w K mg base "need_few_and_number" 5 2 aj):DefN P w K mg base "parts_to" 6 2 ff:=
 aF ["row","number"] ["row","number"] 5 6 2 2 rfl rfl rfl F hm hb m8 (m:=jZ) fun cdv A outer s H E hr=>(aq (br (az d_need_few_and_number_n (hr.mono (by decide)) (by unfold Gl; kernel_rfl) (aa (vL 0) (aa (vL 1) ai)) (ah (ah ao)))) (ay (aC (az d_first_to (hr.mono (by decide)) (by unfold Gl; kernel_rfl) (aa (vL 0) (aa (vL 1) (aa (jj T.m_PARTS (by unfold Gl; kernel_rfl)) ai))) (ah (ah (ah ao)))))))
theorem bB:FnScope ["row","divisor","number","other","left"] ["row"] (defScope bM):=fsk
theorem kc {f:Addr} {fd:FuncData} (F:Fun K "common_divisor" "common_divisor" bM f fd) (hm:mg "common_divisor" = some (.ref f)) (hb:Binds K fd ["row"] []) (T:Txt K mg) :DefN P w K mg base "common_divisor" 1 1 bZ:=
 aF ["row","divisor","number","other","left"] ["row"] 0 1 1 5 rfl rfl rfl F hm hb bB (m:=gS) fun cdv A outer s H E hr=>(aq (aN bB.nd (by kernel_rfl) (Or.inl (by kernel_rfl)) ar) (aq (eh PassesOwn.never rfl (dW (vL 0)) (aJ bB.nd (by kernel_rfl) (Or.inl (by kernel_rfl))) (aq (aN bB.nd (by kernel_rfl) (Or.inl (by kernel_rfl)) (vL 2)) (ay (wz PassesOwn.never (ba (dX hr) (vL 3) ar) (aq (aN bB.nd (by kernel_rfl) (Or.inl (by kernel_rfl)) (aI gZ (vL 1) (vL 3))) (aq (aN bB.nd (by kernel_rfl) (Or.inl (by kernel_rfl)) (vL 3)) (ay (aN bB.nd (by kernel_rfl) (Or.inl (by kernel_rfl)) (vL 4))))))))) (ay (aC (vL 1)))))
theorem js:FnScope ["row","number","greatest"] ["row","number"] (defScope dg):=fsk
theorem nc {f:Addr} {fd:FuncData} (F:Fun K "rest_for" "rest_for" dg f fd) (hm:mg "rest_for" = some (.ref f)) (hb:Binds K fd ["row","number"] []) (T:Txt K mg) (d_common_divisor:DefN P w K mg base "common_divisor" 1 1 bZ) (d_need_few_and_number_n:DefN P w K mg base "need_few_and_number" 5 2 aj):DefN P w K mg base "rest_for" 6 2 fg:=
 aF ["row","number","greatest"] ["row","number"] 5 6 2 3 rfl rfl rfl F hm hb js (m:=j0) fun cdv A outer s H E hr=>(aq (br (az d_need_few_and_number_n (hr.mono (by decide)) (by unfold Gl; kernel_rfl) (aa (vL 0) (aa (vL 1) ai)) (ah (ah ao)))) (aq (cw (ba (g8 hr) (vL 0) (iG ai)) (ay (aC dm)) bz) (aq (aN js.nd (by kernel_rfl) (Or.inl (by kernel_rfl)) (aI cS ar (az d_common_divisor (hr.mono (by decide)) (by unfold Gl; kernel_rfl) (aa (vL 0) ai) (ah ao)))) (ay (aC (zt (ba (dX hr) (aI gZ (aI fo (aD (oV rfl) (by unfold Gl; kernel_rfl) T.b_sum lB (aa (vL 0) ai)) (vL 1)) (vL 2)) ar) (vL 2) dm))))))
theorem mL:FnScope ["row","number"] ["row","number"] (defScope cM):=fsk
theorem mM {f:Addr} {fd:FuncData} (F:Fun K "sign_ways" "sign_ways" cM f fd) (hm:mg "sign_ways" = some (.ref f)) (hb:Binds K fd ["row","number"] []) (T:Txt K mg) (d_need_few_and_number_n:DefN P w K mg base "need_few_and_number" 5 2 aj) (d_table_of:DefN P w K mg base "table_of" 2 2 bN):DefN P w K mg base "sign_ways" 6 2 d7:=
 aF ["row","number"] ["row","number"] 5 6 2 2 rfl rfl rfl F hm hb mL (m:=jq) fun cdv A outer s H E hr=>(aq (br (az d_need_few_and_number_n (hr.mono (by decide)) (by unfold Gl; kernel_rfl) (aa (vL 0) (aa (vL 1) ai)) (ah (ah ao)))) (ay (aC (oY hr (az d_table_of (hr.mono (by decide)) (by unfold Gl; kernel_rfl) (aa (vL 0) (aa (jj T.m_SIGNS (by unfold Gl; kernel_rfl)) ai)) (ah (ah ao))) (vL 1) ar (wF (by kernel_rfl) (by kernel_rfl) (by kernel_rfl) (by kernel_rfl))))))
theorem ng:FnScope ["row","number"] ["row","number"] (defScope dh):=fsk
theorem nh {f:Addr} {fd:FuncData} (F:Fun K "signs_to" "signs_to" dh f fd) (hm:mg "signs_to" = some (.ref f)) (hb:Binds K fd ["row","number"] []) (T:Txt K mg) (d_first_to:DefN P w K mg base "first_to" 3 3 dA) (d_need_few_and_number_n:DefN P w K mg base "need_few_and_number" 5 2 aj):DefN P w K mg base "signs_to" 6 2 fh:=
 aF ["row","number"] ["row","number"] 5 6 2 2 rfl rfl rfl F hm hb ng (m:=j3) fun cdv A outer s H E hr=>(aq (br (az d_need_few_and_number_n (hr.mono (by decide)) (by unfold Gl; kernel_rfl) (aa (vL 0) (aa (vL 1) ai)) (ah (ah ao)))) (ay (aC (az d_first_to (hr.mono (by decide)) (by unfold Gl; kernel_rfl) (aa (vL 0) (aa (vL 1) (aa (jj T.m_SIGNS (by unfold Gl; kernel_rfl)) ai))) (ah (ah (ah ao)))))))
theorem iX:FnScope ["row","number"] ["row","number"] (defScope bp):=fsk
theorem iY {f:Addr} {fd:FuncData} (F:Fun K "wide_layers_for" "wide_layers_for" bp f fd) (hm:mg "wide_layers_for" = some (.ref f)) (hb:Binds K fd ["row","number"] []) (T:Txt K mg) (d_least_without:DefN P w K mg base "least_without" 3 3 aY) (d_need_few_and_number_n:DefN P w K mg base "need_few_and_number" 5 2 aj):DefN P w K mg base "wide_layers_for" 6 2 bR:=
 aF ["row","number"] ["row","number"] 5 6 2 2 rfl rfl rfl F hm hb iX (m:=fR) fun cdv A outer s H E hr=>(aq (br (az d_need_few_and_number_n (hr.mono (by decide)) (by unfold Gl; kernel_rfl) (aa (vL 0) (aa (vL 1) ai)) (ah (ah ao)))) (ay (aC (az d_least_without (hr.mono (by decide)) (by unfold Gl; kernel_rfl) (aa (vL 1) (aa (vL 0) (aa (jj T.m_PARTS (by unfold Gl; kernel_rfl)) ai))) (ah (ah (ah ao)))))))
theorem lg:FnScope ["row","thing"] ["row","thing"] (defScope cp):=fsk
theorem lh {f:Addr} {fd:FuncData} (F:Fun K "need_parts" "need_parts" cp f fd) (hm:mg "need_parts" = some (.ref f)) (hb:Binds K fd ["row","thing"] []) (T:Txt K mg) (d_are_parts_n:DefN P w K mg base "are_parts" 4 2 bV):DefN P w K mg base "need_parts" 5 2 dB:=
 aF ["row","thing"] ["row","thing"] 4 5 2 2 rfl rfl rfl F hm hb lg (m:=iQ) fun cdv A outer s H E hr=>(ay (cw (dU (dS (az d_are_parts_n (hr.mono (by decide)) (by unfold Gl; kernel_rfl) (aa (vL 1) (aa (vL 0) ai)) (ah (ah ao))))) (ay jJ) bz))
theorem sD:FnScope ["row","parts"] ["row","parts"] (defScope fA):=fsk
theorem sE {f:Addr} {fd:FuncData} (F:Fun K "worth" "worth" fA f fd) (hm:mg "worth" = some (.ref f)) (hb:Binds K fd ["row","parts"] []) (T:Txt K mg) (d_need_parts_n:DefN P w K mg base "need_parts" 5 2 dB):DefN P w K mg base "worth" 6 2 eR:=
 aF ["row","parts"] ["row","parts"] 5 6 2 2 rfl rfl rfl F hm hb sD (m:=nT) fun cdv A outer s H E hr=>(aq (br (az d_need_parts_n (hr.mono (by decide)) (by unfold Gl; kernel_rfl) (aa (vL 0) (aa (vL 1) ai)) (ah (ah ao)))) (ay (aC (aD (oV rfl) (by unfold Gl; kernel_rfl) T.b_sum lB (aa (cB (N:=["number","part"]) (k:=2) (caps:=[]) rfl (fun _ _ z=>z) (fO (by kernel_rfl) (by kernel_rfl) (by kernel_rfl) (by kernel_rfl) rfl (by kernel_rfl)) (A5 (by unfold Gl; kernel_rfl) T.b_zip (aa (vL 0) (aa (vL 1) ai))) (fun _ _ _ _=>(ki rfl (cT (aJ (show (["number","part"]:List Str).Nodup by decide +kernel) (by kernel_rfl) (Or.inl (by kernel_rfl))) (cT (aJ (show (["number","part"]:List Str).Nodup by decide +kernel) (by kernel_rfl) (Or.inl (by kernel_rfl))) i4)))) (fun _ _ _ _=>ef) (fun _ _ _ _=>(aI cS (vL 0) (vL 1)))) ai)))))
theorem cC:FnScope ["row","number","signs","parts","layers","wide","rest"] ["row","number"] (defScope bD):=fsk
theorem jd {f:Addr} {fd:FuncData} (F:Fun K "_law_one_right" "_law_one_right" bD f fd) (hm:mg "_law_one_right" = some (.ref f)) (hb:Binds K fd ["row","number"] []) (T:Txt K mg) (d_are_parts_n:DefN P w K mg base "are_parts" 4 2 bV) (d_are_signs_n:DefN P w K mg base "are_signs" 4 2 cY) (d_is_barred_n:DefN P w K mg base "is_barred" 6 3 bK) (d_is_rest_n:DefN P w K mg base "is_rest" 6 3 eO) (d_is_wide_barred_n:DefN P w K mg base "is_wide_barred" 6 3 bH) (d_layers_for_n:DefN P w K mg base "layers_for" 6 2 dz) (d_part_ways_n:DefN P w K mg base "part_ways" 6 2 dZ) (d_parts_to_n:DefN P w K mg base "parts_to" 6 2 ff) (d_rest_for_n:DefN P w K mg base "rest_for" 6 2 fg) (d_sign_ways_n:DefN P w K mg base "sign_ways" 6 2 d7) (d_signs_to_n:DefN P w K mg base "signs_to" 6 2 fh) (d_wide_layers_for_n:DefN P w K mg base "wide_layers_for" 6 2 bR) (d_worth_n:DefN P w K mg base "worth" 6 2 eR):DefN P w K mg base "_law_one_right" 7 2 bI:=
 aF ["row","number","signs","parts","layers","wide","rest"] ["row","number"] 6 7 2 7 rfl rfl rfl F hm hb cC (m:=gb) fun cdv A outer s H E hr=>(aq (v5 rfl cC.nd (by kernel_rfl) (by kernel_rfl) (by decide) (by kernel_rfl) (by kernel_rfl) (aa (az d_signs_to_n (hr.mono (by decide)) (by unfold Gl; kernel_rfl) (aa (vL 0) (aa (vL 1) ai)) (ah (ah ao))) (aa (az d_parts_to_n (hr.mono (by decide)) (by unfold Gl; kernel_rfl) (aa (vL 0) (aa (vL 1) ai)) (ah (ah ao))) ai))) (aq (v5 rfl cC.nd (by kernel_rfl) (by kernel_rfl) (by decide) (by kernel_rfl) (by kernel_rfl) (aa (az d_layers_for_n (hr.mono (by decide)) (by unfold Gl; kernel_rfl) (aa (vL 0) (aa (vL 1) ai)) (ah (ah ao))) (aa (az d_wide_layers_for_n (hr.mono (by decide)) (by unfold Gl; kernel_rfl) (aa (vL 0) (aa (vL 1) ai)) (ah (ah ao))) ai))) (aq (cw (iF (iE (ba (dX hr) (cE lU (vL 2) dm) (cE gO (vL 4) dm)) (gC (ba (dX hr) (cE lU (vL 3) dm) (cE gO (vL 5) dm))))) (ay (aC dY)) bz) (aq (cw (ba (dX hr) (cE lU (vL 2) dm) (cE (g8 hr) (az d_sign_ways_n (hr.mono (by decide)) (by unfold Gl; kernel_rfl) (aa (vL 0) (aa (vL 1) ai)) (ah (ah ao))) ar)) (ay (aC dY)) bz) (aq (cw (ba (dX hr) (cE lU (vL 3) dm) (cE (g8 hr) (az d_part_ways_n (hr.mono (by decide)) (by unfold Gl; kernel_rfl) (aa (vL 0) (aa (vL 1) ai)) (ah (ah ao))) ar)) (ay (aC dY)) bz) (aq (cw (ba gO (vL 2) dm) (ay (cw (iF (iE (dU (dS (az d_are_signs_n (hr.mono (by decide)) (by unfold Gl; kernel_rfl) (aa (vL 2) (aa (vL 0) ai)) (ah (ah ao))))) (iE (ba (dX hr) (az d_worth_n (hr.mono (by decide)) (by unfold Gl; kernel_rfl) (aa (vL 0) (aa (vL 2) ai)) (ah (ah ao))) (vL 1)) (gC (ba lU (vL 3) dm))))) (ay (aC dY)) bz)) bz) (aq (cw (ba gO (vL 3) dm) (ay (cw (iF (iE (dU (dS (az d_are_parts_n (hr.mono (by decide)) (by unfold Gl; kernel_rfl) (aa (vL 3) (aa (vL 0) ai)) (ah (ah ao))))) (gC (ba (dX hr) (az d_worth_n (hr.mono (by decide)) (by unfold Gl; kernel_rfl) (aa (vL 0) (aa (vL 3) ai)) (ah (ah ao))) (vL 1))))) (ay (aC dY)) bz)) bz) (aq (cw (iF (AL (ba gO (vL 4) dm) (yg (dU (dS (az d_is_barred_n (hr.mono (by decide)) (by unfold Gl; kernel_rfl) (aa (vL 4) (aa (vL 0) (aa (vL 1) ai))) (ah (ah (ah ao))))))))) (ay (aC dY)) bz) (aq (cw (ba gO (vL 5) dm) (ay (cw (iF (iE (dU (dS (az d_is_wide_barred_n (hr.mono (by decide)) (by unfold Gl; kernel_rfl) (aa (vL 5) (aa (vL 0) (aa (vL 1) ai))) (ah (ah (ah ao)))))) (gC (dU (dS (az d_is_barred_n (hr.mono (by decide)) (by unfold Gl; kernel_rfl) (aa (vL 5) (aa (vL 0) (aa (vL 1) ai))) (ah (ah (ah ao))))))))) (ay (aC dY)) bz)) bz) (aq (aN cC.nd (by kernel_rfl) (Or.inl (by kernel_rfl)) (az d_rest_for_n (hr.mono (by decide)) (by unfold Gl; kernel_rfl) (aa (vL 0) (aa (vL 1) ai)) (ah (ah ao)))) (ay (aC (CA (cE lU (vL 6) dm) (gA (gB (az d_is_rest_n (hr.mono (by decide)) (by unfold Gl; kernel_rfl) (aa (vL 6) (aa (vL 0) (aa (vL 1) ai))) (ah (ah (ah ao)))) (gA (cE lU (vL 2) dm)))))))))))))))))
theorem cQ:FnScope ["box","most","many","kind","base","found","k","given","some"] ["box","most"] (defScope eS):=fsk
theorem rE {f:Addr} {fd:FuncData} (F:Fun K "_law_row" "_law_row" eS f fd) (hm:mg "_law_row" = some (.ref f)) (hb:Binds K fd ["box","most"] []) (T:Txt K mg) (d__law_take:DefN P w K mg base "_law_take" 1 2 aK):DefN P w K mg base "_law_row" 2 2 fB:=
 aF ["box","most","many","kind","base","found","k","given","some"] ["box","most"] 1 2 2 9 rfl rfl rfl F hm hb cQ (m:=jA) fun cdv A outer s H E hr=>(aq (aN cQ.nd (by kernel_rfl) (Or.inl (by kernel_rfl)) (az d__law_take (hr.mono (by decide)) (by unfold Gl; kernel_rfl) (aa (vL 0) (aa (aI cG (vL 1) ar) ai)) (ah (ah ao)))) (aq (aN cQ.nd (by kernel_rfl) (Or.inl (by kernel_rfl)) (az d__law_take (hr.mono (by decide)) (by unfold Gl; kernel_rfl) (aa (vL 0) (aa ar ai)) (ah (ah ao)))) (aq (aN cQ.nd (by kernel_rfl) (Or.inl (by kernel_rfl)) (aI cG ar (az d__law_take (hr.mono (by decide)) (by unfold Gl; kernel_rfl) (aa (vL 0) (aa ar ai)) (ah (ah ao))))) (aq (aN cQ.nd (by kernel_rfl) (Or.inl (by kernel_rfl)) (kh ai)) (aq (eh PassesOwn.never rfl (gK (by unfold Gl; kernel_rfl) T.b_range (aa (vL 2) ai)) (aJ cQ.nd (by kernel_rfl) (Or.inl (by kernel_rfl))) (aq (aN cQ.nd (by kernel_rfl) (Or.inl (by kernel_rfl)) (aI cG ar (az d__law_take (hr.mono (by decide)) (by unfold Gl; kernel_rfl) (aa (vL 0) (aa ar ai)) (ah (ah ao))))) (aq (aN cQ.nd (by kernel_rfl) (Or.inl (by kernel_rfl)) (gY (aa (vL 7) (aa (vL 7) (aa (vL 4) (aa (aI wb ar (vL 6)) (aa (aI cG (vL 4) (aI cS (vL 6) (vL 7))) (aa (aI cS (vL 7) (vL 7)) (aa (aI cG (aI cS (aI AQ ar ar) (vL 7)) (vL 7)) ai))))))))) (ay (br (oQ PySem.F.plainAttrs_list PySem.F.slot_list_append PySem.F.type_list_append i5 (vL 5) (aa (eD eY (gY (aa (eD eY (vL 8) (vL 3)) (aa (aI cS (vL 4) (vL 7)) ai))) (i0 AV (by unfold Gl; kernel_rfl) T.b_int uc (aa (cE (g8 hr) (az d__law_take (hr.mono (by decide)) (by unfold Gl; kernel_rfl) (aa (vL 0) (aa ar ai)) (ah (ah ao))) ar) ai))) ai))))))) (ay (aC (i0 lM (by unfold Gl; kernel_rfl) T.b_tuple fX (aa (vL 5) ai)))))))))
theorem dE:FnScope ["many","kinds","found","k","more","some"] ["many","kinds"] (defScope eT):=fsk
theorem rF {f:Addr} {fd:FuncData} (F:Fun K "_law_all" "_law_all" eT f fd) (hm:mg "_law_all" = some (.ref f)) (hb:Binds K fd ["many","kinds"] []) (T:Txt K mg) :DefN P w K mg base "_law_all" 1 2 gc:=
 aF ["many","kinds","found","k","more","some"] ["many","kinds"] 0 1 2 6 rfl rfl rfl F hm hb dE (m:=mq) fun cdv A outer s H E hr=>(aq (aN dE.nd (by kernel_rfl) (Or.inl (by kernel_rfl)) (gY (aa (iG ai) ai))) (aq (eh PassesOwn.never rfl (gK (by unfold Gl; kernel_rfl) T.b_range (aa (vL 0) ai)) (aJ dE.nd (by kernel_rfl) (Or.inl (by kernel_rfl))) (aq (aN dE.nd (by kernel_rfl) (Or.inl (by kernel_rfl)) (gY ai)) (aq (eh PassesOwn.never rfl (dW (vL 2)) (aJ dE.nd (by kernel_rfl) (Or.inr (by kernel_rfl))) (ay (aN dE.nd (by kernel_rfl) (Or.inl (by kernel_rfl)) (aI cG (vL 4) (cB (N:=["part","some"]) (k:=1) (caps:=[5]) rfl (fun _ _ z=>z) (fO (by kernel_rfl) (by kernel_rfl) (by kernel_rfl) (by kernel_rfl) rfl (by kernel_rfl)) (dW (vL 1)) (fun _ _ _ _=>(aJ (show (["part","some"]:List Str).Nodup by decide +kernel) (by kernel_rfl) (Or.inl (by kernel_rfl)))) (fun _ _ _ _=>ef) (fun _ _ _ _=>(aI cG (vC 1) (iG (aa (vL 0) ai))))))))) (ay (aN dE.nd (by kernel_rfl) (Or.inl (by kernel_rfl)) (vL 4)))))) (ay (aC (vL 2)))))
theorem lj:FnScope ["row"] ["row"] (defScope cq):=fsk
theorem ll {f:Addr} {fd:FuncData} (F:Fun K "part_table" "part_table" cq f fd) (hm:mg "part_table" = some (.ref f)) (hb:Binds K fd ["row"] []) (T:Txt K mg) (d_need_few_n:DefN P w K mg base "need_few" 4 1 bT) (d_table_of:DefN P w K mg base "table_of" 2 2 bN):DefN P w K mg base "part_table" 5 1 dC:=
 aF ["row"] ["row"] 4 5 1 1 rfl rfl rfl F hm hb lj (m:=iR) fun cdv A outer s H E hr=>(aq (br (az d_need_few_n (hr.mono (by decide)) (by unfold Gl; kernel_rfl) (aa (vL 0) ai) (ah ao))) (ay (aC (az d_table_of (hr.mono (by decide)) (by unfold Gl; kernel_rfl) (aa (vL 0) (aa (jj T.m_PARTS (by unfold Gl; kernel_rfl)) ai)) (ah (ah ao))))))
theorem lp:FnScope ["row"] ["row"] (defScope cu):=fsk
theorem lq {f:Addr} {fd:FuncData} (F:Fun K "sign_table" "sign_table" cu f fd) (hm:mg "sign_table" = some (.ref f)) (hb:Binds K fd ["row"] []) (T:Txt K mg) (d_need_few_n:DefN P w K mg base "need_few" 4 1 bT) (d_table_of:DefN P w K mg base "table_of" 2 2 bN):DefN P w K mg base "sign_table" 5 1 dD:=
 aF ["row"] ["row"] 4 5 1 1 rfl rfl rfl F hm hb lp (m:=iS) fun cdv A outer s H E hr=>(aq (br (az d_need_few_n (hr.mono (by decide)) (by unfold Gl; kernel_rfl) (aa (vL 0) ai) (ah ao))) (ay (aC (az d_table_of (hr.mono (by decide)) (by unfold Gl; kernel_rfl) (aa (vL 0) (aa (jj T.m_SIGNS (by unfold Gl; kernel_rfl)) ai)) (ah (ah ao))))))
theorem dF:FnScope ["row","signs","parts"] ["row"] (defScope bq):=fsk
theorem iZ {f:Addr} {fd:FuncData} (F:Fun K "_law_sums_right" "_law_sums_right" bq f fd) (hm:mg "_law_sums_right" = some (.ref f)) (hb:Binds K fd ["row"] []) (T:Txt K mg) (d__law_all:DefN P w K mg base "_law_all" 1 2 gc) (d_part_table_n:DefN P w K mg base "part_table" 5 1 dC) (d_sign_table_n:DefN P w K mg base "sign_table" 5 1 dD):DefN P w K mg base "_law_sums_right" 6 1 bS:=
 aF ["row","signs","parts"] ["row"] 5 6 1 3 rfl rfl rfl F hm hb dF (m:=fT) fun cdv A outer s H E hr=>(aq (vZ (iG (aa (az d_sign_table_n (hr.mono (by decide)) (by unfold Gl; kernel_rfl) (aa (vL 0) ai) (ah ao)) (aa (az d_part_table_n (hr.mono (by decide)) (by unfold Gl; kernel_rfl) (aa (vL 0) ai) (ah ao)) ai))) (ki rfl (cT (aJ dF.nd (by kernel_rfl) (Or.inr (by kernel_rfl))) (cT (aJ dF.nd (by kernel_rfl) (Or.inr (by kernel_rfl))) i4)))) (aq (cw (iF (iE (ba (dX hr) (tq rfl (by unfold Gl; kernel_rfl) T.b_sum (vC 1)) (aI wb ar (aD eZ (by unfold Gl; kernel_rfl) T.b_len dk (aa (vL 0) ai)))) (gC (ba (dX hr) (pd (cB (N:=["one","signs"]) (k:=1) (caps:=[1]) rfl (fun _ _ z=>z) (fO (by kernel_rfl) (by kernel_rfl) (by kernel_rfl) (by kernel_rfl) rfl (by kernel_rfl)) (o9 (vC 1)) (fun _ _ _ _=>(aJ (show (["one","signs"]:List Str).Nodup by decide +kernel) (by kernel_rfl) (Or.inl (by kernel_rfl)))) (fun _ _ _ _=>(lx (ba (dX hr) (eD (wD hr) (vC 1) (vL 0)) (tu hr (vC 1) (aI fo ar (vL 0)) (zE (by kernel_rfl) (by kernel_rfl) (by kernel_rfl) (by kernel_rfl)))))) (fun _ _ _ _=>(vL 0)))) (gY ai))))) (ay (aC dY)) bz) (aq (cw (ba (dX hr) (pd (cB (N:=["one","parts"]) (k:=1) (caps:=[2]) rfl (fun _ _ z=>z) (fO (by kernel_rfl) (by kernel_rfl) (by kernel_rfl) (by kernel_rfl) rfl (by kernel_rfl)) (o9 (vC 2)) (fun _ _ _ _=>(aJ (show (["one","parts"]:List Str).Nodup by decide +kernel) (by kernel_rfl) (Or.inl (by kernel_rfl)))) (fun _ _ _ _=>(lx (ba (dX hr) (eD (wD hr) (vC 1) (vL 0)) (tu hr (vC 1) (aI fo ar (vL 0)) (zE (by kernel_rfl) (by kernel_rfl) (by kernel_rfl) (by kernel_rfl)))))) (fun _ _ _ _=>(vL 0)))) (gY ai)) (ay (aC dY)) bz) (aq (cw (ba (dX hr) (pd (cB (N:=["one","parts"]) (k:=1) (caps:=[2]) rfl (fun _ _ z=>z) (fO (by kernel_rfl) (by kernel_rfl) (by kernel_rfl) (by kernel_rfl) rfl (by kernel_rfl)) (o9 (vC 1)) (fun _ _ _ _=>(aJ (show (["one","parts"]:List Str).Nodup by decide +kernel) (by kernel_rfl) (Or.inl (by kernel_rfl)))) (fun _ _ _ _=>(lx (ba (kx hr) (vL 0) (vC 1)))) (fun _ _ _ _=>(vL 0)))) (gY ai)) (ay (aC dY)) bz) (ay (aC (cE (g8 hr) (tq rfl (by unfold Gl; kernel_rfl) T.b_sum (vC 2)) (aD eZ (by unfold Gl; kernel_rfl) T.b_len dk (aa (az d__law_all (hr.mono (by decide)) (by unfold Gl; kernel_rfl) (aa (aD eZ (by unfold Gl; kernel_rfl) T.b_len dk (aa (vL 0) ai)) (aa (iG (aa ar (aa ar (aa ar ai)))) ai)) (ah (ah ao))) ai)))))))))
theorem mN:FnScope ["script","k","box","row","lap"] ["script"] (defScope iT):=fsk
end
/-! what the top has written -/
theorem BQ {K:PySem.W.Frag}
  (gt:PySem.W.specialIn K (.builtin "object.__class__") "__get__" = some (some (.builtin "getset_descriptor.__get__")))
  (tk:PySem.W.takesIn K (.builtin "object.__class__")=some true):Cls K raisedX askedX isaX:=
 ⟨gt,tk,fun c hc=>by simp [raisedX] at hc,
  fun c hc k hk=>by simp [raisedX,askedX] at hc hk⟩
theorem us1 {p:List Value → Prop} (h:∀ a,p [a]) (us:List Value) (e:us.length=1):p us:=by
 rcases us with _ | ⟨a,_ | ⟨b,r⟩⟩
 · simp at e
 · exact h a
 · simp at e
theorem us2 {p:List Value → Prop} (h:∀ a b,p [a,b]) (us:List Value) (e:us.length=2):p us:=by
 rcases us with _ | ⟨a,_ | ⟨b,_ | ⟨c,r⟩⟩⟩
 · simp at e
 · simp at e
 · exact h a b
 · simp at e
theorem us3 {p:List Value → Prop} (h:∀ a b c,p [a,b,c]) (us:List Value) (e:us.length=3):p us:=by
 rcases us with _ | ⟨a,_ | ⟨b,_ | ⟨c,_ | ⟨d,r⟩⟩⟩⟩
 · simp at e
 · simp at e
 · simp at e
 · exact h a b c
 · simp at e
theorem us4 {p:List Value → Prop} (h:∀ a b c d,p [a,b,c,d]) (us:List Value) (e:us.length=4):p us:=by
 rcases us with _ | ⟨a,_ | ⟨b,_ | ⟨c,_ | ⟨d,_ | ⟨x,r⟩⟩⟩⟩⟩
 · simp at e
 · simp at e
 · simp at e
 · simp at e
 · exact h a b c d
 · simp at e
theorem all_mk {P:Program} {w:World} {K:PySem.W.Frag} {h:Heap} {mg:Str→Option Value} {fa:Addr} (X:K.In h) (G:h.Ns mainGlobals mg) (hfa:mg "law" = some (.ref fa))  {f0:Addr} {od0 an0:Option Addr} {sl0:Array (Option Value)} {oc0 kV0 dc0 pm0 cd0 ct0:Value} {f1:Addr} {od1 an1:Option Addr} {sl1:Array (Option Value)} {oc1 kV1 dc1 pm1 cd1 ct1:Value} {f2:Addr} {od2 an2:Option Addr} {sl2:Array (Option Value)} {oc2 kV2 dc2 pm2 cd2 ct2:Value} {f3:Addr} {od3 an3:Option Addr} {sl3:Array (Option Value)} {oc3 kV3 dc3 pm3 cd3 ct3:Value} {f4:Addr} {od4 an4:Option Addr} {sl4:Array (Option Value)} {oc4 kV4 dc4 pm4 cd4 ct4:Value} {f5:Addr} {od5 an5:Option Addr} {sl5:Array (Option Value)} {oc5 kV5 dc5 pm5 cd5 ct5:Value} {f6:Addr} {od6 an6:Option Addr} {sl6:Array (Option Value)} {oc6 kV6 dc6 pm6 cd6 ct6:Value} {f7:Addr} {od7 an7:Option Addr} {sl7:Array (Option Value)} {oc7 kV7 dc7 pm7 cd7 ct7:Value} {f8:Addr} {od8 an8:Option Addr} {sl8:Array (Option Value)} {oc8 kV8 dc8 pm8 cd8 ct8:Value} {f9:Addr} {od9 an9:Option Addr} {sl9:Array (Option Value)} {oc9 kV9 dc9 pm9 cd9 ct9:Value} {f10:Addr} {od10 an10:Option Addr} {sl10:Array (Option Value)} {oc10 kV10 dc10 pm10 cd10 ct10:Value} {f11:Addr} {od11 an11:Option Addr} {sl11:Array (Option Value)} {oc11 kV11 dc11 pm11 cd11 ct11:Value} {f12:Addr} {od12 an12:Option Addr} {sl12:Array (Option Value)} {oc12 kV12 dc12 pm12 cd12 ct12:Value} {f13:Addr} {od13 an13:Option Addr} {sl13:Array (Option Value)} {oc13 kV13 dc13 pm13 cd13 ct13:Value} {f14:Addr} {od14 an14:Option Addr} {sl14:Array (Option Value)} {oc14 kV14 dc14 pm14 cd14 ct14:Value} {f15:Addr} {od15 an15:Option Addr} {sl15:Array (Option Value)} {oc15 kV15 dc15 pm15 cd15 ct15:Value} {f16:Addr} {od16 an16:Option Addr} {sl16:Array (Option Value)} {oc16 kV16 dc16 pm16 cd16 ct16:Value} {f17:Addr} {od17 an17:Option Addr} {sl17:Array (Option Value)} {oc17 kV17 dc17 pm17 cd17 ct17:Value} {f18:Addr} {od18 an18:Option Addr} {sl18:Array (Option Value)} {oc18 kV18 dc18 pm18 cd18 ct18:Value} {f19:Addr} {od19 an19:Option Addr} {sl19:Array (Option Value)} {oc19 kV19 dc19 pm19 cd19 ct19:Value} {f20:Addr} {od20 an20:Option Addr} {sl20:Array (Option Value)} {oc20 kV20 dc20 pm20 cd20 ct20:Value} {f21:Addr} {od21 an21:Option Addr} {sl21:Array (Option Value)} {oc21 kV21 dc21 pm21 cd21 ct21:Value} {f22:Addr} {od22 an22:Option Addr} {sl22:Array (Option Value)} {oc22 kV22 dc22 pm22 cd22 ct22:Value} {f23:Addr} {od23 an23:Option Addr} {sl23:Array (Option Value)} {oc23 kV23 dc23 pm23 cd23 ct23:Value} {f24:Addr} {od24 an24:Option Addr} {sl24:Array (Option Value)} {oc24 kV24 dc24 pm24 cd24 ct24:Value} {f25:Addr} {od25 an25:Option Addr} {sl25:Array (Option Value)} {oc25 kV25 dc25 pm25 cd25 ct25:Value} {f26:Addr} {od26 an26:Option Addr} {sl26:Array (Option Value)} {oc26 kV26 dc26 pm26 cd26 ct26:Value} {f27:Addr} {od27 an27:Option Addr} {sl27:Array (Option Value)} {oc27 kV27 dc27 pm27 cd27 ct27:Value} {f28:Addr} {od28 an28:Option Addr} {sl28:Array (Option Value)} {oc28 kV28 dc28 pm28 cd28 ct28:Value} {f29:Addr} {od29 an29:Option Addr} {sl29:Array (Option Value)} {oc29 kV29 dc29 pm29 cd29 ct29:Value} {f30:Addr} {od30 an30:Option Addr} {sl30:Array (Option Value)} {oc30 kV30 dc30 pm30 cd30 ct30:Value} {f31:Addr} {od31 an31:Option Addr} {sl31:Array (Option Value)} {oc31 kV31 dc31 pm31 cd31 ct31:Value} {f32:Addr} {od32 an32:Option Addr} {sl32:Array (Option Value)} {oc32 kV32 dc32 pm32 cd32 ct32:Value} {f33:Addr} {od33 an33:Option Addr} {sl33:Array (Option Value)} {oc33 kV33 dc33 pm33 cd33 ct33:Value} {f34:Addr} {od34 an34:Option Addr} {sl34:Array (Option Value)} {oc34 kV34 dc34 pm34 cd34 ct34:Value} {f35:Addr} {od35 an35:Option Addr} {sl35:Array (Option Value)} {oc35 kV35 dc35 pm35 cd35 ct35:Value} {f36:Addr} {od36 an36:Option Addr} {sl36:Array (Option Value)} {oc36 kV36 dc36 pm36 cd36 ct36:Value} {f37:Addr} {od37 an37:Option Addr} {sl37:Array (Option Value)} {oc37 kV37 dc37 pm37 cd37 ct37:Value} {f38:Addr} {od38 an38:Option Addr} {sl38:Array (Option Value)} {oc38 kV38 dc38 pm38 cd38 ct38:Value} {f39:Addr} {od39 an39:Option Addr} {sl39:Array (Option Value)} {oc39 kV39 dc39 pm39 cd39 ct39:Value} {f40:Addr} {od40 an40:Option Addr} {sl40:Array (Option Value)} {oc40 kV40 dc40 pm40 cd40 ct40:Value} {f41:Addr} {od41 an41:Option Addr} {sl41:Array (Option Value)} {oc41 kV41 dc41 pm41 cd41 ct41:Value} {f42:Addr} {od42 an42:Option Addr} {sl42:Array (Option Value)} {oc42 kV42 dc42 pm42 cd42 ct42:Value} {f43:Addr} {od43 an43:Option Addr} {sl43:Array (Option Value)} {oc43 kV43 dc43 pm43 cd43 ct43:Value} {f44:Addr} {od44 an44:Option Addr} {sl44:Array (Option Value)} {oc44 kV44 dc44 pm44 cd44 ct44:Value} {t_LONGEST_ROW:Tok} {t_LONGEST_TABLED:Tok} {A_PARTS:Addr} {od_PARTS:Option Addr} {n_PARTS:Nat} {sl_PARTS:Array (Option Value)} {u0_PARTS:Tok} {u1_PARTS:Tok} {u2_PARTS:Tok} {A_SIGNS:Addr} {od_SIGNS:Option Addr} {n_SIGNS:Nat} {sl_SIGNS:Array (Option Value)} {u0_SIGNS:Tok} {u1_SIGNS:Tok}
  (a0:PySem.W.nsIn K mainGlobals "_law_cell" = some (some (.ref f0))) (l0:K.lookup f0=some ⟨oc0,od0,.func (PySem.W.fnOf "_law_cell" "_law_cell" (defArgs dI) (defBody dI) (defScope dI) .none kV0 dc0 pm0 an0 cd0 ct0),sl0⟩) (c0:PySem.W.codeIn K cd0 "_law_cell" = true) (k0:PySem.W.keepIn K (.ref f0)=true)
  (a1:PySem.W.nsIn K mainGlobals "_law_mix" = some (some (.ref f1))) (l1:K.lookup f1=some ⟨oc1,od1,.func (PySem.W.fnOf "_law_mix" "_law_mix" (defArgs eE) (defBody eE) (defScope eE) .none kV1 dc1 pm1 an1 cd1 ct1),sl1⟩) (c1:PySem.W.codeIn K cd1 "_law_mix" = true) (k1:PySem.W.keepIn K (.ref f1)=true)
  (a2:PySem.W.nsIn K mainGlobals "_law_box" = some (some (.ref f2))) (l2:K.lookup f2=some ⟨oc2,od2,.func (PySem.W.fnOf "_law_box" "_law_box" (defArgs eF) (defBody eF) (defScope eF) .none kV2 dc2 pm2 an2 cd2 ct2),sl2⟩) (c2:PySem.W.codeIn K cd2 "_law_box" = true) (k2:PySem.W.keepIn K (.ref f2)=true)
  (a3:PySem.W.nsIn K mainGlobals "_law_take" = some (some (.ref f3))) (l3:K.lookup f3=some ⟨oc3,od3,.func (PySem.W.fnOf "_law_take" "_law_take" (defArgs dJ) (defBody dJ) (defScope dJ) .none kV3 dc3 pm3 an3 cd3 ct3),sl3⟩) (c3:PySem.W.codeIn K cd3 "_law_take" = true) (k3:PySem.W.keepIn K (.ref f3)=true)
  (a4:PySem.W.nsIn K mainGlobals "_law_number" = some (some (.ref f4))) (l4:K.lookup f4=some ⟨oc4,od4,.func (PySem.W.fnOf "_law_number" "_law_number" (defArgs cH) (defBody cH) (defScope cH) .none kV4 dc4 pm4 an4 cd4 ct4),sl4⟩) (c4:PySem.W.codeIn K cd4 "_law_number" = true) (k4:PySem.W.keepIn K (.ref f4)=true)
  (a5:PySem.W.nsIn K mainGlobals "is_whole" = some (some (.ref f5))) (l5:K.lookup f5=some ⟨oc5,od5,.func (PySem.W.fnOf "is_whole" "is_whole" (defArgs eG) (defBody eG) (defScope eG) .none kV5 dc5 pm5 an5 cd5 ct5),sl5⟩) (c5:PySem.W.codeIn K cd5 "is_whole" = true) (k5:PySem.W.keepIn K (.ref f5)=true)
  (a6:PySem.W.nsIn K mainGlobals "are_whole" = some (some (.ref f6))) (l6:K.lookup f6=some ⟨oc6,od6,.func (PySem.W.fnOf "are_whole" "are_whole" (defArgs dM) (defBody dM) (defScope dM) .none kV6 dc6 pm6 an6 cd6 ct6),sl6⟩) (c6:PySem.W.codeIn K cd6 "are_whole" = true) (k6:PySem.W.keepIn K (.ref f6)=true)
  (a7:PySem.W.nsIn K mainGlobals "is_row" = some (some (.ref f7))) (l7:K.lookup f7=some ⟨oc7,od7,.func (PySem.W.fnOf "is_row" "is_row" (defArgs fW) (defBody fW) (defScope fW) .none kV7 dc7 pm7 an7 cd7 ct7),sl7⟩) (c7:PySem.W.codeIn K cd7 "is_row" = true) (k7:PySem.W.keepIn K (.ref f7)=true)
  (a8:PySem.W.nsIn K mainGlobals "need_row" = some (some (.ref f8))) (l8:K.lookup f8=some ⟨oc8,od8,.func (PySem.W.fnOf "need_row" "need_row" (defArgs cX) (defBody cX) (defScope cX) .none kV8 dc8 pm8 an8 cd8 ct8),sl8⟩) (c8:PySem.W.codeIn K cd8 "need_row" = true) (k8:PySem.W.keepIn K (.ref f8)=true)
  (a9:PySem.W.nsIn K mainGlobals "are_parts" = some (some (.ref f9))) (l9:K.lookup f9=some ⟨oc9,od9,.func (PySem.W.fnOf "are_parts" "are_parts" (defArgs cI) (defBody cI) (defScope cI) .none kV9 dc9 pm9 an9 cd9 ct9),sl9⟩) (c9:PySem.W.codeIn K cd9 "are_parts" = true) (k9:PySem.W.keepIn K (.ref f9)=true)
  (a10:PySem.W.nsIn K mainGlobals "are_so_many_signs" = some (some (.ref f10))) (l10:K.lookup f10=some ⟨oc10,od10,.func (PySem.W.fnOf "are_so_many_signs" "are_so_many_signs" (defArgs bh) (defBody bh) (defScope bh) .none kV10 dc10 pm10 an10 cd10 ct10),sl10⟩) (c10:PySem.W.codeIn K cd10 "are_so_many_signs" = true) (k10:PySem.W.keepIn K (.ref f10)=true)
  (a11:PySem.W.nsIn K mainGlobals "are_signs" = some (some (.ref f11))) (l11:K.lookup f11=some ⟨oc11,od11,.func (PySem.W.fnOf "are_signs" "are_signs" (defArgs cJ) (defBody cJ) (defScope cJ) .none kV11 dc11 pm11 an11 cd11 ct11),sl11⟩) (c11:PySem.W.codeIn K cd11 "are_signs" = true) (k11:PySem.W.keepIn K (.ref f11)=true)
  (a12:PySem.W.nsIn K mainGlobals "is_rising" = some (some (.ref f12))) (l12:K.lookup f12=some ⟨oc12,od12,.func (PySem.W.fnOf "is_rising" "is_rising" (defArgs dN) (defBody dN) (defScope dN) .none kV12 dc12 pm12 an12 cd12 ct12),sl12⟩) (c12:PySem.W.codeIn K cd12 "is_rising" = true) (k12:PySem.W.keepIn K (.ref f12)=true)
  (a13:PySem.W.nsIn K mainGlobals "leads_on" = some (some (.ref f13))) (l13:K.lookup f13=some ⟨oc13,od13,.func (PySem.W.fnOf "leads_on" "leads_on" (defArgs eJ) (defBody eJ) (defScope eJ) .none kV13 dc13 pm13 an13 cd13 ct13),sl13⟩) (c13:PySem.W.codeIn K cd13 "leads_on" = true) (k13:PySem.W.keepIn K (.ref f13)=true)
  (a14:PySem.W.nsIn K mainGlobals "are_layers" = some (some (.ref f14))) (l14:K.lookup f14=some ⟨oc14,od14,.func (PySem.W.fnOf "are_layers" "are_layers" (defArgs cZ) (defBody cZ) (defScope cZ) .none kV14 dc14 pm14 an14 cd14 ct14),sl14⟩) (c14:PySem.W.codeIn K cd14 "are_layers" = true) (k14:PySem.W.keepIn K (.ref f14)=true)
  (a15:PySem.W.nsIn K mainGlobals "need_few" = some (some (.ref f15))) (l15:K.lookup f15=some ⟨oc15,od15,.func (PySem.W.fnOf "need_few" "need_few" (defArgs de) (defBody de) (defScope de) .none kV15 dc15 pm15 an15 cd15 ct15),sl15⟩) (c15:PySem.W.codeIn K cd15 "need_few" = true) (k15:PySem.W.keepIn K (.ref f15)=true)
  (a16:PySem.W.nsIn K mainGlobals "need_number" = some (some (.ref f16))) (l16:K.lookup f16=some ⟨oc16,od16,.func (PySem.W.fnOf "need_number" "need_number" (defArgs bX) (defBody bX) (defScope bX) .none kV16 dc16 pm16 an16 cd16 ct16),sl16⟩) (c16:PySem.W.codeIn K cd16 "need_number" = true) (k16:PySem.W.keepIn K (.ref f16)=true)
  (a17:PySem.W.nsIn K mainGlobals "need_row_and_number" = some (some (.ref f17))) (l17:K.lookup f17=some ⟨oc17,od17,.func (PySem.W.fnOf "need_row_and_number" "need_row_and_number" (defArgs aT) (defBody aT) (defScope aT) .none kV17 dc17 pm17 an17 cd17 ct17),sl17⟩) (c17:PySem.W.codeIn K cd17 "need_row_and_number" = true) (k17:PySem.W.keepIn K (.ref f17)=true)
  (a18:PySem.W.nsIn K mainGlobals "need_few_and_number" = some (some (.ref f18))) (l18:K.lookup f18=some ⟨oc18,od18,.func (PySem.W.fnOf "need_few_and_number" "need_few_and_number" (defArgs aU) (defBody aU) (defScope aU) .none kV18 dc18 pm18 an18 cd18 ct18),sl18⟩) (c18:PySem.W.codeIn K cd18 "need_few_and_number" = true) (k18:PySem.W.keepIn K (.ref f18)=true)
  (a19:PySem.W.nsIn K mainGlobals "is_barred" = some (some (.ref f19))) (l19:K.lookup f19=some ⟨oc19,od19,.func (PySem.W.fnOf "is_barred" "is_barred" (defArgs cK) (defBody cK) (defScope cK) .none kV19 dc19 pm19 an19 cd19 ct19),sl19⟩) (c19:PySem.W.codeIn K cd19 "is_barred" = true) (k19:PySem.W.keepIn K (.ref f19)=true)
  (a20:PySem.W.nsIn K mainGlobals "is_rest" = some (some (.ref f20))) (l20:K.lookup f20=some ⟨oc20,od20,.func (PySem.W.fnOf "is_rest" "is_rest" (defArgs dO) (defBody dO) (defScope dO) .none kV20 dc20 pm20 an20 cd20 ct20),sl20⟩) (c20:PySem.W.codeIn K cd20 "is_rest" = true) (k20:PySem.W.keepIn K (.ref f20)=true)
  (a21:PySem.W.nsIn K mainGlobals "is_wide_barred" = some (some (.ref f21))) (l21:K.lookup f21=some ⟨oc21,od21,.func (PySem.W.fnOf "is_wide_barred" "is_wide_barred" (defArgs bC) (defBody bC) (defScope bC) .none kV21 dc21 pm21 an21 cd21 ct21),sl21⟩) (c21:PySem.W.codeIn K cd21 "is_wide_barred" = true) (k21:PySem.W.keepIn K (.ref f21)=true)
  (a22:PySem.W.nsIn K mainGlobals "stepped" = some (some (.ref f22))) (l22:K.lookup f22=some ⟨oc22,od22,.func (PySem.W.fnOf "stepped" "stepped" (defArgs fw) (defBody fw) (defScope fw) .none kV22 dc22 pm22 an22 cd22 ct22),sl22⟩) (c22:PySem.W.codeIn K cd22 "stepped" = true) (k22:PySem.W.keepIn K (.ref f22)=true)
  (a23:PySem.W.nsIn K mainGlobals "least_layers" = some (some (.ref f23))) (l23:K.lookup f23=some ⟨oc23,od23,.func (PySem.W.fnOf "least_layers" "least_layers" (defArgs ck) (defBody ck) (defScope ck) .none kV23 dc23 pm23 an23 cd23 ct23),sl23⟩) (c23:PySem.W.codeIn K cd23 "least_layers" = true) (k23:PySem.W.keepIn K (.ref f23)=true)
  (a24:PySem.W.nsIn K mainGlobals "least_without" = some (some (.ref f24))) (l24:K.lookup f24=some ⟨oc24,od24,.func (PySem.W.fnOf "least_without" "least_without" (defArgs bY) (defBody bY) (defScope bY) .none kV24 dc24 pm24 an24 cd24 ct24),sl24⟩) (c24:PySem.W.codeIn K cd24 "least_without" = true) (k24:PySem.W.keepIn K (.ref f24)=true)
  (a25:PySem.W.nsIn K mainGlobals "layers_for" = some (some (.ref f25))) (l25:K.lookup f25=some ⟨oc25,od25,.func (PySem.W.fnOf "layers_for" "layers_for" (defArgs cn) (defBody cn) (defScope cn) .none kV25 dc25 pm25 an25 cd25 ct25),sl25⟩) (c25:PySem.W.codeIn K cd25 "layers_for" = true) (k25:PySem.W.keepIn K (.ref f25)=true)
  (a26:PySem.W.nsIn K mainGlobals "table_of" = some (some (.ref f26))) (l26:K.lookup f26=some ⟨oc26,od26,.func (PySem.W.fnOf "table_of" "table_of" (defArgs eP) (defBody eP) (defScope eP) .none kV26 dc26 pm26 an26 cd26 ct26),sl26⟩) (c26:PySem.W.codeIn K cd26 "table_of" = true) (k26:PySem.W.keepIn K (.ref f26)=true)
  (a27:PySem.W.nsIn K mainGlobals "part_ways" = some (some (.ref f27))) (l27:K.lookup f27=some ⟨oc27,od27,.func (PySem.W.fnOf "part_ways" "part_ways" (defArgs cL) (defBody cL) (defScope cL) .none kV27 dc27 pm27 an27 cd27 ct27),sl27⟩) (c27:PySem.W.codeIn K cd27 "part_ways" = true) (k27:PySem.W.keepIn K (.ref f27)=true)
  (a28:PySem.W.nsIn K mainGlobals "tables_from_behind" = some (some (.ref f28))) (l28:K.lookup f28=some ⟨oc28,od28,.func (PySem.W.fnOf "tables_from_behind" "tables_from_behind" (defArgs aZ) (defBody aZ) (defScope aZ) .none kV28 dc28 pm28 an28 cd28 ct28),sl28⟩) (c28:PySem.W.codeIn K cd28 "tables_from_behind" = true) (k28:PySem.W.keepIn K (.ref f28)=true)
  (a29:PySem.W.nsIn K mainGlobals "first_to" = some (some (.ref f29))) (l29:K.lookup f29=some ⟨oc29,od29,.func (PySem.W.fnOf "first_to" "first_to" (defArgs eQ) (defBody eQ) (defScope eQ) .none kV29 dc29 pm29 an29 cd29 ct29),sl29⟩) (c29:PySem.W.codeIn K cd29 "first_to" = true) (k29:PySem.W.keepIn K (.ref f29)=true)
  (a30:PySem.W.nsIn K mainGlobals "parts_to" = some (some (.ref f30))) (l30:K.lookup f30=some ⟨oc30,od30,.func (PySem.W.fnOf "parts_to" "parts_to" (defArgs df) (defBody df) (defScope df) .none kV30 dc30 pm30 an30 cd30 ct30),sl30⟩) (c30:PySem.W.codeIn K cd30 "parts_to" = true) (k30:PySem.W.keepIn K (.ref f30)=true)
  (a31:PySem.W.nsIn K mainGlobals "common_divisor" = some (some (.ref f31))) (l31:K.lookup f31=some ⟨oc31,od31,.func (PySem.W.fnOf "common_divisor" "common_divisor" (defArgs bM) (defBody bM) (defScope bM) .none kV31 dc31 pm31 an31 cd31 ct31),sl31⟩) (c31:PySem.W.codeIn K cd31 "common_divisor" = true) (k31:PySem.W.keepIn K (.ref f31)=true)
  (a32:PySem.W.nsIn K mainGlobals "rest_for" = some (some (.ref f32))) (l32:K.lookup f32=some ⟨oc32,od32,.func (PySem.W.fnOf "rest_for" "rest_for" (defArgs dg) (defBody dg) (defScope dg) .none kV32 dc32 pm32 an32 cd32 ct32),sl32⟩) (c32:PySem.W.codeIn K cd32 "rest_for" = true) (k32:PySem.W.keepIn K (.ref f32)=true)
  (a33:PySem.W.nsIn K mainGlobals "sign_ways" = some (some (.ref f33))) (l33:K.lookup f33=some ⟨oc33,od33,.func (PySem.W.fnOf "sign_ways" "sign_ways" (defArgs cM) (defBody cM) (defScope cM) .none kV33 dc33 pm33 an33 cd33 ct33),sl33⟩) (c33:PySem.W.codeIn K cd33 "sign_ways" = true) (k33:PySem.W.keepIn K (.ref f33)=true)
  (a34:PySem.W.nsIn K mainGlobals "signs_to" = some (some (.ref f34))) (l34:K.lookup f34=some ⟨oc34,od34,.func (PySem.W.fnOf "signs_to" "signs_to" (defArgs dh) (defBody dh) (defScope dh) .none kV34 dc34 pm34 an34 cd34 ct34),sl34⟩) (c34:PySem.W.codeIn K cd34 "signs_to" = true) (k34:PySem.W.keepIn K (.ref f34)=true)
  (a35:PySem.W.nsIn K mainGlobals "wide_layers_for" = some (some (.ref f35))) (l35:K.lookup f35=some ⟨oc35,od35,.func (PySem.W.fnOf "wide_layers_for" "wide_layers_for" (defArgs bp) (defBody bp) (defScope bp) .none kV35 dc35 pm35 an35 cd35 ct35),sl35⟩) (c35:PySem.W.codeIn K cd35 "wide_layers_for" = true) (k35:PySem.W.keepIn K (.ref f35)=true)
  (a36:PySem.W.nsIn K mainGlobals "need_parts" = some (some (.ref f36))) (l36:K.lookup f36=some ⟨oc36,od36,.func (PySem.W.fnOf "need_parts" "need_parts" (defArgs cp) (defBody cp) (defScope cp) .none kV36 dc36 pm36 an36 cd36 ct36),sl36⟩) (c36:PySem.W.codeIn K cd36 "need_parts" = true) (k36:PySem.W.keepIn K (.ref f36)=true)
  (a37:PySem.W.nsIn K mainGlobals "worth" = some (some (.ref f37))) (l37:K.lookup f37=some ⟨oc37,od37,.func (PySem.W.fnOf "worth" "worth" (defArgs fA) (defBody fA) (defScope fA) .none kV37 dc37 pm37 an37 cd37 ct37),sl37⟩) (c37:PySem.W.codeIn K cd37 "worth" = true) (k37:PySem.W.keepIn K (.ref f37)=true)
  (a38:PySem.W.nsIn K mainGlobals "_law_one_right" = some (some (.ref f38))) (l38:K.lookup f38=some ⟨oc38,od38,.func (PySem.W.fnOf "_law_one_right" "_law_one_right" (defArgs bD) (defBody bD) (defScope bD) .none kV38 dc38 pm38 an38 cd38 ct38),sl38⟩) (c38:PySem.W.codeIn K cd38 "_law_one_right" = true) (k38:PySem.W.keepIn K (.ref f38)=true)
  (a39:PySem.W.nsIn K mainGlobals "_law_row" = some (some (.ref f39))) (l39:K.lookup f39=some ⟨oc39,od39,.func (PySem.W.fnOf "_law_row" "_law_row" (defArgs eS) (defBody eS) (defScope eS) .none kV39 dc39 pm39 an39 cd39 ct39),sl39⟩) (c39:PySem.W.codeIn K cd39 "_law_row" = true) (k39:PySem.W.keepIn K (.ref f39)=true)
  (a40:PySem.W.nsIn K mainGlobals "_law_all" = some (some (.ref f40))) (l40:K.lookup f40=some ⟨oc40,od40,.func (PySem.W.fnOf "_law_all" "_law_all" (defArgs eT) (defBody eT) (defScope eT) .none kV40 dc40 pm40 an40 cd40 ct40),sl40⟩) (c40:PySem.W.codeIn K cd40 "_law_all" = true) (k40:PySem.W.keepIn K (.ref f40)=true)
  (a41:PySem.W.nsIn K mainGlobals "part_table" = some (some (.ref f41))) (l41:K.lookup f41=some ⟨oc41,od41,.func (PySem.W.fnOf "part_table" "part_table" (defArgs cq) (defBody cq) (defScope cq) .none kV41 dc41 pm41 an41 cd41 ct41),sl41⟩) (c41:PySem.W.codeIn K cd41 "part_table" = true) (k41:PySem.W.keepIn K (.ref f41)=true)
  (a42:PySem.W.nsIn K mainGlobals "sign_table" = some (some (.ref f42))) (l42:K.lookup f42=some ⟨oc42,od42,.func (PySem.W.fnOf "sign_table" "sign_table" (defArgs cu) (defBody cu) (defScope cu) .none kV42 dc42 pm42 an42 cd42 ct42),sl42⟩) (c42:PySem.W.codeIn K cd42 "sign_table" = true) (k42:PySem.W.keepIn K (.ref f42)=true)
  (a43:PySem.W.nsIn K mainGlobals "_law_sums_right" = some (some (.ref f43))) (l43:K.lookup f43=some ⟨oc43,od43,.func (PySem.W.fnOf "_law_sums_right" "_law_sums_right" (defArgs bq) (defBody bq) (defScope bq) .none kV43 dc43 pm43 an43 cd43 ct43),sl43⟩) (c43:PySem.W.codeIn K cd43 "_law_sums_right" = true) (k43:PySem.W.keepIn K (.ref f43)=true)
  (a44:PySem.W.nsIn K mainGlobals "law" = some (some (.ref f44))) (l44:K.lookup f44=some ⟨oc44,od44,.func (PySem.W.fnOf "law" "law" (defArgs iT) (defBody iT) (defScope iT) .none kV44 dc44 pm44 an44 cd44 ct44),sl44⟩) (c44:PySem.W.codeIn K cd44 "law" = true) (k44:PySem.W.keepIn K (.ref f44)=true)
  (z_abs:PySem.W.nsIn K mainGlobals "abs" = some none)
  (z_all:PySem.W.nsIn K mainGlobals "all" = some none)
  (z_bool:PySem.W.nsIn K mainGlobals "bool" = some none)
  (z_dict:PySem.W.nsIn K mainGlobals "dict" = some none)
  (z_divmod:PySem.W.nsIn K mainGlobals "divmod" = some none)
  (z_enumerate:PySem.W.nsIn K mainGlobals "enumerate" = some none)
  (z_int:PySem.W.nsIn K mainGlobals "int" = some none)
  (z_isinstance:PySem.W.nsIn K mainGlobals "isinstance" = some none)
  (z_len:PySem.W.nsIn K mainGlobals "len" = some none)
  (z_list:PySem.W.nsIn K mainGlobals "list" = some none)
  (z_max:PySem.W.nsIn K mainGlobals "max" = some none)
  (z_min:PySem.W.nsIn K mainGlobals "min" = some none)
  (z_range:PySem.W.nsIn K mainGlobals "range" = some none)
  (z_reversed:PySem.W.nsIn K mainGlobals "reversed" = some none)
  (z_sorted:PySem.W.nsIn K mainGlobals "sorted" = some none)
  (z_sum:PySem.W.nsIn K mainGlobals "sum" = some none)
  (z_tuple:PySem.W.nsIn K mainGlobals "tuple" = some none)
  (z_zip:PySem.W.nsIn K mainGlobals "zip" = some none)
  (z_LONGEST_ROW:PySem.W.nsIn K mainGlobals "LONGEST_ROW" = some (some (.int 16 t_LONGEST_ROW)))
  (z_LONGEST_TABLED:PySem.W.nsIn K mainGlobals "LONGEST_TABLED" = some (some (.int 10 t_LONGEST_TABLED)))
  (zt_PARTS:PySem.W.nsIn K mainGlobals "PARTS" = some (some (.ref A_PARTS))) (yt_PARTS:K.lookup A_PARTS=some ⟨.type "tuple",od_PARTS,.seq #[.int (-1) u0_PARTS,.int (0) u1_PARTS,.int (1) u2_PARTS] n_PARTS,sl_PARTS⟩)
  (zt_SIGNS:PySem.W.nsIn K mainGlobals "SIGNS" = some (some (.ref A_SIGNS))) (yt_SIGNS:K.lookup A_SIGNS=some ⟨.type "tuple",od_SIGNS,.seq #[.int (-1) u0_SIGNS,.int (1) u1_SIGNS] n_SIGNS,sl_SIGNS⟩)
  (gt:PySem.W.specialIn K (.builtin "object.__class__") "__get__" = some (some (.builtin "getset_descriptor.__get__")))
  (tk:PySem.W.takesIn K (.builtin "object.__class__")=some true):
  ∃ fd:FuncData,(∀ (s:Shared) (v:Value),BindsTo s fd ⟨[v],[]⟩ [("script",v)])∧∀ base:Heap,K.In base→base.Ns mainGlobals mg→FnOk P w K mg base (CX1 P w) 8 fa fd ["script"] (spN K 1 tw):=by
 have e:=hfa.symm.trans (PySem.W.mg_of X G a44)
 cases e
 have T:Txt K mg:=⟨BQ gt tk,PySem.W.mg_none_of X G z_abs,PySem.W.mg_none_of X G z_all,PySem.W.mg_none_of X G z_bool,PySem.W.mg_none_of X G z_dict,PySem.W.mg_none_of X G z_divmod,PySem.W.mg_none_of X G z_enumerate,PySem.W.mg_none_of X G z_int,PySem.W.mg_none_of X G z_isinstance,PySem.W.mg_none_of X G z_len,PySem.W.mg_none_of X G z_list,PySem.W.mg_none_of X G z_max,PySem.W.mg_none_of X G z_min,PySem.W.mg_none_of X G z_range,PySem.W.mg_none_of X G z_reversed,PySem.W.mg_none_of X G z_sorted,PySem.W.mg_none_of X G z_sum,PySem.W.mg_none_of X G z_tuple,PySem.W.mg_none_of X G z_zip,⟨_,PySem.W.mg_of X G z_LONGEST_ROW⟩,⟨_,PySem.W.mg_of X G z_LONGEST_TABLED⟩,yB X G zt_PARTS yt_PARTS,yA X G zt_SIGNS yt_SIGNS⟩
 have F0:=aM (st:=dI) l0 c0 k0
 have b0:=F0.binds (ps:=["script","k"]) fun _ _ _ _ _ _=>us2 fun _ _=>rfl
 have F1:=aM (st:=eE) l1 c1 k1
 have b1:=F1.binds (ps:=["cell","k"]) fun _ _ _ _ _ _=>us2 fun _ _=>rfl
 have F2:=aM (st:=eF) l2 c2 k2
 have b2:=F2.binds (ps:=["script","k"]) fun _ _ _ _ _ _=>us2 fun _ _=>rfl
 have F3:=aM (st:=dJ) l3 c3 k3
 have b3:=F3.binds (ps:=["box","many"]) fun _ _ _ _ _ _=>us2 fun _ _=>rfl
 have F4:=aM (st:=cH) l4 c4 k4
 have b4:=F4.binds (ps:=["box","row"]) fun _ _ _ _ _ _=>us2 fun _ _=>rfl
 have F5:=aM (st:=eG) l5 c5 k5
 have b5:=F5.binds (ps:=["thing"]) fun _ _ _ _ _ _=>us1 fun _=>rfl
 have F6:=aM (st:=dM) l6 c6 k6
 have b6:=F6.binds (ps:=["thing","many"]) fun _ _ _ _ _ _=>us2 fun _ _=>rfl
 have F7:=aM (st:=fW) l7 c7 k7
 have b7:=F7.binds (ps:=["thing"]) fun _ _ _ _ _ _=>us1 fun _=>rfl
 have F8:=aM (st:=cX) l8 c8 k8
 have b8:=F8.binds (ps:=["thing"]) fun _ _ _ _ _ _=>us1 fun _=>rfl
 have F9:=aM (st:=cI) l9 c9 k9
 have b9:=F9.binds (ps:=["thing","row"]) fun _ _ _ _ _ _=>us2 fun _ _=>rfl
 have F10:=aM (st:=bh) l10 c10 k10
 have b10:=F10.binds (ps:=["thing","many"]) fun _ _ _ _ _ _=>us2 fun _ _=>rfl
 have F11:=aM (st:=cJ) l11 c11 k11
 have b11:=F11.binds (ps:=["thing","row"]) fun _ _ _ _ _ _=>us2 fun _ _=>rfl
 have F12:=aM (st:=dN) l12 c12 k12
 have b12:=F12.binds (ps:=["thing"]) fun _ _ _ _ _ _=>us1 fun _=>rfl
 have F13:=aM (st:=eJ) l13 c13 k13
 have b13:=F13.binds (ps:=["layer","following","step","choices"]) fun _ _ _ _ _ _=>us4 fun _ _ _ _=>rfl
 have F14:=aM (st:=cZ) l14 c14 k14
 have b14:=F14.binds (ps:=["thing","row","choices"]) fun _ _ _ _ _ _=>us3 fun _ _ _=>rfl
 have F15:=aM (st:=de) l15 c15 k15
 have b15:=F15.binds (ps:=["row"]) fun _ _ _ _ _ _=>us1 fun _=>rfl
 have F16:=aM (st:=bX) l16 c16 k16
 have b16:=F16.binds (ps:=["thing"]) fun _ _ _ _ _ _=>us1 fun _=>rfl
 have F17:=aM (st:=aT) l17 c17 k17
 have b17:=F17.binds (ps:=["row","number"]) fun _ _ _ _ _ _=>us2 fun _ _=>rfl
 have F18:=aM (st:=aU) l18 c18 k18
 have b18:=F18.binds (ps:=["row","number"]) fun _ _ _ _ _ _=>us2 fun _ _=>rfl
 have F19:=aM (st:=cK) l19 c19 k19
 have b19:=F19.binds (ps:=["thing","row","number"]) fun _ _ _ _ _ _=>us3 fun _ _ _=>rfl
 have F20:=aM (st:=dO) l20 c20 k20
 have b20:=F20.binds (ps:=["thing","row","number"]) fun _ _ _ _ _ _=>us3 fun _ _ _=>rfl
 have F21:=aM (st:=bC) l21 c21 k21
 have b21:=F21.binds (ps:=["thing","row","number"]) fun _ _ _ _ _ _=>us3 fun _ _ _=>rfl
 have F22:=aM (st:=fw) l22 c22 k22
 have b22:=F22.binds (ps:=["table","step","choices"]) fun _ _ _ _ _ _=>us3 fun _ _ _=>rfl
 have F23:=aM (st:=ck) l23 c23 k23
 have b23:=F23.binds (ps:=["row","choices"]) fun _ _ _ _ _ _=>us2 fun _ _=>rfl
 have F24:=aM (st:=bY) l24 c24 k24
 have b24:=F24.binds (ps:=["number","row","choices"]) fun _ _ _ _ _ _=>us3 fun _ _ _=>rfl
 have F25:=aM (st:=cn) l25 c25 k25
 have b25:=F25.binds (ps:=["row","number"]) fun _ _ _ _ _ _=>us2 fun _ _=>rfl
 have F26:=aM (st:=eP) l26 c26 k26
 have b26:=F26.binds (ps:=["row","choices"]) fun _ _ _ _ _ _=>us2 fun _ _=>rfl
 have F27:=aM (st:=cL) l27 c27 k27
 have b27:=F27.binds (ps:=["row","number"]) fun _ _ _ _ _ _=>us2 fun _ _=>rfl
 have F28:=aM (st:=aZ) l28 c28 k28
 have b28:=F28.binds (ps:=["row","choices"]) fun _ _ _ _ _ _=>us2 fun _ _=>rfl
 have F29:=aM (st:=eQ) l29 c29 k29
 have b29:=F29.binds (ps:=["row","number","choices"]) fun _ _ _ _ _ _=>us3 fun _ _ _=>rfl
 have F30:=aM (st:=df) l30 c30 k30
 have b30:=F30.binds (ps:=["row","number"]) fun _ _ _ _ _ _=>us2 fun _ _=>rfl
 have F31:=aM (st:=bM) l31 c31 k31
 have b31:=F31.binds (ps:=["row"]) fun _ _ _ _ _ _=>us1 fun _=>rfl
 have F32:=aM (st:=dg) l32 c32 k32
 have b32:=F32.binds (ps:=["row","number"]) fun _ _ _ _ _ _=>us2 fun _ _=>rfl
 have F33:=aM (st:=cM) l33 c33 k33
 have b33:=F33.binds (ps:=["row","number"]) fun _ _ _ _ _ _=>us2 fun _ _=>rfl
 have F34:=aM (st:=dh) l34 c34 k34
 have b34:=F34.binds (ps:=["row","number"]) fun _ _ _ _ _ _=>us2 fun _ _=>rfl
 have F35:=aM (st:=bp) l35 c35 k35
 have b35:=F35.binds (ps:=["row","number"]) fun _ _ _ _ _ _=>us2 fun _ _=>rfl
 have F36:=aM (st:=cp) l36 c36 k36
 have b36:=F36.binds (ps:=["row","thing"]) fun _ _ _ _ _ _=>us2 fun _ _=>rfl
 have F37:=aM (st:=fA) l37 c37 k37
 have b37:=F37.binds (ps:=["row","parts"]) fun _ _ _ _ _ _=>us2 fun _ _=>rfl
 have F38:=aM (st:=bD) l38 c38 k38
 have b38:=F38.binds (ps:=["row","number"]) fun _ _ _ _ _ _=>us2 fun _ _=>rfl
 have F39:=aM (st:=eS) l39 c39 k39
 have b39:=F39.binds (ps:=["box","most"]) fun _ _ _ _ _ _=>us2 fun _ _=>rfl
 have F40:=aM (st:=eT) l40 c40 k40
 have b40:=F40.binds (ps:=["many","kinds"]) fun _ _ _ _ _ _=>us2 fun _ _=>rfl
 have F41:=aM (st:=cq) l41 c41 k41
 have b41:=F41.binds (ps:=["row"]) fun _ _ _ _ _ _=>us1 fun _=>rfl
 have F42:=aM (st:=cu) l42 c42 k42
 have b42:=F42.binds (ps:=["row"]) fun _ _ _ _ _ _=>us1 fun _=>rfl
 have F43:=aM (st:=bq) l43 c43 k43
 have b43:=F43.binds (ps:=["row"]) fun _ _ _ _ _ _=>us1 fun _=>rfl
 have F44:=aM (st:=iT) l44 c44 k44
 have b44:=F44.binds (ps:=["script"]) fun _ _ _ _ _ _=>us1 fun _=>rfl
 refine ⟨PySem.W.fnOf "law" "law" (defArgs iT) (defBody iT) (defScope iT) .none kV44 dc44 pm44 an44 cd44 ct44,fun s v=>.of_eq rfl,fun base _ _=>?_⟩
 have d__law_cell:DefN P w K mg base "_law_cell" 1 2 dv:=pE F0 (PySem.W.mg_of X G a0) b0 T
 have d__law_mix:DefN P w K mg base "_law_mix" 1 2 ez:=rn F1 (PySem.W.mg_of X G a1) b1 T
 have d__law_box:DefN P w K mg base "_law_box" 2 2 eA:=rp F2 (PySem.W.mg_of X G a2) b2 T d__law_cell d__law_mix
 have d__law_take:DefN P w K mg base "_law_take" 1 2 aK:=pF F3 (PySem.W.mg_of X G a3) b3 T
 have d__law_number:DefN P w K mg base "_law_number" 2 2 cW:=mC F4 (PySem.W.mg_of X G a4) b4 T d__law_take
 have d_is_whole:DefN P w K mg base "is_whole" 1 1 aW:=rA F5 (PySem.W.mg_of X G a5) b5 T
 have d_are_whole:DefN P w K mg base "are_whole" 2 2 dw:=pH F6 (PySem.W.mg_of X G a6) b6 T d_is_whole
 have d_is_row:DefN P w K mg base "is_row" 2 1 fF:=vq F7 (PySem.W.mg_of X G a7) b7 T d_is_whole
 have d_need_row_n:DefN P w K mg base "need_row" 3 1 bf:=mX F8 (PySem.W.mg_of X G a8) b8 T d_is_row
 have d_are_parts_n:DefN P w K mg base "are_parts" 4 2 bV:=mE F9 (PySem.W.mg_of X G a9) b9 T d_are_whole d_need_row_n
 have d_are_so_many_signs:DefN P w K mg base "are_so_many_signs" 3 2 bQ:=iW F10 (PySem.W.mg_of X G a10) b10 T d_are_whole
 have d_are_signs_n:DefN P w K mg base "are_signs" 4 2 cY:=mG F11 (PySem.W.mg_of X G a11) b11 T d_are_so_many_signs d_need_row_n
 have d_is_rising:DefN P w K mg base "is_rising" 2 1 eI:=pJ F12 (PySem.W.mg_of X G a12) b12 T d_is_whole
 have d_leads_on:DefN P w K mg base "leads_on" 1 4 fu:=rB F13 (PySem.W.mg_of X G a13) b13 T
 have d_are_layers:DefN P w K mg base "are_layers" 3 3 cx:=mZ F14 (PySem.W.mg_of X G a14) b14 T d_is_rising d_leads_on
 have d_need_few_n:DefN P w K mg base "need_few" 4 1 bT:=m7 F15 (PySem.W.mg_of X G a15) b15 T d_need_row_n
 have d_need_number_n:DefN P w K mg base "need_number" 2 1 cg:=kE F16 (PySem.W.mg_of X G a16) b16 T d_is_whole
 have d_need_row_and_number_n:DefN P w K mg base "need_row_and_number" 4 2 bj:=gF F17 (PySem.W.mg_of X G a17) b17 T d_need_number_n d_need_row_n
 have d_need_few_and_number_n:DefN P w K mg base "need_few_and_number" 5 2 aj:=gH F18 (PySem.W.mg_of X G a18) b18 T d_need_few_n d_need_row_and_number_n
 have d_is_barred_n:DefN P w K mg base "is_barred" 6 3 bK:=mI F19 (PySem.W.mg_of X G a19) b19 T d_are_layers d_need_few_and_number_n
 have d_is_rest_n:DefN P w K mg base "is_rest" 6 3 eO:=pK F20 (PySem.W.mg_of X G a20) b20 T d_is_whole d_need_few_and_number_n
 have d_is_wide_barred_n:DefN P w K mg base "is_wide_barred" 6 3 bH:=jc F21 (PySem.W.mg_of X G a21) b21 T d_are_layers d_need_few_and_number_n
 have d_stepped:DefN P w K mg base "stepped" 1 3 cj:=sC F22 (PySem.W.mg_of X G a22) b22 T
 have d_least_layers:DefN P w K mg base "least_layers" 2 2 dy:=kX F23 (PySem.W.mg_of X G a23) b23 T d_stepped
 have d_least_without:DefN P w K mg base "least_without" 3 3 aY:=kF F24 (PySem.W.mg_of X G a24) b24 T d_least_layers
 have d_layers_for_n:DefN P w K mg base "layers_for" 6 2 dz:=kZ F25 (PySem.W.mg_of X G a25) b25 T d_least_without d_need_few_and_number_n
 have d_table_of:DefN P w K mg base "table_of" 2 2 bN:=rC F26 (PySem.W.mg_of X G a26) b26 T d_stepped
 have d_part_ways_n:DefN P w K mg base "part_ways" 6 2 dZ:=mK F27 (PySem.W.mg_of X G a27) b27 T d_need_few_and_number_n d_table_of
 have d_tables_from_behind:DefN P w K mg base "tables_from_behind" 2 2 bo:=iA F28 (PySem.W.mg_of X G a28) b28 T d_stepped
 have d_first_to:DefN P w K mg base "first_to" 3 3 dA:=rD F29 (PySem.W.mg_of X G a29) b29 T d_tables_from_behind
 have d_parts_to_n:DefN P w K mg base "parts_to" 6 2 ff:=m9 F30 (PySem.W.mg_of X G a30) b30 T d_first_to d_need_few_and_number_n
 have d_common_divisor:DefN P w K mg base "common_divisor" 1 1 bZ:=kc F31 (PySem.W.mg_of X G a31) b31 T
 have d_rest_for_n:DefN P w K mg base "rest_for" 6 2 fg:=nc F32 (PySem.W.mg_of X G a32) b32 T d_common_divisor d_need_few_and_number_n
 have d_sign_ways_n:DefN P w K mg base "sign_ways" 6 2 d7:=mM F33 (PySem.W.mg_of X G a33) b33 T d_need_few_and_number_n d_table_of
 have d_signs_to_n:DefN P w K mg base "signs_to" 6 2 fh:=nh F34 (PySem.W.mg_of X G a34) b34 T d_first_to d_need_few_and_number_n
 have d_wide_layers_for_n:DefN P w K mg base "wide_layers_for" 6 2 bR:=iY F35 (PySem.W.mg_of X G a35) b35 T d_least_without d_need_few_and_number_n
 have d_need_parts_n:DefN P w K mg base "need_parts" 5 2 dB:=lh F36 (PySem.W.mg_of X G a36) b36 T d_are_parts_n
 have d_worth_n:DefN P w K mg base "worth" 6 2 eR:=sE F37 (PySem.W.mg_of X G a37) b37 T d_need_parts_n
 have d__law_one_right_n:DefN P w K mg base "_law_one_right" 7 2 bI:=jd F38 (PySem.W.mg_of X G a38) b38 T d_are_parts_n d_are_signs_n d_is_barred_n d_is_rest_n d_is_wide_barred_n d_layers_for_n d_part_ways_n d_parts_to_n d_rest_for_n d_sign_ways_n d_signs_to_n d_wide_layers_for_n d_worth_n
 have d__law_row:DefN P w K mg base "_law_row" 2 2 fB:=rE F39 (PySem.W.mg_of X G a39) b39 T d__law_take
 have d__law_all:DefN P w K mg base "_law_all" 1 2 gc:=rF F40 (PySem.W.mg_of X G a40) b40 T
 have d_part_table_n:DefN P w K mg base "part_table" 5 1 dC:=ll F41 (PySem.W.mg_of X G a41) b41 T d_need_few_n d_table_of
 have d_sign_table_n:DefN P w K mg base "sign_table" 5 1 dD:=lq F42 (PySem.W.mg_of X G a42) b42 T d_need_few_n d_table_of
 have d__law_sums_right_n:DefN P w K mg base "_law_sums_right" 6 1 bS:=iZ F43 (PySem.W.mg_of X G a43) b43 T d__law_all d_part_table_n d_sign_table_n
 exact yp ["script","k","box","row","lap"] ["script"] 7 8 1 5 rfl rfl rfl (m:=zF) F44 mN fun cdv A outer s H E hr=>(aq (eh PassesOwn.never rfl (gK (by unfold Gl; kernel_rfl) T.b_range (aa (aD (AU rfl) (by unfold Gl; kernel_rfl) T.b_max zk (aa ar (aa (aD (wk rfl) (by unfold Gl; kernel_rfl) T.b_min ud (aa (aD eZ (by unfold Gl; kernel_rfl) T.b_len dk (aa (vL 0) ai)) (aa ar ai))) ai))) ai)) (aJ mN.nd (by kernel_rfl) (Or.inl (by kernel_rfl))) (aq (aN mN.nd (by kernel_rfl) (Or.inl (by kernel_rfl)) (az d__law_box (hr.mono (by decide)) (by unfold Gl; kernel_rfl) (aa (vL 0) (aa (vL 1) ai)) (ah (ah ao)))) (aq (aN mN.nd (by kernel_rfl) (Or.inl (by kernel_rfl)) (az d__law_row (hr.mono (by decide)) (by unfold Gl; kernel_rfl) (aa (vL 2) (aa ar ai)) (ah (ah ao)))) (aq (cw (dU (dS (az d__law_sums_right_n (hr.mono (by decide)) (by unfold Gl; kernel_rfl) (aa (vL 3) ai) (ah ao)))) (ay (aC dY)) bz) (ay (eh PassesOwn.never rfl (gK (by unfold Gl; kernel_rfl) T.b_range (aa ar ai)) (aJ mN.nd (by kernel_rfl) (Or.inl (by kernel_rfl))) (ay (cw (dU (dS (az d__law_one_right_n (hr.mono (by decide)) (by unfold Gl; kernel_rfl) (aa (vL 3) (aa (az d__law_number (hr.mono (by decide)) (by unfold Gl; kernel_rfl) (aa (vL 2) (aa (vL 3) ai)) (ah (ah ao))) ai)) (ah (ah ao))))) (ay (aC dY)) bz)))))))) (ay (aC dY)))
theorem walk {l:PySem.W.OpenLaw} {q:Program} {loose:List Str} {XP:(Str→Option Value)→Heap→Prop} {YP:World→Heap→Prop} {d:DefRec} {K:Params→PySem.W.Frag} (hn:l.most=some 63) (hdf:d.params.defaults=[])
  (hY:∀ (w:World) (h:Heap),YP w h→(K w.params).In h)
  (F:∀ (w:World) (mg:Str→Option Value) (fa:Addr) (h:Heap),(K w.params).In h→h.Ns mainGlobals mg→mg d.name=some (.ref fa)→
   ∃ fd:FuncData,(∀ (s:Shared) (u:Value),BindsTo s fd ⟨[u],[]⟩ [("script",u)])∧∀ base:Heap,(K w.params).In base→base.Ns mainGlobals mg→FnOk l.prog w (K w.params) mg base (CX1 l.prog w) 8 fa fd ["script"] (spN (K w.params) 1 tw)):
  PySem.W.WalkO q loose XP YP l.row.toRowW d [] (fun f vs=>PySem.call f vs):=
 L2.ye (n:=63) (k:=8) (x:="script") (CX:=fun w=>CX1 l.prog w) (sp:=fun w=>spN (K w.params) 1 tw) hn (by decide) hdf ⟨rfl,by decide,by decide,rfl⟩ hY F (fun w H a ns hl ho hS=>yq xx (K w.params) H a ns hl ho hS) fun _ _ _ _ _ z=>A1 z
end Lw
open PySem PySem.W PyProof.Rows
set_option maxRecDepth 100000 in
set_option maxHeartbeats 0 in
theorem PySem.Challenge.cw_plusless_k13_whole_tables_and_papers_holds : PySem.Challenge.rw_plusless_k13_whole_tables_and_papers.Holds := by
  w_on; o_law
  refine holds_open (q := Lw.hV) (loose := []) (Xt := Lw.hX) (XP := XL Lw.hV []) (Yf := Hook.obs (kHook Lw.hK Lw.hA Lw.hKA)) (Ya := Hook.val (kHook Lw.hK Lw.hA Lw.hKA)) (YP := Hook.says (kHook Lw.hK Lw.hA Lw.hKA)) (N := 7600) Lw.left (Hook.of (kHook Lw.hK Lw.hA Lw.hKA)) (Hook.keeps (kHook Lw.hK Lw.hA Lw.hKA)) (fun s e => xl_of s (Bool.and_eq_true_iff.mp e).1) XL.keeps (by rfl) (by rfl) (by rfl) (fun s e => recFacts_of (Bool.and_eq_true_iff.mp e).2) (by rfl) (by first | assumption | decide +kernel) (by decide +kernel) ⟨rfl, rfl, rfl, rfl, rfl, by decide +kernel⟩ ?hw ?hc
  case hw => w_witness2
  k_fill
  refine Lw.walk (l := PySem.Challenge.rw_plusless_k13_whole_tables_and_papers) rfl rfl (fun w h Y => by first | exact PySem.W.kIn_of Y | exact Y.1) ?F
  case F =>
    intro w mg fa h KX G hmg
    refine' Lw.all_mk KX G hmg ?a0 ?l0 ?c0 ?k0 ?a1 ?l1 ?c1 ?k1 ?a2 ?l2 ?c2 ?k2 ?a3 ?l3 ?c3 ?k3 ?a4 ?l4 ?c4 ?k4 ?a5 ?l5 ?c5 ?k5 ?a6 ?l6 ?c6 ?k6 ?a7 ?l7 ?c7 ?k7 ?a8 ?l8 ?c8 ?k8 ?a9 ?l9 ?c9 ?k9 ?a10 ?l10 ?c10 ?k10 ?a11 ?l11 ?c11 ?k11 ?a12 ?l12 ?c12 ?k12 ?a13 ?l13 ?c13 ?k13 ?a14 ?l14 ?c14 ?k14 ?a15 ?l15 ?c15 ?k15 ?a16 ?l16 ?c16 ?k16 ?a17 ?l17 ?c17 ?k17 ?a18 ?l18 ?c18 ?k18 ?a19 ?l19 ?c19 ?k19 ?a20 ?l20 ?c20 ?k20 ?a21 ?l21 ?c21 ?k21 ?a22 ?l22 ?c22 ?k22 ?a23 ?l23 ?c23 ?k23 ?a24 ?l24 ?c24 ?k24 ?a25 ?l25 ?c25 ?k25 ?a26 ?l26 ?c26 ?k26 ?a27 ?l27 ?c27 ?k27 ?a28 ?l28 ?c28 ?k28 ?a29 ?l29 ?c29 ?k29 ?a30 ?l30 ?c30 ?k30 ?a31 ?l31 ?c31 ?k31 ?a32 ?l32 ?c32 ?k32 ?a33 ?l33 ?c33 ?k33 ?a34 ?l34 ?c34 ?k34 ?a35 ?l35 ?c35 ?k35 ?a36 ?l36 ?c36 ?k36 ?a37 ?l37 ?c37 ?k37 ?a38 ?l38 ?c38 ?k38 ?a39 ?l39 ?c39 ?k39 ?a40 ?l40 ?c40 ?k40 ?a41 ?l41 ?c41 ?k41 ?a42 ?l42 ?c42 ?k42 ?a43 ?l43 ?c43 ?k43 ?a44 ?l44 ?c44 ?k44 ?z_abs ?z_all ?z_bool ?z_dict ?z_divmod ?z_enumerate ?z_int ?z_isinstance ?z_len ?z_list ?z_max ?z_min ?z_range ?z_reversed ?z_sorted ?z_sum ?z_tuple ?z_zip ?z_LONGEST_ROW ?z_LONGEST_TABLED ?zt_PARTS ?yt_PARTS ?zt_SIGNS ?yt_SIGNS ?gt ?tk
    (case a0 => k_is)
    (case l0 => k_is)
    (case c0 => k_is)
    (case k0 => k_is)
    (case a1 => k_is)
    (case l1 => k_is)
    (case c1 => k_is)
    (case k1 => k_is)
    (case a2 => k_is)
    (case l2 => k_is)
    (case c2 => k_is)
    (case k2 => k_is)
    (case a3 => k_is)
    (case l3 => k_is)
    (case c3 => k_is)
    (case k3 => k_is)
    (case a4 => k_is)
    (case l4 => k_is)
    (case c4 => k_is)
    (case k4 => k_is)
    (case a5 => k_is)
    (case l5 => k_is)
    (case c5 => k_is)
    (case k5 => k_is)
    (case a6 => k_is)
    (case l6 => k_is)
    (case c6 => k_is)
    (case k6 => k_is)
    (case a7 => k_is)
    (case l7 => k_is)
    (case c7 => k_is)
    (case k7 => k_is)
    (case a8 => k_is)
    (case l8 => k_is)
    (case c8 => k_is)
    (case k8 => k_is)
    (case a9 => k_is)
    (case l9 => k_is)
    (case c9 => k_is)
    (case k9 => k_is)
    (case a10 => k_is)
    (case l10 => k_is)
    (case c10 => k_is)
    (case k10 => k_is)
    (case a11 => k_is)
    (case l11 => k_is)
    (case c11 => k_is)
    (case k11 => k_is)
    (case a12 => k_is)
    (case l12 => k_is)
    (case c12 => k_is)
    (case k12 => k_is)
    (case a13 => k_is)
    (case l13 => k_is)
    (case c13 => k_is)
    (case k13 => k_is)
    (case a14 => k_is)
    (case l14 => k_is)
    (case c14 => k_is)
    (case k14 => k_is)
    (case a15 => k_is)
    (case l15 => k_is)
    (case c15 => k_is)
    (case k15 => k_is)
    (case a16 => k_is)
    (case l16 => k_is)
    (case c16 => k_is)
    (case k16 => k_is)
    (case a17 => k_is)
    (case l17 => k_is)
    (case c17 => k_is)
    (case k17 => k_is)
    (case a18 => k_is)
    (case l18 => k_is)
    (case c18 => k_is)
    (case k18 => k_is)
    (case a19 => k_is)
    (case l19 => k_is)
    (case c19 => k_is)
    (case k19 => k_is)
    (case a20 => k_is)
    (case l20 => k_is)
    (case c20 => k_is)
    (case k20 => k_is)
    (case a21 => k_is)
    (case l21 => k_is)
    (case c21 => k_is)
    (case k21 => k_is)
    (case a22 => k_is)
    (case l22 => k_is)
    (case c22 => k_is)
    (case k22 => k_is)
    (case a23 => k_is)
    (case l23 => k_is)
    (case c23 => k_is)
    (case k23 => k_is)
    (case a24 => k_is)
    (case l24 => k_is)
    (case c24 => k_is)
    (case k24 => k_is)
    (case a25 => k_is)
    (case l25 => k_is)
    (case c25 => k_is)
    (case k25 => k_is)
    (case a26 => k_is)
    (case l26 => k_is)
    (case c26 => k_is)
    (case k26 => k_is)
    (case a27 => k_is)
    (case l27 => k_is)
    (case c27 => k_is)
    (case k27 => k_is)
    (case a28 => k_is)
    (case l28 => k_is)
    (case c28 => k_is)
    (case k28 => k_is)
    (case a29 => k_is)
    (case l29 => k_is)
    (case c29 => k_is)
    (case k29 => k_is)
    (case a30 => k_is)
    (case l30 => k_is)
    (case c30 => k_is)
    (case k30 => k_is)
    (case a31 => k_is)
    (case l31 => k_is)
    (case c31 => k_is)
    (case k31 => k_is)
    (case a32 => k_is)
    (case l32 => k_is)
    (case c32 => k_is)
    (case k32 => k_is)
    (case a33 => k_is)
    (case l33 => k_is)
    (case c33 => k_is)
    (case k33 => k_is)
    (case a34 => k_is)
    (case l34 => k_is)
    (case c34 => k_is)
    (case k34 => k_is)
    (case a35 => k_is)
    (case l35 => k_is)
    (case c35 => k_is)
    (case k35 => k_is)
    (case a36 => k_is)
    (case l36 => k_is)
    (case c36 => k_is)
    (case k36 => k_is)
    (case a37 => k_is)
    (case l37 => k_is)
    (case c37 => k_is)
    (case k37 => k_is)
    (case a38 => k_is)
    (case l38 => k_is)
    (case c38 => k_is)
    (case k38 => k_is)
    (case a39 => k_is)
    (case l39 => k_is)
    (case c39 => k_is)
    (case k39 => k_is)
    (case a40 => k_is)
    (case l40 => k_is)
    (case c40 => k_is)
    (case k40 => k_is)
    (case a41 => k_is)
    (case l41 => k_is)
    (case c41 => k_is)
    (case k41 => k_is)
    (case a42 => k_is)
    (case l42 => k_is)
    (case c42 => k_is)
    (case k42 => k_is)
    (case a43 => k_is)
    (case l43 => k_is)
    (case c43 => k_is)
    (case k43 => k_is)
    (case a44 => k_is)
    (case l44 => k_is)
    (case c44 => k_is)
    (case k44 => k_is)
    (case z_abs => k_is)
    (case z_all => k_is)
    (case z_bool => k_is)
    (case z_dict => k_is)
    (case z_divmod => k_is)
    (case z_enumerate => k_is)
    (case z_int => k_is)
    (case z_isinstance => k_is)
    (case z_len => k_is)
    (case z_list => k_is)
    (case z_max => k_is)
    (case z_min => k_is)
    (case z_range => k_is)
    (case z_reversed => k_is)
    (case z_sorted => k_is)
    (case z_sum => k_is)
    (case z_tuple => k_is)
    (case z_zip => k_is)
    (case z_LONGEST_ROW => k_is)
    (case z_LONGEST_TABLED => k_is)
    (case zt_PARTS => k_is)
    (case yt_PARTS => k_is)
    (case zt_SIGNS => k_is)
    (case yt_SIGNS => k_is)
    (case gt => k_is)
    (case tk => k_is)
