import PyProof.Rows.All
import Wide.All
import OpenK.AllK
import Wide.FinOn
import PyProof.EqAt
import PyProof.EqKinds
import PyProof.TupleCall
import PyProof.ZipIter
import PyProof.EnumMake
import PyProof.Draws
import PyProof.LayNew
import PyProof.Rows.SortShell
import PyProof.IsRules
import PyProof.ListIndex
import PyProof.Cells
import PyProof.CompUse
import PyProof.DictItems
import PyProof.DictItemsLoops
import PyProof.Rows.MinMaxN
import PyProof.Rows.Range3
import KE.KRevIter
import PyProof.DictWalks
import PyProof.NeKinds
import PyProof.DictList
import PyProof.DictUpdate
import PyProof.Rows.Tup
import PyProof.FactsAll.tuple_2
import PyProof.Rows.CallKwBuiltin
import KE.KDictSum
import Lean
import PySem.Challenge.RW_plusless_k44_whole_keepers
set_option Elab.async false
set_option linter.all false
set_option maxRecDepth 100000
namespace Lw
open PySem
noncomputable def top (i:Nat):Stmt:=PySem.Challenge.pw_plusless_k44_whole_keepers.main.body.getD i (.Pass ⟨0,0,0,0⟩)
noncomputable def hdI (s:Stmt) (j:Nat):Stmt:=match s with
  | .ClassDef _ _ _ body _ _ _ _ _ _ _ => body.getD j (.Pass ⟨0, 0, 0, 0⟩)
  | _ => .Pass ⟨0, 0, 0, 0⟩
noncomputable def hdA (s:Stmt):Arguments:=match s with
  | .FunctionDef _ a _ _ _ _ _ _ _ _ => a
  | _ => {posonlyargs:=[],args:=[],vararg:=none,kwonlyargs:=[],kw_defaults:=[],kwarg:=none,defaults:=[]}
noncomputable def hdBQ (s:Stmt):List Stmt:=match s with
  | .FunctionDef _ _ b _ _ _ _ _ _ _ => b
  | _ => []
noncomputable def hdS (s:Stmt):Scope:=match s with
  | .FunctionDef _ _ _ _ _ _ sc _ _ _ => sc
  | _ => {kind:=.function,names:=[],isGenerator:=false,isCoroutine:=false}
noncomputable def hE (P:Params) (n:Str) (t:Tok) (v:Value):DictEntry:={hash:=PyData.keyHash P n,key:=.str n t,val:=v}
noncomputable def hFQ (n:Str) (i:Nat) (m:Str) (t:Tok) (c:Addr):Obj:={cls:=.type "function",data:=.func {name:=n,qualname:=n,params:=hdA (top i),body:=.stmts (hdBQ (top i)),scope:=hdS (top i),globals:=3,closure:=[],defaults:=.none,kwdefaults:=.none,pyModule:=.str m t,code:=.ref c}}
noncomputable def hC (n:Str) (t0 t1 t2:Tok) (a b c d e:Int) (r0:Value) (f:Int) (r1 r2 r3 r4 r5:Value) (g h:Int) (t3:Tok):Obj:={cls:=.type "code",data:=.fields #[.str n t0,.str n t1,.str "/claim/cut.py" t2,.int a 0,.int b 0,.int c 0,.int d 0,.int e 0,r0,.bool true,.int f 0,r1,r2,r3,r4,r5,.int g 0,.int h 0,.str "/claim/cut.py" t3]}
noncomputable def hMQ (n q:Str) (i j:Nat) (m:Str) (t:Tok) (c:Addr):Obj:={cls:=.type "function",data:=.func {name:=n,qualname:=q,params:=hdA (hdI (top i) j),body:=.stmts (hdBQ (hdI (top i) j)),scope:=hdS (hdI (top i) j),globals:=3,closure:=[],defaults:=.none,kwdefaults:=.none,pyModule:=.str m t,code:=.ref c}}
noncomputable def hC2 (q n:Str) (t0 t1 t2:Tok) (a b c d e:Int) (r0:Value) (f:Int) (r1 r2 r3 r4 r5:Value) (g h:Int) (t3:Tok):Obj:={cls:=.type "code",data:=.fields #[.str n t0,.str q t1,.str "/claim/cut.py" t2,.int a 0,.int b 0,.int c 0,.int d 0,.int e 0,r0,.bool true,.int f 0,r1,r2,r3,r4,r5,.int g 0,.int h 0,.str "/claim/cut.py" t3]}
noncomputable def hG (n:Str) (i:Nat):Obj:={cls:=.none,data:=.func {name:=n,qualname:=n,params:=hdA (top i),body:=.stmts (hdBQ (top i)),scope:=hdS (top i),globals:=0,closure:=[],defaults:=.none,kwdefaults:=.none}}
noncomputable def hG2 (n q:Str) (i j:Nat):Obj:={cls:=.none,data:=.func {name:=n,qualname:=q,params:=hdA (hdI (top i) j),body:=.stmts (hdBQ (hdI (top i) j)),scope:=hdS (hdI (top i) j),globals:=0,closure:=[],defaults:=.none,kwdefaults:=.none}}
noncomputable def hq0:Obj:={cls:=.type "tuple",data:=.seq #[]}
noncomputable def hq1:Obj:={cls:=.none,data:=.fields #[]}
noncomputable def hq2 (x1 x2 x3:Nat) (y0:Str):Obj:={cls:=.type "code",data:=.fields #[.str y0 x1,.str y0 (x1+1),.str "/claim/cut.py" (x1+2),.int (.ofNat x2) 0,.int 0 0,.int 0 0,.int 0 0,.int 0 0,.ref x3,.bool false,.int 181 0,.ref (x3+1),.none,.none,.none,.none,.int (.ofNat (x1+3)) 0,.int (.ofNat x2) 0,.str "/claim/cut.py" (x1+4)]}
noncomputable def hq3 (x0 x1 x3:Nat) (y2:Str):Obj:={cls:=.type "frame",slots:=#[some (.ref x0),some (.ref 3),some (.ref x1),none,some (.str y2 x3),none,some (.ref 0)]}
noncomputable def hq4:Obj:={cls:=.type "builtin_function_or_method",data:=.fields #[.builtin "type.__prepare__",.type "type"]}
noncomputable def hq5 (P:Params) (x0 x2 x3:Nat) (y1:Str):Obj:={cls:=.type "dict",data:=.dict #[hE P "__module__" x0 (.str "plusless.errors" 187),hE P "__qualname__" (x0+2) (.str y1 (x0+1)),hE P "__firstlineno__" (x0+4) (.int (.ofNat x2) (x0+3)),hE P "__static_attributes__" (x0+5) (.ref x3)] 4}
noncomputable def hq6 (x0:Nat):Obj:={cls:=.type "super",data:=.fields #[.ref x0,.ref x0,.ref x0]}
noncomputable def hq7 (x0:Nat):Obj:={cls:=.type "builtin_function_or_method",data:=.fields #[.builtin "object.__init_subclass__",.ref x0]}
noncomputable def hq8:Obj:={cls:=.type "tuple",data:=.seq #[.ref 24]}
noncomputable def hq9 (P:Params) (x0 x1 x2:Nat):Obj:={cls:=.type "dict",data:=.dict #[hE P "__module__" x0 (.str "plusless.errors" 187),hE P "__firstlineno__" (x0+4) (.int (.ofNat x1) (x0+3)),hE P "__static_attributes__" (x0+5) (.ref x2),hE P "__doc__" (x0+6) .none] 2}
noncomputable def hq10 (x1 x2:Nat) (y0:Str):Obj:={cls:=.type "type",data:=.cls {name:=y0,bases:=[.ref 24],mro:=[.ref (x1+9),.ref 24,.type "ValueError",.type "Exception",.type "BaseException",.type "object"],ns:=(x1+8),qualname:=y0},slots:=#[some (.ref x1),none,some (.str y0 x2),some (.str y0 (x2+8)),some (.builtin "ValueError.__new__"),some (.bool true)]}
noncomputable def hq11 (x0:Nat):Obj:={cls:=.type "tuple",data:=.seq #[.str "thing" x0]}
noncomputable def hq12 (x1 x2 x3 x4 x5:Nat) (y0:Str):Obj:=hC y0 x1 (x1+1) (x1+2) (.ofNat x2) (.ofNat x3) 0 0 3 (.ref x4) 181 (.ref (x4+1)) .none (.ref (x4+2)) (.ref (x4+3)) (.ref (x4+4)) (.ofNat x5) (.ofNat x2) (x5+1)
noncomputable def hq13 (x1 x2 x3 x4:Nat) (y0:Str):Obj:=hC y0 x1 (x1+1) (x1+2) (.ofNat x2) (.ofNat x3) 0 0 3 (.ref x4) 181 (.ref (x4+1)) .none .none .none (.ref (x4+2)) (.ofNat (x1+3)) (.ofNat x2) (x1+4)
noncomputable def hq14 (x2 x3 x4 x5 x6:Nat) (y0 y1:Str):Obj:=hC2 y0 y1 x2 (x2+1) (x2+2) (.ofNat x3) (.ofNat x4) 0 0 3 (.ref x5) 181 (.ref (x5+1)) .none (.ref (x5+2)) (.ref (x5+3)) (.ref (x5+4)) (.ofNat x6) (.ofNat x3) (x6+1)
noncomputable def hq15 (x2 x3:Nat) (y0 y1:Str):Obj:=hMQ y0 y1 25 x2 "plusless.keeper" 393 x3
noncomputable def hK:Params→PySem.W.Frag:=fun P=>(nat_lit 2,{cls:=.none,data:=.dict #[]})::
 (nat_lit 3,{cls:=.type "dict",data:=.dict #[hE P "__name__" 165 (.str "law_plusless_k44_whole_keepers" 490),hE P "__doc__" 166 .none,hE P "__package__" 167 .none,hE P "__loader__" 168 (.builtin "__main__.__loader__#opaque"),hE P "__spec__" 169 .none,hE P "__annotations__" 170 (.ref 6),hE P "__builtins__" 171 (.ref 4),hE P "__file__" 173 (.str "/claim/cut.py" 172),hE P "__cached__" 174 .none,hE P "PlusError" 206 (.ref 24),hE P "NoRow" 222 (.ref 37),hE P "NoNumber" 238 (.ref 49),hE P "TooMany" 254 (.ref 61),hE P "Bare" 270 (.ref 73),hE P "LONGEST_ROW" 274 (.int 16 273),hE P "is_whole" 281 (.ref 82),hE P "is_row" 287 (.ref 87),hE P "need_row" 294 (.ref 94),hE P "need_number" 301 (.ref 101),hE P "need_number_from" 309 (.ref 108),hE P "need_row_and_number" 317 (.ref 115),hE P "SIGNS" 323 (.ref 116),hE P "stepped" 337 (.ref 123),hE P "table_of" 347 (.ref 130),hE P "halves_of" 357 (.ref 137),hE P "many_met" 363 (.ref 142),hE P "firsts_stepped" 377 (.ref 149),hE P "firsts_of" 386 (.ref 156),hE P "first_met" 392 (.ref 161),hE P "Keeper" 489 (.ref 239),hE P "_law_box" 503 (.ref 250),hE P "_law_take" 513 (.ref 257),hE P "_law_told" 521 (.ref 264),hE P "_law_turned" 531 (.ref 271),hE P "law" 548 (.ref 278)] 35})::
 (nat_lit 81,hq12 275 14 1 76 279 "is_whole")::
 (nat_lit 82,hFQ "is_whole" 8 "plusless.rows" 271 81)::
 (nat_lit 86,hq13 282 16 1 83 "is_row")::
 (nat_lit 87,hFQ "is_row" 9 "plusless.rows" 271 86)::
 (nat_lit 93,hq12 288 20 1 88 292 "need_row")::
 (nat_lit 94,hFQ "need_row" 10 "plusless.rows" 271 93)::
 (nat_lit 100,hq12 295 23 1 95 299 "need_number")::
 (nat_lit 101,hFQ "need_number" 11 "plusless.rows" 271 100)::
 (nat_lit 107,hq12 302 26 2 102 307 "need_number_from")::
 (nat_lit 108,hFQ "need_number_from" 12 "plusless.rows" 271 107)::
 (nat_lit 114,hq12 310 30 2 109 315 "need_row_and_number")::
 (nat_lit 115,hFQ "need_row_and_number" 13 "plusless.rows" 271 114)::
 (nat_lit 116,{cls:=.type "tuple",data:=.seq #[.int (-1) 321,.int 1 322]})::
 (nat_lit 122,hq12 324 35 3 117 335 "stepped")::
 (nat_lit 123,hFQ "stepped" 16 "plusless.tables" 318 122)::
 (nat_lit 129,hq12 338 42 2 124 345 "table_of")::
 (nat_lit 130,hFQ "table_of" 17 "plusless.tables" 318 129)::
 (nat_lit 136,hq12 350 48 1 131 355 "halves_of")::
 (nat_lit 137,hFQ "halves_of" 19 "plusless.halves" 348 136)::
 (nat_lit 141,hq13 358 51 2 138 "many_met")::
 (nat_lit 142,hFQ "many_met" 20 "plusless.halves" 348 141)::
 (nat_lit 148,hq12 364 55 2 143 375 "firsts_stepped")::
 (nat_lit 149,hFQ "firsts_stepped" 21 "plusless.halves" 348 148)::
 (nat_lit 155,hq12 378 63 1 150 384 "firsts_of")::
 (nat_lit 156,hFQ "firsts_of" 22 "plusless.halves" 348 155)::
 (nat_lit 160,hq13 387 68 2 157 "first_met")::
 (nat_lit 161,hFQ "first_met" 23 "plusless.halves" 348 160)::
 (nat_lit 174,hq14 407 76 1 169 411 "Keeper.__init__" "__init__")::
 (nat_lit 175,hq15 0 174 "__init__" "Keeper.__init__")::
 (nat_lit 181,hq14 414 80 2 176 419 "Keeper.change" "change")::
 (nat_lit 182,hq15 1 181 "change" "Keeper.change")::
 (nat_lit 188,hq14 422 85 2 183 427 "Keeper.put" "put")::
 (nat_lit 189,hq15 2 188 "put" "Keeper.put")::
 (nat_lit 195,hq14 430 91 1 190 434 "Keeper.take" "take")::
 (nat_lit 196,hq15 3 195 "take" "Keeper.take")::
 (nat_lit 202,hq14 437 96 1 197 441 "Keeper.back" "back")::
 (nat_lit 203,hq15 4 202 "back" "Keeper.back")::
 (nat_lit 209,hq14 444 102 1 204 448 "Keeper.row" "row")::
 (nat_lit 210,hq15 5 209 "row" "Keeper.row")::
 (nat_lit 216,hq14 451 105 1 211 455 "Keeper.worths_many" "worths_many")::
 (nat_lit 217,hq15 6 216 "worths_many" "Keeper.worths_many")::
 (nat_lit 223,hq14 458 108 2 218 463 "Keeper.ways" "ways")::
 (nat_lit 224,hq15 7 223 "ways" "Keeper.ways")::
 (nat_lit 230,hq14 466 111 2 225 471 "Keeper.first" "first")::
 (nat_lit 231,hq15 8 230 "first" "Keeper.first")::
 (nat_lit 235,hC2 "Keeper.times" "times" 474 475 476 114 2 0 0 3 (.ref 232) 181 (.ref 233) .none .none .none (.ref 234) 477 114 478)::
 (nat_lit 236,hq15 9 235 "times" "Keeper.times")::
 (nat_lit 238,{cls:=.type "dict",data:=.dict #[hE P "__module__" 402 (.str "plusless.keeper" 393),hE P "__firstlineno__" 406 (.int 74 405),hE P "__init__" 413 (.ref 175),hE P "change" 421 (.ref 182),hE P "put" 429 (.ref 189),hE P "take" 436 (.ref 196),hE P "back" 443 (.ref 203),hE P "row" 450 (.ref 210),hE P "worths_many" 457 (.ref 217),hE P "ways" 465 (.ref 224),hE P "first" 473 (.ref 231),hE P "times" 479 (.ref 236),hE P "__static_attributes__" 482 (.ref 237),hE P "__dict__" 484 (.ref 240),hE P "__weakref__" 486 (.ref 241),hE P "__doc__" 487 .none] 4})::
 (nat_lit 239,{cls:=.type "type",data:=.cls {name:="Keeper",bases:=[.type "object"],mro:=[.ref 239,.type "object"],ns:=238,qualname:="Keeper"},slots:=#[none,none,some (.str "Keeper" 395),some (.str "Keeper" 403),some (.builtin "object.__new__"),some (.bool true)]})::
 (nat_lit 249,hq12 492 117 2 244 501 "_law_box")::
 (nat_lit 250,hFQ "_law_box" 27 "law_plusless_k44_whole_keepers" 490 249)::
 (nat_lit 256,hq12 504 129 2 251 511 "_law_take")::
 (nat_lit 257,hFQ "_law_take" 28 "law_plusless_k44_whole_keepers" 490 256)::
 (nat_lit 263,hq12 514 133 2 258 519 "_law_told")::
 (nat_lit 264,hFQ "_law_told" 29 "law_plusless_k44_whole_keepers" 490 263)::
 (nat_lit 270,hq12 522 135 3 265 529 "_law_turned")::
 (nat_lit 271,hFQ "_law_turned" 30 "law_plusless_k44_whole_keepers" 490 270)::
 (nat_lit 277,hq12 532 141 1 272 546 "law")::
 (nat_lit 278,hFQ "law" 31 "law_plusless_k44_whole_keepers" 490 277)::[]
noncomputable def hA:List Addr:=[2,3,81,82,86,87,93,94,100,101,107,108,114,115,116,122,123,129,130,136,137,141,142,148,149,155,156,160,161,174,175,181,182,188,189,195,196,202,203,209,210,216,217,223,224,230,231,235,236,238,239,249,250,256,257,263,264,270,271,277,278]
noncomputable def hV:Program:={PySem.Challenge.pw_plusless_k44_whole_keepers with main:={PySem.Challenge.pw_plusless_k44_whole_keepers.main with body:=[top 1,top 2,top 3,top 4,top 5,top 7,top 8,top 9,top 10,top 11,top 12,top 13,top 15,top 16,top 17,top 19,top 20,top 21,top 22,top 23,top 25,top 27,top 28,top 29,top 30,top 31]}}
theorem hKA (P:Params):hA=(hK P).map (·.1):=by kernel_rfl
noncomputable abbrev hX (s:Shared):Bool:=PySem.W.xlAt hV [] s && PySem.W.recOk (PySem.W.RowW.records PySem.Challenge.rw_plusless_k44_whole_keepers.row.toRowW) s
noncomputable def hNQ:=@PySem.W.BT.node
noncomputable def hzQ:=PySem.W.BT.nil
noncomputable def hLQ (o:Obj):=PySem.W.BT.node o .nil .nil
noncomputable def q2Q (P:Params):Obj:=hq2 182 1 11 "<module>"
noncomputable def q3Q (P:Params):Obj:=hq3 13 3 164 "__main__"
noncomputable def t0T (P:Params):PySem.W.BT:=(hNQ (PySem.W.boot_o_0 P) (hNQ (PySem.W.boot_o_1 P) (hNQ (PySem.W.boot_o_3 P) (hLQ (PySem.W.boot_o_7 P)) (hLQ hq0)) (hNQ (PySem.W.boot_o_5 P) (hLQ (PySem.W.boot_o_9 P)) (hLQ (q2Q P)))) (hNQ (PySem.W.boot_o_2 P) (hNQ (PySem.W.boot_o_4 P) (hLQ (PySem.W.boot_o_8 P)) (hLQ hq1)) (hNQ (PySem.W.boot_o_6 P) (hLQ (PySem.W.boot_o_10 P)) (hLQ (q3Q P)))))
noncomputable def t1T (P:Params):PySem.W.BT:=(hNQ (PySem.W.boot_o_0 P) (hNQ (PySem.W.boot_o_1 P) (hNQ {cls:=.type "dict",data:=.dict #[hE P "__name__" 165 (.str "plusless.rows" 271),hE P "__doc__" 166 .none,hE P "__package__" 167 .none,hE P "__loader__" 168 (.builtin "__main__.__loader__#opaque"),hE P "__spec__" 169 .none,hE P "__annotations__" 170 (.ref 6),hE P "__builtins__" 171 (.ref 4),hE P "__file__" 173 (.str "/claim/cut.py" 172),hE P "__cached__" 174 .none,hE P "PlusError" 206 (.ref 24),hE P "NoRow" 222 (.ref 37),hE P "NoNumber" 238 (.ref 49),hE P "TooMany" 254 (.ref 61),hE P "Bare" 270 (.ref 73),hE P "LONGEST_ROW" 274 (.int 16 273),hE P "is_whole" 281 (.ref 82),hE P "is_row" 287 (.ref 87),hE P "need_row" 294 (.ref 94),hE P "need_number" 301 (.ref 101),hE P "need_number_from" 309 (.ref 108)] 20} (hNQ (PySem.W.boot_o_7 P) (hNQ {cls:=.type "tuple",data:=.seq #[.type "ValueError"]} (hNQ hq0 (hLQ (hq7 61)) (hLQ hq0)) (hNQ hq0 (hLQ hq0) hzQ)) (hNQ {cls:=.type "dict",data:=.dict #[hE P "__module__" 196 (.str "plusless.errors" 187),hE P "__firstlineno__" 200 (.int 2 199),hE P "__static_attributes__" 201 (.ref 22),hE P "__weakref__" 203 (.ref 25),hE P "__doc__" 204 .none] 3} (hNQ (hq7 37) (hLQ hq0) (hLQ hq1)) (hNQ hq0 (hLQ (hFQ "is_row" 9 "plusless.rows" 271 86)) hzQ))) (hNQ hq0 (hNQ hq1 (hNQ hq0 (hLQ hq0) (hLQ (hG "need_number" 11))) (hNQ (hq7 49) (hLQ hq0) hzQ)) (hNQ (hq7 24) (hNQ hq0 (hLQ (hq7 73)) (hLQ (hq12 302 26 2 102 307 "need_number_from"))) (hNQ hq0 (hLQ hq0) hzQ)))) (hNQ (PySem.W.boot_o_5 P) (hNQ (PySem.W.boot_o_9 P) (hNQ (hq5 P 196 2 22 "PlusError") (hNQ (hq2 209 4 31 "NoRow") (hLQ hq4) (hLQ (hq11 298))) (hNQ (hq10 40 223 "NoNumber") (hLQ (hq12 275 14 1 76 279 "is_whole")) hzQ)) (hNQ {cls:=.type "getset_descriptor",data:=.fields #[.str "__weakref__" 202,.ref 24,.builtin "ExceptionGroup.__weakref__",.none]} (hNQ hq4 (hLQ (hq10 64 255 "Bare")) (hLQ hq0)) (hNQ (hq2 241 8 55 "TooMany") (hLQ hq1) hzQ))) (hNQ (q2Q P) (hNQ (hq3 20 17 187 "plusless.errors") (hNQ (hq10 28 207 "NoRow") (hLQ (hq2 257 10 67 "Bare")) (hLQ (hFQ "need_number" 11 "plusless.rows" 271 100))) (hNQ hq4 (hLQ (hG "is_row" 9)) hzQ)) (hNQ hq4 (hNQ (hq2 225 6 43 "NoNumber") (hLQ hq1) hzQ) (hNQ (hq10 52 239 "TooMany") (hLQ (hq12 288 20 1 88 292 "need_row")) hzQ))))) (hNQ (PySem.W.boot_o_2 P) (hNQ (PySem.W.boot_o_4 P) (hNQ (PySem.W.boot_o_8 P) (hNQ hq4 (hNQ hq1 (hLQ hq8) (hLQ hq1)) (hNQ (hq9 P 230 6 47) (hLQ (hG "is_whole" 8)) hzQ)) (hNQ {cls:=.type "type",data:=.cls {name:="PlusError",bases:=[.type "ValueError"],mro:=[.ref 24,.type "ValueError",.type "Exception",.type "BaseException",.type "object"],ns:=23,qualname:="PlusError",subclasses:=[.ref 37,.ref 49,.ref 61,.ref 73]},slots:=#[some (.ref 15),none,some (.str "PlusError" 189),some (.str "PlusError" 197),some (.builtin "ValueError.__new__"),some (.bool true)]} (hNQ hq8 (hLQ (hq9 P 262 10 71)) (hLQ {cls:=.type "tuple",data:=.seq #[.str "least" 305,.str "thing" 306]})) (hNQ hq1 (hLQ hq0) hzQ))) (hNQ {cls:=.none,data:=.fields #[.int 2 0,.int 0 0,.ref 20,.int 4 0,.int 0 0,.ref 33,.int 6 0,.int 0 0,.ref 45,.int 8 0,.int 0 0,.ref 57,.int 10 0,.int 0 0,.ref 69,.int 14 0,.int 0 0,.ref 81,.int 16 0,.int 0 0,.ref 86,.int 20 0,.int 0 0,.ref 93,.int 23 0,.int 0 0,.ref 100,.int 26 0,.int 0 0,.ref 107]} (hNQ (hq2 191 2 18 "PlusError") (hNQ (hq9 P 214 4 35) (hLQ hq1) (hLQ (hq12 295 23 1 95 299 "need_number"))) (hNQ hq8 (hLQ hq1) hzQ)) (hNQ hq8 (hNQ hq1 (hLQ hq0) (hLQ (hFQ "need_number_from" 12 "plusless.rows" 271 107))) (hNQ (hq9 P 246 8 59) (hLQ (hG "need_row" 10)) hzQ)))) (hNQ (PySem.W.boot_o_6 P) (hNQ (PySem.W.boot_o_10 P) (hNQ hq0 (hNQ (hq3 33 30 187 "plusless.errors") (hLQ (hq5 P 262 10 71 "Bare")) (hLQ hq0)) (hNQ (hq6 49) (hLQ (hFQ "is_whole" 8 "plusless.rows" 271 81)) hzQ)) (hNQ (hq6 24) (hNQ (hq5 P 230 6 47 "NoNumber") (hLQ (hq6 73)) (hLQ (hG "need_number_from" 12))) (hNQ (hq3 57 54 187 "plusless.errors") (hLQ (hq11 291)) hzQ))) (hNQ (q3Q P) (hNQ hq0 (hNQ (hq6 37) (hLQ (hq3 69 66 187 "plusless.errors")) (hLQ hq0)) (hNQ (hq5 P 246 8 59 "TooMany") (hLQ (hq13 282 16 1 83 "is_row")) hzQ)) (hNQ (hq5 P 214 4 35 "NoRow") (hNQ (hq3 45 42 187 "plusless.errors") (hLQ (hq11 278)) hzQ) (hNQ (hq6 61) (hLQ (hFQ "need_row" 10 "plusless.rows" 271 93)) hzQ))))))
noncomputable abbrev hpQ:Program:=PySem.Challenge.rw_plusless_k44_whole_keepers.row.prog
noncomputable def hEnv:Env:={scope:=hpQ.main.scope,locals:=mainNs,globals:=mainNs,cells:=[],code:=.ref 13,frame:=some 14}
noncomputable def hBQ:List Stmt:=PySem.W.behindTheImports hpQ
noncomputable def hCd:Code:=Code.body hBQ hEnv
noncomputable def hp0Q:Pos:=⟨0,0,0,0⟩
noncomputable def hsT (t:PySem.W.BT) (n k:Nat) (os:OsState):PySem.W.SharedT:={tree:=t,n:=n,life:={},gens:=#[],drawn:={},toks:=k,os:=os}
set_option maxHeartbeats 0 in
theorem htg (w:World) (os:OsState):PySem.W.topGo treeTable hpQ w 11 (some (.ref 6)) 12 {heap:=PySem.W.boot_heap w.params,gens:=#[],drawn:=PySem.W.boot_drawn,toks:=PySem.W.boot_toks,os:=os} (PySem.W.topStub hpQ)=some ((hsT (t0T w.params) 15 187 os).abs,{cur:=denote treeTable (Code.body hBQ hEnv),code:=hCd,pos:=hp0Q,stack:=[PySem.W.topFrame hp0Q]}):=by kernel_rfl
set_option maxHeartbeats 0 in
theorem htb (w:World) (os:OsState):PySem.W.segRun treeTable hpQ w 11 (some (.ref 6)) 1 1 (hsT (t0T w.params) 15 187 os).abs (PySem.W.blockOf hBQ hEnv hCd hp0Q [PySem.W.topFrame hp0Q])=some (Flow.next,(hsT (t0T w.params) 15 187 os).abs,hCd,hp0Q):=by kernel_rfl
noncomputable abbrev hsQ (s:Shared):=PySem.W.openSeen hV [] (importedModules hpQ.main.body) hX true s
noncomputable abbrev hgQ:=PySem.W.openGood hV []
noncomputable def hla (w:World) (s:Shared):=(PySem.W.staticsOk (importedModules hpQ.main.body) (PySem.W.boot_heap w.params) s.heap && PySem.W.namesBound hpQ s.heap && PySem.W.gensDone s && PySem.W.laidKept (PySem.W.boot_heap w.params) s.heap,PySem.W.Hook.obs (PySem.W.kHook hK hA hKA) s,(hsQ s).1)
noncomputable def hlb (w:World) (s:Shared):=((hsQ s).2.1,(hsQ s).2.2.1)
noncomputable def hlc (w:World) (s:Shared):=(hsQ s).2.2.2
set_option maxHeartbeats 0 in
theorem pc0 (w:World) (os:OsState):PySem.W.segRunT treeTable hpQ w 11 (some (.ref 6)) 1 3100 (hsT (t0T w.params) 15 187 os) (PySem.W.piecesOf ((hBQ.drop 0).take 13) hEnv hCd hp0Q [PySem.W.topFrame hp0Q])=some (Flow.next,hsT (t1T w.params) 109 310 os,hCd,⟨26,0,29,55⟩):=by kernel_rfl
noncomputable def hrQ (w:World) (os:OsState):=PySem.W.segRunT treeTable hpQ w 11 (some (.ref 6)) 1 1900 (hsT (t1T w.params) 109 310 os) (PySem.W.piecesOf ((hBQ.drop 13).take 19) hEnv hCd ⟨26,0,29,55⟩ [PySem.W.topFrame hp0Q])
def hSa (w:World):Prop:=∀ os,Option.map (fun x=>(x.1,x.2.2.1,x.2.2.2,hla w x.2.1.abs)) (hrQ w os)=some (Flow.next,hCd,⟨141,0,169,15⟩,(true,PySem.W.Hook.val (PySem.W.kHook hK hA hKA) w,hgQ.1))
set_option maxHeartbeats 0 in
theorem pc1a (w:World):hSa w:=fun os=>by kernel_rfl
def hSb (w:World):Prop:=∀ os,Option.map (fun x=>(x.1,x.2.2.1,x.2.2.2,hlb w x.2.1.abs)) (hrQ w os)=some (Flow.next,hCd,⟨141,0,169,15⟩,(hgQ.2.1,hgQ.2.2.1))
set_option maxHeartbeats 0 in
theorem pc1b (w:World):hSb w:=fun os=>by kernel_rfl
def hSc (w:World):Prop:=∀ os,Option.map (fun x=>(x.1,x.2.2.1,x.2.2.2,hlc w x.2.1.abs)) (hrQ w os)=some (Flow.next,hCd,⟨141,0,169,15⟩,hgQ.2.2.2)
set_option maxHeartbeats 0 in
theorem pc1c (w:World):hSc w:=fun os=>by kernel_rfl
theorem htz (w:World) (s:Shared):PySem.W.topRun treeTable hpQ w 11 (some (.ref 6)) 2 s (PySem.W.restOf [] hEnv hCd ⟨141,0,169,15⟩ [PySem.W.topFrame hp0Q])=some s:=by kernel_rfl
set_option maxHeartbeats 0 in
theorem hspQ:hBQ=((hBQ.drop 0).take 13++((hBQ.drop 13).take 19++[])):=by kernel_rfl
theorem left:PySem.W.LeftO hpQ hV [] hX (PySem.W.Hook.obs (PySem.W.kHook hK hA hKA)) (PySem.W.Hook.val (PySem.W.kHook hK hA hKA)) 7000:=fun w=>by
  have o:=PySem.W.boot_open (p:=hpQ) (N:=7000) (by kernel_rfl) (by decide) (fun s=>by kernel_rfl) w
  rcases fo:PySem.W.fencedOpening treeTable hpQ w 7000 with _|⟨b0,b1,b2,b3,os⟩ <;> rw [fo] at o
  · cases o
  obtain ⟨o1,o⟩:=Prod.mk.inj (Option.some.inj o)
  obtain ⟨o2,o⟩:=Prod.mk.inj o
  obtain ⟨o3,o4⟩:=Prod.mk.inj o
  subst o1 o2 o3 o4
  rcases ru:hrQ w os with _|⟨fl,s,cd,po⟩
  · have u:=pc1a w os
    rw [ru] at u
    cases u
  have u:=pc1a w os
  rw [ru] at u
  obtain ⟨g1,u⟩:=Prod.mk.inj (Option.some.inj u)
  obtain ⟨g2,u⟩:=Prod.mk.inj u
  obtain ⟨g3,u⟩:=Prod.mk.inj u
  obtain ⟨l1,u⟩:=Prod.mk.inj u
  obtain ⟨l3,j1⟩:=Prod.mk.inj u
  have u:=pc1b w os
  rw [ru] at u
  obtain ⟨g1,u⟩:=Prod.mk.inj (Option.some.inj u)
  obtain ⟨g2,u⟩:=Prod.mk.inj u
  obtain ⟨g3,u⟩:=Prod.mk.inj u
  obtain ⟨j2,j3⟩:=Prod.mk.inj u
  have j4:=pc1c w os
  rw [ru] at j4
  obtain ⟨g1,j4⟩:=Prod.mk.inj (Option.some.inj j4)
  obtain ⟨g2,j4⟩:=Prod.mk.inj j4
  obtain ⟨g3,j4⟩:=Prod.mk.inj j4
  have l2:hsQ s.abs=hgQ:=Prod.ext j1 (Prod.ext j2 (Prod.ext j3 j4))
  subst g1 g2 g3
  have go:∀ b,b=((hBQ.drop 0).take 13++((hBQ.drop 13).take 19++[])) → PySem.W.topRun treeTable hpQ w 11 (some (.ref 6)) (3100+(1900+2)) (hsT (t0T w.params) 15 187 os).abs (PySem.W.restOf b hEnv hCd hp0Q [PySem.W.topFrame hp0Q])=some s.abs:=fun b z=>by
    subst z
    exact (PySem.W.piece_app (PySem.W.segRun_of (pc0 w os)) (PySem.W.piece_app (PySem.W.segRun_of ru) (htz w s.abs)))
  have r:PySem.W.topRun treeTable hpQ w 11 (some (.ref 6)) 7000 {heap:=PySem.W.boot_heap w.params,gens:=#[],drawn:=PySem.W.boot_drawn,toks:=PySem.W.boot_toks,os:=os} (PySem.W.topStub hpQ)=some s.abs:=PySem.W.topRun_mono 1985 _ _ _ _ (PySem.W.go_top (n:=12) (N:=1+(3100+(1900+2))) (htg w os) (PySem.W.piece_block (n:=1) (N:=(3100+(1900+2))) (htb w os) (go hBQ hspQ)))
  have z1:((PySem.W.boot_heap w.params).isNs mainGlobals && (#[]:Array GenState).size==0)=true:=by kernel_rfl
  have z2:(PySem.W.boot_heap w.params).objs.size=11:=by kernel_rfl
  have z3:(PySem.W.boot_heap w.params).nsMap mainGlobals "__annotations__"=some (.ref 6):=by kernel_rfl
  have tf:PySem.W.topFrom treeTable hpQ w 7000 {heap:=PySem.W.boot_heap w.params,gens:=#[],drawn:=PySem.W.boot_drawn,toks:=PySem.W.boot_toks,os:=os}=some s.abs:=by simp only [PySem.W.topFrom,z1,z2,z3,r,Option.bind_some,l1]
  unfold PySem.W.openEnds
  rw [fo,Option.bind_some,tf]
  have l4:PySem.W.openSeen hV [] (importedModules hpQ.main.body) hX true s.abs=PySem.W.openGood hV []:=l2
  show some (_,_)=some _
  rw [l4,show PySem.W.Hook.obs (PySem.W.kHook hK hA hKA) s.abs=_ from l3]
end Lw
section
set_option Elab.async false
set_option linter.all false
set_option maxRecDepth 100000
set_option genSizeOf false
theorem Au.h2 (h:True:=by decide):True:=h
theorem Au.h5 (h:True:=by intro _; rfl):True:=h
theorem Au.h1 (h:True:=by rfl):True:=h
theorem Au.h8 (h:True:=by intro _ _ z; cases z):True:=h
theorem Au.h0 (h:True:=by kernel_rfl):True:=h
theorem Au.h3 (h:True:=by decide +kernel):True:=h
theorem Au.h9 (h:True:=by first | exact L2.nomark _ | kernel_rfl):True:=h
theorem Au.h4 (h:True:=by intro _; kernel_rfl):True:=h
theorem Au.h7 (h:True:=by first | left; rfl | right; kernel_rfl):True:=h
theorem ex5 {α β:Type} {a b c:α→β→Prop} {P:Prop} (z:∃ x y,a x y∧b x y∧c x y) (f:∀ x y,a x y→b x y→c x y→P):P:=by
 obtain ⟨x,y,u,v,w⟩:=z
 exact f x y u v w
namespace PySem
noncomputable def ZO (o:Obj):Prop:=∃ fs:Array Value,o.data=.fields fs∧fs[2]?=some .none
noncomputable def Heap.Zat (h:Heap) (e:Addr):Prop:=∃ o,h.get? e=some o∧ZO o
section
variable {M:Model} {A:Around} {E:Value→Shared→Prop} {s:Shared} {bs:Heap} {en:Env} {out:List Env} {L e:Addr} {cl a0:Value}
end
end PySem
namespace PySem
open PyProof.Rows
theorem entry_unchain:entryFor table "proto.unchain" = some Builtin.«proto.unchain»:=entryFor_of_tree (by kernel_rfl)
theorem plain_unchain:plainId "proto.unchain" = true:=by decide +kernel
section
variable {prog:Program} {w:World} {A:Around} {E:Value→Shared→Prop} {s:Shared}
theorem unchainZ {ea ha:Addr} {Q:Value→Shared→Prop} (z:s.heap.Zat ha) (h:Q .none s):wpAny (model prog w) A (runValue (.builtin "proto.unchain" ⟨[.ref ea,.ref ha,.ref ha,.bool false],[]⟩)) Q E s:=by
 obtain ⟨o,ho,fs,hd,h2⟩:=z
 refine wpAny_runValue (codeAny_builtin entry_unchain ?_)
 rw [Around.under_plainId plain_unchain _]
 unfold Builtin.«proto.unchain»
 refine wpAny_bind (wpAny_field ho hd h2 ?_)
 rw [if_pos (by rfl)]
 refine wpAny_bind (wpAny_pure ?_)
 exact wpAny_pure h
theorem raiseNewZ {α:Type} {ea ha:Addr} {o:Obj} {fs:Array Value} {Q:α→Shared→Prop} (hh:A.handled=some (.ref ha)) (z:s.heap.Zat ha) (ne:ha ≠ ea) (he:s.heap.get? ea=some o) (hd:o.data=.fields fs) (hs:2 < fs.size)
  (h:E (.ref ea) { s with heap:=s.heap.update ea (Obj.mapFields (fun y=>y.setIfInBounds 2 (.ref ha))) }):wpAny (model prog w) A (raiseNew (.ref ea):Sem α) Q E s:=by
 unfold raiseNew
 refine wpAny_bind (wpAny_handled ?_)
 rw [hh]
 dsimp only
 rw [if_pos (by simpa using ne)]
 refine wpAny_bind (wpAny_holding (unchainZ z ?_))
 refine wpAny_bind ?_
 show wpAny _ _ (setField (.ref ea) 2 (.ref ha)) _ _ s
 exact wpAny_setField he hd hs (wpAny_throw h)
theorem rangeEndZ {it ha:Addr} {x left step:Int} {Q:Option Value→Shared→Prop} (hh:A.handled=some (.ref ha)) (z:s.heap.Zat ha) (hit:IsRangeIter s.heap it x left step) (hl:left≤0)
  (k:∀ h',Heap.ExtBut it s.heap h'→Q none { s with heap:=h' }):wpAny (model prog w) A (pyNext (.ref it)) Q E s:=by
 have ty:s.TypeIs (.ref it) "range_iterator":=⟨_,hit,rfl⟩
 have lta:ha < s.heap.objs.size:=let ⟨o,q,_⟩:=z; Heap.lt_size q
 unfold pyNext
 refine wpAny_bind (wpAny_attempt (wpAny_callSpecial?_slot (name:=Str.ofString "__next__") ty F.slot_range_iterator_next (wpAny_call_entry F.slot_range_iterator_next ty F.entry_range_iterator_next ?_ (F.args_range_iterator_next_1 _))))
 show wpAny _ _ (field (.ref it) 0 >>= _) _ _ s
 refine wpAny_bind (wpAny_field hit rfl (x:=rawInt x) rfl ?_)
 show wpAny _ _ (field (.ref it) 1 >>= _) _ _ s
 refine wpAny_bind (wpAny_field hit rfl (x:=rawInt left) rfl ?_)
 show wpAny _ _ (field (.ref it) 2 >>= _) _ _ s
 refine wpAny_bind (wpAny_field hit rfl (x:=rawInt step) rfl ?_)
 show wpAny _ _ (if left≤0 then _ else _) _ _ s
 rw [if_pos hl]
 refine wpAny_bind (wpAny_rule ?_)
 refine wpAny_bind ?_
 show wpAny _ _ (newExc (.type "StopIteration") [] >>= _) _ _ _
 refine wpAny_bind ?_
 simp only [newExc,newTuple]
 refine wpAny_bind (wpAny_newObj_type ?_ (by size_fits))
 refine wpAny_bind (m:=firstArgMember _ _) (wpAny_of_eq (a:=Value.none) (by first | rfl | (simp only [firstArgMember]; rfl)) ?_)
 refine wpAny_newObj_type ?_ (by size_fits)
 refine raiseNewZ (ha:=ha) (by first | exact hh | (show A.in1.handled=_; exact hh)) ?_ ?_ (Heap.get?_push_size _ rfl) rfl ?_ ?_
 ·obtain ⟨o,q,r⟩:=z
  exact ⟨o,Heap.get?_push_of_some _ (Heap.get?_push_of_some _ q),r⟩
 ·exact Nat.ne_of_lt (Nat.lt_of_lt_of_le lta (by rw [Heap.size_push]; exact Nat.le_succ _))
 ·rw [Array.size_append]; exact Nat.lt_of_lt_of_le (show 2 < 6 by decide) (Nat.le_add_right _ _)
 ·dsimp only
  generalize hfn:Obj.mapFields (fun y=>y.setIfInBounds 2 (Value.ref ha))=fn
  generalize hg:s.heap.push { cls:=Value.type "tuple",data:=Data.seq #[] }=g
  generalize hex:({ cls:=Value.type "StopIteration",data:=Data.fields (#[Value.ref s.heap.objs.size,Value.none,Value.none,Value.none,Value.bool false,Value.none] ++ ownMembersOf (Value.type "StopIteration") []) }:Obj)=ex
  have c0:ex.cls=.type "StopIteration":=by rw [← hex]
  have d0:∃ fs,ex.data=.fields fs:=⟨_,by rw [← hex]⟩
  obtain ⟨fs,d0⟩:=d0
  have p0:(g.push ex).get? g.objs.size=some ex:=Heap.get?_push_size g (Obj.isFreed_of_fields d0)
  have d1:(fn ex).data=.fields (fs.setIfInBounds 2 (.ref ha)):=by rw [← hfn]; exact Obj.data_mapFields d0 _
  have c1:(fn ex).cls=.type "StopIteration":=by rw [← hfn]; exact (Obj.cls_mapFields _ _).trans c0
  have e1:((g.push ex).update g.objs.size fn).get? g.objs.size=some (fn ex):=Heap.get?_update_self fn p0 (Obj.isFreed_of_fields d1)
  refine wpAny_bind (wpAny_isInstance (T:="StopIteration") (b:=true) ⟨fn ex,e1,c1⟩ isSubtype_stop ?_)
  refine wpAny_pure (k _ fun b o _ q=>?_)
  have q1:g.get? b=some o:=by rw [← hg]; exact Heap.get?_push_of_some _ q
  rw [Heap.get?_update_other (g.push ex) fn (Nat.ne_of_gt (Heap.lt_size q1))]
  exact Heap.get?_push_of_some ex q1
end
end PySem
namespace L2
open PySem PySem.Spec PyProof.Rows
noncomputable abbrev Key:=Sum Int Str
noncomputable def keyIs:Key→Value→Bool
 | .inl k,v=>Value.isInt k v
 | .inr x,v=>Value.isStrOf x v
noncomputable def keyH (w:World):Key→Int
 | .inl k=>hashInt k
 | .inr x=>hashStr w x
theorem keyIs_shape:∀ {k:Key} {v:Value},keyIs k v=true→(∃ i t,k=Sum.inl i∧v=Value.int i t) ∨ (∃ x t,k=Sum.inr x∧v=Value.str x t)
 | .inl i,v,h=>by
  obtain ⟨t,e⟩:=Value.isInt_shape (k:=i) (v:=v) h
  exact .inl ⟨i,t,rfl,e⟩
 | .inr x,v,h=>by
  obtain ⟨t,e⟩:=Value.isStrOf_shape (x:=x) (v:=v) h
  exact .inr ⟨x,t,rfl,e⟩
theorem keyIs_int (i:Int) (t:Tok):keyIs (.inl i) (.int i t)=true:=by simp [keyIs,Value.isInt]
theorem keyIs_str (x:Str) (t:Tok):keyIs (.inr x) (.str x t)=true:=by simp [keyIs,Value.isStrOf]
theorem key_ll (a b:Int):decide ((Sum.inl a:Key)=Sum.inl b)=(a == b):=by
 by_cases e:a=b
 ·subst e; simp
 ·have h:¬ (Sum.inl a:Key)=Sum.inl b:=fun q=>e (Sum.inl.inj q)
  rw [decide_eq_false h]
  exact (beq_eq_false_iff_ne.mpr e).symm
theorem key_rr (a b:Str):decide ((Sum.inr a:Key)=Sum.inr b)=decide (a=b):=by
 by_cases e:a=b
 ·subst e; simp
 ·have h:¬ (Sum.inr a:Key)=Sum.inr b:=fun q=>e (Sum.inr.inj q)
  rw [decide_eq_false h,decide_eq_false e]
theorem key_lr (a:Int) (b:Str):decide ((Sum.inl a:Key)=Sum.inr b)=false:=decide_eq_false (fun q=>nomatch q)
theorem key_rl (a:Str) (b:Int):decide ((Sum.inr a:Key)=Sum.inl b)=false:=decide_eq_false (fun q=>nomatch q)
noncomputable def mixKind (prog:Program) (w:World):PySem.KeyKind prog w Key where
 is:=keyIs
 hash:=keyH w
 inj:=fun v a b ha hb=>by
  rcases keyIs_shape ha with ⟨i,t,rfl,rfl⟩ | ⟨x,t,rfl,rfl⟩
  ·rcases keyIs_shape hb with ⟨j,u,rfl,e⟩ | ⟨y,u,rfl,e⟩
   ·injection e with e1 _; rw [e1]
   ·exact nomatch e
  ·rcases keyIs_shape hb with ⟨j,u,rfl,e⟩ | ⟨y,u,rfl,e⟩
   ·exact nomatch e
   ·injection e with e1 _; rw [e1]
 byValue:=fun k v h=>by
  rcases keyIs_shape h with ⟨i,t,rfl,rfl⟩ | ⟨x,t,rfl,rfl⟩ <;> rfl
 pyHash:=fun hv h=>by
  rcases keyIs_shape hv with ⟨i,t,rfl,rfl⟩ | ⟨x,t,rfl,rfl⟩
  ·exact wpAny_pyHash_int h
  ·exact wpAny_pyHash_str h
 eqBool:=fun hu hv h=>by
  rcases keyIs_shape hu with ⟨i,t,rfl,rfl⟩ | ⟨x,t,rfl,rfl⟩
  ·rcases keyIs_shape hv with ⟨j,u,rfl,rfl⟩ | ⟨y,u,rfl,rfl⟩
   ·rw [key_ll] at h; exact wpAny_eqBool_int h
   ·rw [key_lr] at h; exact SeqAt.EqAt.int_str i t y u _ _ _ _ h
  ·rcases keyIs_shape hv with ⟨j,u,rfl,rfl⟩ | ⟨y,u,rfl,rfl⟩
   ·rw [key_rl] at h; exact SeqAt.EqAt.str_int x t j u _ _ _ _ h
   ·rw [key_rr] at h; exact wpAny_eqBool_str h
 «strs»:=fun k x t v h=>by
  rcases keyIs_shape h with ⟨i,u,rfl,e⟩ | ⟨y,u,rfl,e⟩
  ·exact nomatch e
  ·injection e with e1 _
   subst e1
   cases v <;> rfl
theorem mixKind_is (prog:Program) (w:World) (k:Key) (v:Value):(mixKind prog w).is k v=keyIs k v:=rfl
theorem mixKind_int (prog:Program) (w:World) (i:Int) (t:Tok):(mixKind prog w).is (.inl i) (.int i t)=true:=keyIs_int i t
theorem mixKind_str (prog:Program) (w:World) (x:Str) (t:Tok):(mixKind prog w).is (.inr x) (.str x t)=true:=keyIs_str x t
end L2
namespace L2
open PySem PySem.Spec PyProof.Rows
inductive V where
 | non | bl (b:Bool) | int (i:Int) | str (x:Str) | byt (b:Array UInt8) | flt (b:UInt64) | ref (a:Addr) | ty (n:String)
 deriving DecidableEq
noncomputable def RelV:V→Value→Prop
 | .non,u=>u=Value.none
 | .bl b,u=>u=Value.bool b
 | .int i,u=>∃ t,u=Value.int i t
 | .str x,u=>∃ t,u=Value.str x t
 | .byt b,u=>∃ t,u=Value.bytes b t
 | .flt b,u=>∃ t,u=Value.float b t
 | .ref a,u=>u=Value.ref a
 | .ty n,u=>u=Value.type n
noncomputable abbrev Vals:List V→List Value→Prop:=Paired RelV
theorem Vals.length {xs:List V} {us:List Value} (r:Vals xs us):xs.length=us.length:=Paired.length r
theorem Vals.get:∀ {xs:List V} {us:List Value} {i:Nat} {x:V},Vals xs us→xs[i]?=some x→∃ u,us[i]?=some u∧RelV x u
 | _,_,_,_,.nil,e=>by simp at e
 | _,_,0,_,.cons r _,e=>by simp at e; subst e; exact ⟨_,rfl,r⟩
 | _,_,i + 1,x,.cons _ t,e=>by
  obtain ⟨u,h1,h2⟩:=Vals.get (i:=i) (x:=x) t (by simpa using e)
  exact ⟨u,by simpa using h1,h2⟩
theorem Vals.set {x:V} {u:Value} (r:RelV x u):∀ {xs:List V} {us:List Value} (i:Nat),Vals xs us→Vals (xs.set i x) (us.set i u)
 | _,_,_,.nil=>.nil
 | _,_,0,.cons _ t=>.cons r t
 | _,_,i + 1,.cons q t=>.cons q (Vals.set r i t)
theorem Vals.append:∀ {xs ys:List V} {us ws:List Value},Vals xs us→Vals ys ws→Vals (xs ++ ys) (us ++ ws)
 | _,_,_,_,.nil,s=>s
 | _,_,_,_,.cons r t,s=>.cons r (Vals.append t s)
theorem Vals.take:∀ {xs:List V} {us:List Value} (n:Nat),Vals xs us→Vals (xs.take n) (us.take n)
 | _,_,0,_=>.nil
 | _,_,_ + 1,.nil=>.nil
 | _,_,n + 1,.cons r t=>.cons r (Vals.take n t)
theorem Vals.drop:∀ {xs:List V} {us:List Value} (n:Nat),Vals xs us→Vals (xs.drop n) (us.drop n)
 | _,_,0,r=>r
 | _,_,_ + 1,.nil=>.nil
 | _,_,n + 1,.cons _ t=>Vals.drop n t
noncomputable def RelO:Option V→Option Value→Prop
 | some v,some u=>RelV v u
 | none,none=>True
 | _,_=>False
noncomputable def KV {κ:Type}:List (κ × V)→List (κ × Value)→Prop:=Paired fun (p:κ × V) (q:κ × Value)=>p.1=q.1∧RelV p.2 q.2
noncomputable def kV:Key→V
 | .inl i=>.int i
 | .inr x=>.str x
set_option genInjectivity false in
inductive HO where
 /-- a list -/
 | lst (xs:List V)
 /-- a tuple (never changes) -/
 | tup (xs:List V)
 /-- a dict whose keys are ints and texts; one whose keys are tuples of ints and texts (the empty one is both) -/
 | dK (kvs:List (Key × V)) | dT (kvs:List (List Key × V))
 /-- a set of ints: its members,its size -/
 | set (S:Int→Bool) (n:Nat)
 /-- an instance of the class at C,its dict at dx,its attributes -/
 | ins (C dx:Addr) (fs:List (Str × V))
 /-- the dict of the instance at x -/
 | own (x:Addr)
 /-- the dict of an exception -/
 | xd (fs:List (Str × V))
 /-- a bound method,f of x -/
 | met (f x:Addr)
 /-- a range object lo,lo + 1,.. below hi -/
 | rng (lo hi:Int)
 /-- a thing that is known to the object (the script; a dict while a loop walks it): read,never written while it is so -/
 | frz (o:Obj) (u:HO)
 /-- a code object's table -/
 | tbl (ps:Array Value)
 /-- any other thing,by what is true of its one object (a def of one's own: SetO a S n:=HO.ext fun h=>..) -/
 | ext (φ:Heap→Prop)
noncomputable abbrev Hp:=Addr→Option HO
noncomputable def upd (H:Hp) (a:Addr) (o:HO):Hp:=fun b=>if b=a then some o else H b
theorem upd_same {H:Hp} {a:Addr} {o:HO}:upd H a o a=some o:=by unfold upd; rw [if_pos rfl]
theorem upd_ne {H:Hp} {a b:Addr} {o:HO} (h:b ≠ a):upd H a o b=H b:=by unfold upd; rw [if_neg h]
theorem ne_of {H:Hp} {a b:Addr} {o u:HO} (h:H a=some o) (h':H b=some u) (d:o ≠ u):a ≠ b:=by
 intro e; subst e; rw [h] at h'; exact d (Option.some.inj h')
theorem ne_of_none {H:Hp} {a b:Addr} {o:HO} (h:H a=some o) (h':H b=none):a ≠ b:=by
 intro e; subst e; rw [h] at h'; cases h'
section
variable (P:Program) (w:World)
noncomputable def ObjOk (H:Hp) (h:Heap) (a:Addr):HO→Prop
 | .lst xs=>xs.length≤sizeLine∧∃ (its:List Value) (n:Nat),Vals xs its∧h.get? a=some { cls:=.type "list",data:=.seq its.toArray n }
 | .tup xs=>xs.length≤sizeLine∧∃ its:List Value,Vals xs its∧IsTup h a its.toArray
 | .dK kvs=>kvs.length≤sizeLine∧(a == sysModules)=false∧∃ vs,KV kvs vs∧h.DictOf (mixKind P w) a vs
 | .dT kvs=>kvs.length≤sizeLine∧(a == sysModules)=false∧∃ xs:List (List Key × Addr × Value),
   Paired (fun (p:List Key × V) (q:List Key × Addr × Value)=>p.1=q.1∧H q.2.1=some (.tup (p.1.map kV))∧RelV p.2 q.2.2) kvs xs∧
   ∃ o es ep,h.get? a=some o∧o.ExactDict∧o.data=.dict es ep∧es.toList=xs.map (entryOfKey (tupleKind (mixKind P w)))∧(xs.map (·.1)).Nodup
 | .set S n=>h.SetOf (intKind P w) a S n
 | .ins C dx fs=>H dx=some (.own a)∧fs.length≤1000∧dx ≠ a∧h.get? a=some (PySem.W.instObj C dx)∧
   ∃ mA,h.Ns1 dx mA∧(∀ f,RelO (fs.lookup f) (mA f))∧PySem.Within mA (fs.map (·.1))
 | .own _=>∃ o,h.get? a=some o
 | .xd fs=>∃ mA,h.Ns1 a mA∧∀ f,RelO (fs.lookup f) (mA f)
 | .rng lo hi=>∃ t u v,h.get? a=some { cls:=.type "range",data:=.fields #[.int lo t,.int hi u,.int 1 v] }
 | .frz o u=>h.get? a=some o∧ObjOk H h a u
 | .tbl ps=>h.get? a=some { cls:=.none,data:=.fields ps }
 | .met f x=>h.get? a=some (PySem.W.methodObj (.ref f) (.ref x))
 | .ext φ=>φ h∧(∃ o,h.get? a=some o)∧∀ h1 h2:Heap,φ h1→(∀ o,h1.get? a=some o→h2.get? a=some o)→φ h2
noncomputable def HOk (H:Hp) (h:Heap):Prop:=∀ a o,H a=some o→ObjOk P w H h a o
end
section
variable {P:Program} {w:World} {H H':Hp} {h h':Heap} {a:Addr} {o:HO}
theorem ObjOk.lt (x:ObjOk P w H h a o):a < h.objs.size:=by
 cases o with
 | lst xs=>obtain ⟨_,_,_,_,e⟩:=x; exact Heap.lt_size e
 | tup xs=>obtain ⟨_,_,_,p⟩:=x; exact p.lt
 | dK kvs=>obtain ⟨_,_,_,_,o,_,_,e,_⟩:=x; exact Heap.lt_size e
 | dT kvs=>obtain ⟨_,_,_,_,o,_,_,e,_⟩:=x; exact Heap.lt_size e
 | set S n=>obtain ⟨o,_,_,_,e,_⟩:=x; exact Heap.lt_size e
 | ins C dx fs=>obtain ⟨_,_,_,e,_⟩:=x; exact Heap.lt_size e
 | own y=>obtain ⟨_,e⟩:=x; exact Heap.lt_size e
 | xd fs=>obtain ⟨_,⟨_,_,_,e,_⟩,_⟩:=x; exact Heap.lt_size e
 | rng lo hi=>obtain ⟨_,_,_,e⟩:=x; exact Heap.lt_size e
 | frz ob u=>obtain ⟨e,_⟩:=x; exact Heap.lt_size e
 | tbl ps=>exact Heap.lt_size (show h.get? a=some _ from x)
 | met f y=>exact Heap.lt_size (show h.get? a=some _ from x)
 | ext φ=>obtain ⟨_,⟨_,e⟩,_⟩:=x; exact Heap.lt_size e
theorem Paired.mapP {α β:Type} {F G:α→β→Prop}:∀ {l₁:List α} {l₂:List β},Paired F l₁ l₂→(∀ a b,F a b→G a b)→Paired G l₁ l₂
 | _,_,.nil,_=>.nil
 | _,_,.cons r t,f=>.cons (f _ _ r) (Paired.mapP t f)
theorem ObjOk.stay (x:ObjOk P w H h a o) (k:∀ b u,(b=a ∨ H b=some (.own a))→h.get? b=some u→h'.get? b=some u)
  (ho:∀ b,H b=some (.own a)→H' b=some (.own a)) (ht:∀ b xs,H b=some (.tup xs)→H' b=some (.tup xs)):ObjOk P w H' h' a o:=by
 induction o with
 | lst xs=>obtain ⟨z,its,n,r,e⟩:=x; exact ⟨z,its,n,r,k _ _ (.inl rfl) e⟩
 | tup xs=>obtain ⟨z,its,r,ob,e,c⟩:=x; exact ⟨z,its,r,ob,k _ _ (.inl rfl) e,c⟩
 | dK kvs=>obtain ⟨z,y,vs,r,ob,es,ep,e,c⟩:=x; exact ⟨z,y,vs,r,ob,es,ep,k _ _ (.inl rfl) e,c⟩
 | dT kvs=>
  obtain ⟨z,y,xs,r,ob,es,ep,e,c⟩:=x
  exact ⟨z,y,xs,Paired.mapP r fun p q z=>⟨z.1,ht _ _ z.2.1,z.2.2⟩,ob,es,ep,k _ _ (.inl rfl) e,c⟩
 | set S n=>obtain ⟨ob,es,ep,t,e,c⟩:=x; exact ⟨ob,es,ep,t,k _ _ (.inl rfl) e,c⟩
 | ins C dx fs=>
  obtain ⟨d,z,ne,e,mA,⟨od,es,ep,e2,c⟩,r⟩:=x
  exact ⟨ho _ d,z,ne,k _ _ (.inl rfl) e,mA,⟨od,es,ep,k _ _ (.inr d) e2,c⟩,r⟩
 | own y=>obtain ⟨ob,e⟩:=x; exact ⟨ob,k _ _ (.inl rfl) e⟩
 | xd fs=>obtain ⟨mA,⟨od,es,ep,e,c⟩,r⟩:=x; exact ⟨mA,⟨od,es,ep,k _ _ (.inl rfl) e,c⟩,r⟩
 | rng lo hi=>obtain ⟨t,u,v,e⟩:=x; exact ⟨t,u,v,k _ _ (.inl rfl) e⟩
 | frz ob u ih=>obtain ⟨e,q⟩:=x; exact ⟨k _ _ (.inl rfl) e,ih q⟩
 | tbl ps=>
  have e:h.get? a=some { cls:=.none,data:=.fields ps }:=x
  show h'.get? a=some { cls:=.none,data:=.fields ps }
  exact k a _ (.inl rfl) e
 | met f y=>
  have e:h.get? a=some (PySem.W.methodObj (.ref f) (.ref y)):=x
  show h'.get? a=some (PySem.W.methodObj (.ref f) (.ref y))
  exact k a _ (.inl rfl) e
 | ext φ=>obtain ⟨p,⟨o,e⟩,st⟩:=x; exact ⟨st _ _ p fun o q=>k _ _ (.inl rfl) q,⟨o,k _ _ (.inl rfl) e⟩,st⟩
theorem HOk.lt (x:HOk P w H h) (e:H a=some o):a < h.objs.size:=(x a o e).lt
theorem HOk.fresh (x:HOk P w H h) (e:h.objs.size≤a):H a=none:=by
 cases q:H a with
 | none=>rfl
 | some u=>exact absurd (Nat.lt_of_lt_of_le (x.lt q) e) (Nat.lt_irrefl _)
theorem HOk.kept (x:HOk P w H h) (k:∀ b u,h.get? b=some u→h'.get? b=some u):HOk P w H h':=fun a o e=>
 (x a o e).stay (fun b u _ q=>k b u q) (fun _ q=>q) fun _ _ q=>q
theorem HOk.laid (x:HOk P w H h) (k:∀ b u,h.get? b=some u→h'.get? b=some u) (hp:h.objs.size≤a) (new:ObjOk P w (upd H a o) h' a o):HOk P w (upd H a o) h':=fun b u e=>by
 have hn:=x.fresh hp
 by_cases hb:b=a
 ·subst hb; rw [upd_same] at e; cases e; exact new
 ·rw [upd_ne hb] at e
  exact (x b u e).stay (fun c v _ q=>k c v q) (fun c q=>by rw [upd_ne (ne_of_none q hn)]; exact q) fun c xs q=>by rw [upd_ne (ne_of_none q hn)]; exact q
end
noncomputable def Rd (H:Hp) (a:Addr) (u:HO):Prop:=H a=some u ∨ ∃ o,H a=some (.frz o u)
theorem Rd.ok {P:Program} {w:World} {H:Hp} {h:Heap} {a:Addr} {u:HO} (r:Rd H a u) (x:HOk P w H h):ObjOk P w H h a u:=by
 rcases r with r | ⟨o,r⟩
 ·exact x a u r
 ·obtain ⟨_,q⟩:=x a _ r
  exact q
noncomputable def Mut:Option HO→Prop
 | some (.lst _)=>True
 | some (.dK _)=>True
 | some (.dT _)=>True
 | some (.set _ _)=>True
 | some (.ins _ _ _)=>True
 | some (.ext _)=>True
 | _=>False
section
variable {P:Program} {w:World} {H:Hp} {h h':Heap} {x e:Addr} {o':HO}
theorem HOk.write (ok:HOk P w H h) (mu:Mut (H x)) (he:e=x ∨ H e=some (.own x)) (k:∀ b u,b ≠ e→h.get? b=some u→h'.get? b=some u) (heo:∃ u,h'.get? e=some u)
  (new:ObjOk P w (upd H x o') h' x o'):HOk P w (upd H x o') h':=fun b u q=>by
 have nown:∀ c y,H c=some (.own y)→c ≠ x:=fun c y r z=>by subst z; rw [r] at mu; exact mu
 have ntup:∀ c xs,H c=some (.tup xs)→c ≠ x:=fun c xs r z=>by subst z; rw [r] at mu; exact mu
 by_cases hb:b=x
 ·subst hb; rw [upd_same] at q; cases q; exact new
 ·rw [upd_ne hb] at q
  by_cases hbe:b=e
  ·have q':H b=some (.own x):=by
    rcases he with z | z
    ·exact absurd (hbe.trans z) hb
    ·rw [hbe]; exact z
   rw [q] at q'; cases q'
   obtain ⟨v,hv⟩:=heo
   exact ⟨v,by rw [hbe]; exact hv⟩
  ·refine (ok b u q).stay (fun c v hc r=>k c v ?_ r) (fun c r=>by rw [upd_ne (nown c b r)]; exact r) fun c xs r=>by rw [upd_ne (ntup c xs r)]; exact r
   rcases hc with rfl | hc
   ·exact hbe
   ·rintro rfl
    rcases he with z | z
    ·exact nown c b hc z
    ·rw [hc] at z; cases z; exact hb rfl
end
structure Un (fs ex:List Addr) (H H':Hp) (h h':Heap):Prop where
 keep:∀ b o,h.get? b=some o→H b=none→b ∉ fs→b ∉ ex→h'.get? b=some o
 slot:∀ b o,h.get? b=some o→H b=none→b ∈ fs→b ∉ ex→∃ sl,h'.get? b=some { o with slots:=sl }
 free:∀ b o,h.get? b=some o→H b=none→b ∉ ex→H' b=none
 there:∀ b o,h.get? b=some o→b ∉ ex→∃ o',h'.get? b=some o'
 tups:∀ b xs,H b=some (.tup xs)→H' b=some (.tup xs)
 frzs:∀ b o u,H b=some (.frz o u)→H' b=some (.frz o u)
 tbls:∀ b ps,H b=some (.tbl ps)→∃ more,H' b=some (.tbl (ps ++ more))
section
variable {fs fs' ex ex':List Addr} {H H1 H2:Hp} {h h1 h2 h':Heap} {a x e:Addr} {o:HO}
theorem Un.any (u:Un fs ex H H1 h h1) {b:Addr} {ob:Obj} (q:h.get? b=some ob) (n:H b=none) (hx:b ∉ ex):∃ sl,h1.get? b=some { ob with slots:=sl }:=by
 by_cases hb:b ∈ fs
 ·exact u.slot b ob q n hb hx
 ·exact ⟨ob.slots,u.keep b ob q n hb hx⟩
theorem Un.trans (a:Un fs ex H H1 h h1) (b:Un fs ex H1 H2 h1 h2):Un fs ex H H2 h h2 where
 keep:=fun c ob q n hc hx=>b.keep c ob (a.keep c ob q n hc hx) (a.free c ob q n hx) hc hx
 slot:=fun c ob q n hc hx=>by
  obtain ⟨sl,e1⟩:=a.slot c ob q n hc hx
  obtain ⟨sl',e2⟩:=b.slot c _ e1 (a.free c ob q n hx) hc hx
  exact ⟨sl',e2⟩
 free:=fun c ob q n hx=>by
  obtain ⟨o',e1⟩:=a.there c ob q hx
  exact b.free c o' e1 (a.free c ob q n hx) hx
 there:=fun c ob q hx=>by
  obtain ⟨o',e1⟩:=a.there c ob q hx
  exact b.there c o' e1 hx
 tups:=fun c xs q=>b.tups c xs (a.tups c xs q)
 frzs:=fun c ob xs q=>b.frzs c ob xs (a.frzs c ob xs q)
 tbls:=fun c ps q=>by
  obtain ⟨m1,e1⟩:=a.tbls c ps q
  obtain ⟨m2,e2⟩:=b.tbls c _ e1
  exact ⟨m1 ++ m2,by rw [e2,Array.append_assoc]⟩
theorem Un.kept (k:∀ b u,h.get? b=some u→h'.get? b=some u):Un fs ex H H h h':=
 ⟨fun b ob q _ _ _=>k b ob q,fun b ob q _ _ _=>⟨ob.slots,k b ob q⟩,fun _ _ _ n _=>n,fun b ob q _=>⟨ob,k b ob q⟩,fun _ _ q=>q,fun _ _ _ q=>q,fun _ ps q=>⟨#[],by rw [q]; simp⟩⟩
theorem Un.refl:Un fs ex H H h h:=Un.kept fun _ _ q=>q
theorem Un.laid (k:∀ b u,h.get? b=some u→h'.get? b=some u) (hp:h.objs.size≤a) (hn:H a=none):Un fs ex H (upd H a o) h h' where
 keep:=fun b u q _ _ _=>k b u q
 slot:=fun b u q _ _ _=>⟨u.slots,k b u q⟩
 free:=fun b u q n _=>by rw [upd_ne (Nat.ne_of_lt (Nat.lt_of_lt_of_le (Heap.lt_size q) hp))]; exact n
 there:=fun b u q _=>⟨u,k b u q⟩
 tups:=fun b xs q=>by rw [upd_ne (ne_of_none q hn)]; exact q
 frzs:=fun b u xs q=>by rw [upd_ne (ne_of_none q hn)]; exact q
 tbls:=fun b ps q=>⟨#[],by rw [upd_ne (ne_of_none q hn),q]; simp⟩
theorem Un.write (mu:Mut (H x)) (he:e=x ∨ H e=some (.own x)) (k:∀ b u,b ≠ e→h.get? b=some u→h'.get? b=some u) (heo:∃ u,h'.get? e=some u):Un fs ex H (upd H x o) h h':=by
 have hx:∀ b,H b=none→b ≠ x:=fun b n z=>by subst z; rw [n] at mu; exact mu
 have hb:∀ b,H b=none→b ≠ e:=fun b n z=>by
  subst z
  rcases he with r | r
  ·exact hx b n r
  ·rw [n] at r; cases r
 have hm:∀ b u,H b=some u→¬ Mut (some u)→b ≠ x:=fun b u q nm z=>by subst z; rw [q] at mu; exact nm mu
 refine ⟨fun b u q n _ _=>k b u (hb b n) q,fun b u q n _ _=>⟨u.slots,k b u (hb b n) q⟩,fun b u q n _=>by rw [upd_ne (hx b n)]; exact n,fun b u q _=>?_,
  fun b xs q=>by rw [upd_ne (hm b _ q fun z=>z)]; exact q,fun b u xs q=>by rw [upd_ne (hm b _ q fun z=>z)]; exact q,fun b ps q=>⟨#[],by rw [upd_ne (hm b _ q fun z=>z),q]; simp⟩⟩
 by_cases hbe:b=e
 ·subst hbe; exact heo
 ·exact ⟨u,k b u hbe q⟩
end
noncomputable def trk (h:Heap) (H:Hp):List Addr:=(List.range h.objs.size).filter fun a=>(H a).isSome
noncomputable def hidT (h:Heap) (H:Hp):Heap:=PySem.W.hideAll h (trk h H)
theorem hidT_size (h:Heap) (H:Hp):(hidT h H).objs.size=h.objs.size:=PySem.W.hideAll_size _ _
theorem hidT_get {h:Heap} {H:Hp} {b:Addr} {o:Obj} (e:h.get? b=some o) (n:H b=none):(hidT h H).get? b=some o:=
 PySem.W.hideAll_get _ e fun hm=>by
  have q:(H b).isSome=true:=(List.mem_filter.mp hm).2
  rw [n] at q; simp at q
theorem of_hidT {h:Heap} {H:Hp} {b:Addr} {o:Obj} (e:(hidT h H).get? b=some o):h.get? b=some o∧H b=none:=by
 have e':h.get? b=some o:=PySem.W.of_hideAll (trk h H) e
 refine ⟨e',?_⟩
 cases q:H b with
 | none=>rfl
 | some x=>
  have hm:b ∈ trk h H:=List.mem_filter.mpr ⟨List.mem_range.mpr (Heap.lt_size e'),by simp [q]⟩
  have z:(hidT h H).get? b=none:=PySem.W.hideAll_none (trk h H) hm
  rw [z] at e; cases e
end L2
namespace L2
open PySem PySem.Spec PyProof.Rows
structure Mod (K:PySem.W.Frag) (mg:Str→Option Value) (base:Heap):Prop where
 kin:K.In base
 glob:base.Ns mainGlobals mg
 blt:∃ mb,base.Ns builtinsNs mb∧∀ x:Str,x ≠ "__name__"→mb x=bootBuiltins x
 nolimit:base.NoLimit
structure Cx where
 prog:Program
 w:World
 K:PySem.W.Frag
 mg:Str→Option Value
 base:Heap
 A:Around
 N:List Str
 s₀:Shared
 H₀:Hp
 env:Env
 outer:List Env
 stack:List Env
 ex:List Addr
 fn:Str→Bool
 calm:Bool
 pn:List (Addr × Obj)
 xe:Value→Shared→Prop
noncomputable def frs (l:List Env):List Addr:=l.filterMap (·.frame)
noncomputable abbrev Cx.fs (X:Cx):List Addr:=frs X.outer
noncomputable def Vis (sc:Scope) (x:Str):Prop:=sc.names.lookup x=some .local ∨ sc.names.lookup x=some .cell ∨ sc.names.lookup x=some .free
noncomputable def Loc (sc:Scope) (x:Str):Prop:=sc.names.lookup x=some .local ∨ sc.names.lookup x=some .cell
noncomputable def Look (env:Env) (h:Heap) (m:Str→Option Value) (x:Str) (u:Value):Prop:=
 (env.kindOf x=some .local∧m x=some u) ∨ ((env.kindOf x=some .cell ∨ env.kindOf x=some .free)∧∃ c,env.cells.lookup x=some c∧h.IsCell c (some u))
structure Cx.Ok (X:Cx):Prop where
 mod:Mod X.K X.mg X.base
 kind:X.env.scope.kind=.function
 glob:X.env.globals=mainGlobals
 blt:X.env.builtins=builtinsNs
 above:X.s₀.heap.objs.size≤X.env.locals
 inj:∀ x y c,X.env.cells.lookup x=some c→X.env.cells.lookup y=some c→x=y
 has:∀ x,(X.env.kindOf x=some .cell ∨ X.env.kindOf x=some .free)→∃ c,X.env.cells.lookup x=some c
 cab:∀ x c,X.fn x=true→X.env.cells.lookup x=some c→X.s₀.heap.objs.size≤c
 hd:X.calm=true→X.A.handled=none
 frames:X.A.frames=some X.stack
 stk:X.stack=X.outer ∨ (X.stack=X.env :: X.outer∧X.env.frame=some X.env.locals)
 exf:∀ b ∈ X.ex,b ≠ X.env.locals∧∀ x c,X.env.cells.lookup x=some c→c ≠ b
 bs:∀ b o,X.base.get? b=some o→X.s₀.heap.get? b=some o∧X.H₀ b=none
 bsz:X.base.objs.size≤X.s₀.heap.objs.size
 noex:∀ b o,X.base.get? b=some o→b ∉ X.ex
 exfs:∀ b ∈ X.ex,b ∉ X.fs
 funs:X.s₀.heap.FunFrames X.base X.outer
 frf:∀ b ∈ X.fs,X.H₀ b=none
structure Inv (X:Cx) (pins:List (Addr × Obj)) (σ:List (Option V)) (H:Hp) (s:Shared):Prop where
 ok:X.Ok
 os:s.os=X.s₀.os
 bare:AllBare s.gens
 base:Un X.fs X.ex X.H₀ H X.s₀.heap s.heap
 loc:∃ m,s.heap.Ns X.env.locals m∧∀ (i:Nat) (x:Str) (v:V),X.N[i]?=some x→σ[i]?=some (some v)→Vis X.env.scope x→∃ u,RelV v u∧Look X.env s.heap m x u
 cell:∀ x c,X.env.cells.lookup x=some c→∃ v,s.heap.IsCell c v
 free:H X.env.locals=none
 freeC:∀ x c,X.env.cells.lookup x=some c→H c=none
 pin:∀ p ∈ X.pn ++ pins,s.heap.get? p.1=some p.2∧H p.1=none∧p.1 ≠ X.env.locals∧p.1 ∉ X.fs∧∀ v,p.2.data ≠ .cell v
 hok:HOk X.prog X.w H s.heap
 len:σ.length=X.N.length
section
variable {X:Cx} {pins:List (Addr × Obj)} {σ:List (Option V)} {H H':Hp} {s:Shared} {h':Heap}
theorem Cx.Ok.nofr (ok:X.Ok) {b:Addr} {o:Obj} (e:X.base.get? b=some o):b ∉ X.fs:=fun hb=>by
 have:=(ok.funs.mem hb).1
 rw [e] at this; cases this
theorem Inv.bs (I:Inv X pins σ H s):∀ b o,X.base.get? b=some o→s.heap.get? b=some o∧H b=none:=fun b o e=>
 ⟨I.base.keep b o (I.ok.bs b o e).1 (I.ok.bs b o e).2 (I.ok.nofr e) (I.ok.noex b o e),I.base.free b o (I.ok.bs b o e).1 (I.ok.bs b o e).2 (I.ok.noex b o e)⟩
theorem Inv.bk (I:Inv X pins σ H s):∀ b o,X.base.get? b=some o→s.heap.get? b=some o:=fun b o e=>(I.bs b o e).1
theorem Inv.mod (I:Inv X pins σ H s):Mod X.K X.mg X.base:=I.ok.mod
theorem Inv.kIn (I:Inv X pins σ H s):X.K.In s.heap:=I.ok.mod.kin.keeps I.bk
theorem Inv.lt (I:Inv X pins σ H s):X.env.locals < s.heap.objs.size:=let ⟨_,hn,_⟩:=I.loc; hn.lt
theorem Inv.sz (I:Inv X pins σ H s):X.s₀.heap.objs.size≤s.heap.objs.size:=Nat.le_trans I.ok.above (Nat.le_of_lt I.lt)
theorem Inv.nofs (I:Inv X pins σ H s) {a:Addr} (h:s.heap.objs.size≤a):a ∉ X.fs:=fun hb=>by
 obtain ⟨_,o,ho,_⟩:=I.ok.funs.mem hb
 exact absurd (Nat.lt_of_lt_of_le (Heap.lt_size ho) (Nat.le_trans I.sz h)) (Nat.lt_irrefl _)
theorem Inv.cne (I:Inv X pins σ H s):∀ x c,X.env.cells.lookup x=some c→c ≠ X.env.locals:=fun x c e z=>by
 obtain ⟨v,o,ho,hd⟩:=I.cell x c e
 obtain ⟨m,⟨o',es,ep,ho',hd',_⟩,_⟩:=I.loc
 rw [z,ho'] at ho; cases ho; rw [hd'] at hd; cases hd
theorem Inv.funs (I:Inv X pins σ H s):s.heap.FunFrames X.base X.outer:=by
 have all:∀ (l:List Env),(∀ b ∈ frs l,b ∈ X.fs)→X.s₀.heap.FunFrames X.base l→s.heap.FunFrames X.base l:=by
  intro l
  induction l with
  | nil=>intro _ _; trivial
  | cons env r ih=>
   intro hs hl
   obtain ⟨hk,⟨L,o,hf,hn,ho,hd⟩,hr⟩:=hl
   have hL:L ∈ X.fs:=hs L (by unfold frs; rw [List.filterMap_cons,hf]; exact List.mem_cons_self)
   obtain ⟨sl,e⟩:=I.base.slot L o ho (I.ok.frf L hL) hL fun z=>I.ok.exfs L z hL
   exact ⟨hk,⟨L,_,hf,hn,e,hd⟩,ih (fun b hb=>hs b (by unfold frs; rw [List.filterMap_cons,hf]; exact List.mem_cons_of_mem _ hb)) hr⟩
 exact all X.outer (fun _ hb=>hb) I.ok.funs
theorem Inv.stack (I:Inv X pins σ H s):s.heap.FunFrames X.base X.stack:=by
 rcases I.ok.stk with e | ⟨e,hf⟩
 ·rw [e]; exact I.funs
 ·rw [e]
  obtain ⟨m,hn,_⟩:=I.loc
  refine .cons (by rw [I.ok.kind]; decide) hf hn ?_ I.funs
  exact Heap.get?_none_of_le (Nat.le_trans I.ok.bsz I.ok.above)
theorem Inv.stkSub (I:Inv X pins σ H s):∀ b ∈ frs X.stack,b ∈ X.env.locals :: X.fs:=fun b hb=>by
 rcases I.ok.stk with e | ⟨e,hf⟩
 ·rw [e] at hb; exact List.mem_cons_of_mem _ hb
 ·rw [e] at hb
  unfold frs at hb
  rw [List.filterMap_cons,hf] at hb
  exact hb
theorem Inv.stkFree (I:Inv X pins σ H s):∀ b ∈ frs X.stack,H b=none:=fun b hb=>by
 rcases List.mem_cons.mp (I.stkSub b hb) with e | hb
 ·rw [e]; exact I.free
 ·obtain ⟨_,o,ho,_⟩:=I.ok.funs.mem hb
  exact I.base.free b o ho (I.ok.frf b hb) fun z=>I.ok.exfs b z hb
theorem Inv.step {g':Array GenState} {t':Nat} {d':Drawn} {ch:List Addr} (I:Inv X pins σ H s)
  (hch:∀ b ∈ ch,(b ∈ X.ex ∨ X.s₀.heap.objs.size≤b)∧b ≠ X.env.locals∧(∀ x c,X.env.cells.lookup x=some c→c ≠ b)∧∀ p ∈ X.pn ++ pins,p.1 ≠ b)
  (keep:∀ b o,b ≠ X.env.locals→b ∉ X.fs→b ∉ ch→s.heap.get? b=some o→H b=none→h'.get? b=some o)
  (slot:∀ b o,b ≠ X.env.locals→b ∈ X.fs→b ∉ ch→s.heap.get? b=some o→H b=none→∃ sl,h'.get? b=some { o with slots:=sl }) (free:∀ b o,b ∉ ch→s.heap.get? b=some o→H b=none→H' b=none)
  (there:∀ b o,b ∉ ch→s.heap.get? b=some o→∃ o',h'.get? b=some o')
  (tups:∀ b xs,H b=some (.tup xs)→H' b=some (.tup xs)) (frzs:∀ b o u,H b=some (.frz o u)→H' b=some (.frz o u)) (tbls:∀ b ps,H b=some (.tbl ps)→∃ more,H' b=some (.tbl (ps ++ more)))
  (ns:∀ m,s.heap.Ns X.env.locals m→h'.Ns X.env.locals m) (hok:HOk X.prog X.w H' h') (hg:AllBare g'):
  Inv X pins σ H' { s with heap:=h',gens:=g',drawn:=d',toks:=t' }:=by
 have neL:∀ b o,X.s₀.heap.get? b=some o→b ≠ X.env.locals:=fun b o e=>Nat.ne_of_lt (Nat.lt_of_lt_of_le (Heap.lt_size e) I.ok.above)
 have neC:∀ b o,X.s₀.heap.get? b=some o→b ∉ X.ex→b ∉ ch:=fun b o e hx hb=>by
  rcases (hch b hb).1 with z | z
  ·exact hx z
  ·exact absurd (Nat.lt_of_lt_of_le (Heap.lt_size e) z) (Nat.lt_irrefl _)
 have cellK:∀ x c,X.env.cells.lookup x=some c→∀ v,s.heap.IsCell c v→h'.IsCell c v:=fun x c e v ⟨o,ho,hd⟩=>by
  have nch:c ∉ ch:=fun z=>(hch c z).2.2.1 x c e rfl
  by_cases hc:c ∈ X.fs
  ·obtain ⟨sl,q⟩:=slot c o (I.cne x c e) hc nch ho (I.freeC x c e)
   exact ⟨_,q,hd⟩
  ·exact ⟨o,keep c o (I.cne x c e) hc nch ho (I.freeC x c e),hd⟩
 refine ⟨I.ok,I.os,hg,⟨fun b o e n hb hx=>?_,fun b o e n hb hx=>?_,fun b o e n hx=>?_,fun b o e hx=>?_,fun b xs e=>tups b xs (I.base.tups b xs e),fun b o xs e=>frzs b o xs (I.base.frzs b o xs e),fun b ps e=>?_⟩,?_,fun x c e=>?_,?_,fun x c e=>?_,fun p hp=>?_,hok,I.len⟩
 ·exact keep b o (neL b o e) hb (neC b o e hx) (I.base.keep b o e n hb hx) (I.base.free b o e n hx)
 ·obtain ⟨sl,e1⟩:=I.base.slot b o e n hb hx
  obtain ⟨sl',e2⟩:=slot b _ (neL b o e) hb (neC b o e hx) e1 (I.base.free b o e n hx)
  exact ⟨sl',e2⟩
 ·obtain ⟨o',e1⟩:=I.base.there b o e hx
  exact free b o' (neC b o e hx) e1 (I.base.free b o e n hx)
 ·obtain ⟨o',e1⟩:=I.base.there b o e hx
  exact there b o' (neC b o e hx) e1
 ·obtain ⟨m1,e1⟩:=I.base.tbls b ps e
  obtain ⟨m2,e2⟩:=tbls b _ e1
  exact ⟨m1 ++ m2,by rw [e2,Array.append_assoc]⟩
 ·obtain ⟨m,hn,hl⟩:=I.loc
  refine ⟨m,ns m hn,fun i x v e1 e2 e3=>?_⟩
  obtain ⟨u,r,l⟩:=hl i x v e1 e2 e3
  refine ⟨u,r,?_⟩
  rcases l with l | ⟨k,c,e,z⟩
  ·exact .inl l
  ·exact .inr ⟨k,c,e,cellK x c e _ z⟩
 ·obtain ⟨v,z⟩:=I.cell x c e
  exact ⟨v,cellK x c e v z⟩
 ·obtain ⟨m,⟨o,_,_,ho,_⟩,_⟩:=I.loc
  exact free _ o (fun z=>(hch _ z).2.1 rfl) ho I.free
 ·obtain ⟨v,o,ho,hd⟩:=I.cell x c e
  exact free c o (fun z=>(hch c z).2.2.1 x c e rfl) ho (I.freeC x c e)
 ·obtain ⟨e,n,ne,nf,d⟩:=I.pin p hp
  have nch:p.1 ∉ ch:=fun z=>(hch p.1 z).2.2.2 p hp rfl
  exact ⟨keep p.1 p.2 ne nf nch e n,free p.1 p.2 nch e n,ne,nf,d⟩
theorem Inv.un {t':Nat} (I:Inv X pins σ H s) (u:Un X.fs [] H H' s.heap h') (hok:HOk X.prog X.w H' h'):Inv X pins σ H' { s with heap:=h',toks:=t' }:=by
 obtain ⟨m,⟨o,es,ep,ho,r⟩,_⟩:=id I.loc
 obtain ⟨sl,hL⟩:=u.any ho I.free (by simp)
 exact I.step (g':=s.gens) (d':=s.drawn) (ch:=[]) (fun _ z=>nomatch z) (fun b o _ hb _ e n=>u.keep b o e n hb (by simp)) (fun b o _ hb _ e n=>u.slot b o e n hb (by simp)) (fun b o _ e n=>u.free b o e n (by simp)) (fun b o _ e=>u.there b o e (by simp)) u.tups u.frzs u.tbls (fun m' hm=>by
  obtain ⟨o',es',ep',ho',r'⟩:=hm
  rw [ho] at ho'; cases ho'
  exact ⟨_,es',ep',hL,r'⟩) hok I.bare
theorem Inv.call {g':Array GenState} {t':Nat} {d':Drawn} {ch:List Addr} (I:Inv X pins σ H s) (u:Un (frs X.stack) ch H H' s.heap h') (hok:HOk X.prog X.w H' h') (hg:AllBare g')
  (hch:∀ b ∈ ch,(b ∈ X.ex ∨ X.s₀.heap.objs.size≤b)∧b ≠ X.env.locals∧(∀ x c,X.env.cells.lookup x=some c→c ≠ b)∧∀ p ∈ X.pn ++ pins,p.1 ≠ b):
  Inv X pins σ H' { s with heap:=h',gens:=g',drawn:=d',toks:=t' }:=by
 obtain ⟨m,⟨o,es,ep,ho,r⟩,_⟩:=id I.loc
 obtain ⟨sl,hL⟩:=u.any ho I.free fun z=>(hch _ z).2.1 rfl
 exact I.step (ch:=ch) hch (fun b o hL hb hc e n=>u.keep b o e n (fun z=>(List.mem_cons.mp (I.stkSub b z)).elim hL hb) hc) (fun b o _ _ hc e n=>u.any e n hc) (fun b o hc e n=>u.free b o e n hc) (fun b o hc e=>u.there b o e hc) u.tups u.frzs u.tbls (fun m' hm=>by
  obtain ⟨o',es',ep',ho',r'⟩:=hm
  rw [ho] at ho'; cases ho'
  exact ⟨_,es',ep',hL,r'⟩) hok hg
theorem Inv.turned {t':Nat} {it:Addr} (I:Inv X pins σ H s) (k:∀ b o,b ≠ it→s.heap.get? b=some o→h'.get? b=some o) (hn:H it=none) (hL:it ≠ X.env.locals)
  (h1:it ∈ X.ex ∨ X.s₀.heap.objs.size≤it) (h2:∀ x c,X.env.cells.lookup x=some c→c ≠ it) (h3:∀ p ∈ X.pn ++ pins,p.1 ≠ it):Inv X pins σ H { s with heap:=h',toks:=t' }:=by
 have nit:∀ b u,H b=some u→b ≠ it:=fun b u e z=>by rw [z,hn] at e; cases e
 refine I.step (g':=s.gens) (d':=s.drawn) (ch:=[it]) (fun b hb=>?_) (fun b o _ _ hc e _=>k b o (fun z=>hc (by simp [z])) e) (fun b o _ _ hc e _=>⟨o.slots,k b o (fun z=>hc (by simp [z])) e⟩) (fun _ _ _ _ n=>n)
  (fun b o hc e=>⟨o,k b o (fun z=>hc (by simp [z])) e⟩) (fun _ _ e=>e) (fun _ _ _ e=>e) (fun b ps e=>⟨#[],by rw [e]; simp⟩) (fun m hm=>?_) (fun b u e=>?_) I.bare
 ·have e:b=it:=by simpa using hb
  subst e
  exact ⟨h1,hL,h2,h3⟩
 ·obtain ⟨o,es,ep,ho,r⟩:=hm
  exact ⟨o,es,ep,k _ o (Ne.symm hL) ho,r⟩
 ·refine (I.hok b u e).stay (fun c v hc q=>k c v ?_ q) (fun _ q=>q) fun _ _ q=>q
  rcases hc with z | z
  ·rw [z]; exact nit b u e
  ·exact nit c _ z
theorem Inv.tok (I:Inv X pins σ H s) (t:Nat):Inv X pins σ H { s with toks:=t }:=I.un (h':=s.heap) (t':=t) Un.refl I.hok
theorem Inv.kept {t':Nat} (I:Inv X pins σ H s) (k:∀ b u,s.heap.get? b=some u→h'.get? b=some u):Inv X pins σ H { s with heap:=h',toks:=t' }:=I.un (Un.kept k) (I.hok.kept k)
theorem Inv.laid {a:Addr} {o:HO} {t':Nat} (I:Inv X pins σ H s) (k:∀ b u,s.heap.get? b=some u→h'.get? b=some u) (hp:s.heap.objs.size≤a) (new:ObjOk X.prog X.w (upd H a o) h' a o):
  Inv X pins σ (upd H a o) { s with heap:=h',toks:=t' }:=I.un (Un.laid k hp (I.hok.fresh hp)) (I.hok.laid k hp new)
theorem Inv.write {x e:Addr} {o:HO} {t':Nat} (I:Inv X pins σ H s) (mu:Mut (H x)) (he:e=x ∨ H e=some (.own x)) (k:∀ b u,b ≠ e→s.heap.get? b=some u→h'.get? b=some u) (heo:∃ u,h'.get? e=some u)
  (new:ObjOk X.prog X.w (upd H x o) h' x o):Inv X pins σ (upd H x o) { s with heap:=h',toks:=t' }:=I.un (Un.write mu he k heo) (I.hok.write mu he k heo new)
theorem Inv.pins_of {pins':List (Addr × Obj)} (I:Inv X pins σ H s) (h:∀ p ∈ pins',s.heap.get? p.1=some p.2∧H p.1=none∧p.1 ≠ X.env.locals∧p.1 ∉ X.fs∧∀ v,p.2.data ≠ .cell v):Inv X pins' σ H s:=
 ⟨I.ok,I.os,I.bare,I.base,I.loc,I.cell,I.free,I.freeC,fun p hp=>(List.mem_append.mp hp).elim (fun z=>I.pin p (List.mem_append_left _ z)) (h p),I.hok,I.len⟩
theorem nodup_ix {N:List Str} (hN:N.Nodup) {i j:Nat} {x:Str} (a:N[i]?=some x) (b:N[j]?=some x):i=j:=by
 obtain ⟨h1,e1⟩:=List.getElem?_eq_some_iff.mp a
 obtain ⟨h2,e2⟩:=List.getElem?_eq_some_iff.mp b
 exact (List.getElem_inj hN).mp (e1.trans e2.symm)
theorem store_ok2 {M:Model} {A:Around} {E:Value→Shared→Prop} {i:Nat} {x:Str} {v:V} {u:Value} {Q:Unit→Shared→Prop} (I:Inv X pins σ H s) (hN:X.N.Nodup) (hi:X.N[i]?=some x) (hx:Loc X.env.scope x) (r:RelV v u)
  (h:∀ s',Inv X pins (σ.set i (some v)) H s'→(∃ a,Heap.SameBut a s.heap s'.heap∧(a=X.env.locals ∨ X.env.cells.lookup x=some a))→Q () s') (hf:X.fn x=true ∨ X.env.scope.names.lookup x=some .local):wpAny M A (storeName X.env x u) Q E s:=by
 obtain ⟨m,hn,hl⟩:=id I.loc
 have hcls:(X.env.scope.kind == .class || (X.env.scope.kind == .module && X.env.locals != X.env.globals))=false:=by rw [I.ok.kind]; rfl
 have hiσ:i < σ.length:=by rw [I.len]; exact (List.getElem?_eq_some_iff.mp hi).1
 have cne:=I.cne
 have tracked:∀ {a:Addr} {h':Heap},(∃ o,s.heap.get? a=some o∧H a=none)→Heap.SameBut a s.heap h'→HOk X.prog X.w H h':=fun {a h'} ha hs b ob e=>by
  obtain ⟨_,_,hfree⟩:=ha
  refine (I.hok b ob e).stay (fun c w' hc q=>(hs.2 c ?_).trans q) (fun _ q=>q) fun _ _ q=>q
  rintro rfl
  rcases hc with rfl | hc
  ·rw [hfree] at e; cases e
  ·rw [hfree] at hc; cases hc
 rcases hx with hk | hk
 ·refine wpAny_storeName_local hk hn (fun h' hn' hs=>?_) hcls
  obtain ⟨oL,_,_,hoL,_⟩:=id hn
  refine h _ ⟨I.ok,I.os,I.bare,⟨fun b o e n hb hx=>?_,fun b o e n hb hx=>?_,I.base.free,fun b o e hx=>?_,I.base.tups,I.base.frzs,I.base.tbls⟩,⟨_,hn',fun j y v' e1 e2 e3=>?_⟩,fun y c e=>?_,I.free,I.freeC,fun p hp=>?_,tracked ⟨oL,hoL,I.free⟩ hs,by simpa using I.len⟩ ⟨_,hs,.inl rfl⟩
  ·exact (hs.2 b (Nat.ne_of_lt (Nat.lt_of_lt_of_le (Heap.lt_size e) I.ok.above))).trans (I.base.keep b o e n hb hx)
  ·obtain ⟨sl,e1⟩:=I.base.slot b o e n hb hx
   exact ⟨sl,(hs.2 b (Nat.ne_of_lt (Nat.lt_of_lt_of_le (Heap.lt_size e) I.ok.above))).trans e1⟩
  ·obtain ⟨o',e1⟩:=I.base.there b o e hx
   exact ⟨o',(hs.2 b (Nat.ne_of_lt (Nat.lt_of_lt_of_le (Heap.lt_size e) I.ok.above))).trans e1⟩
  ·by_cases hj:j=i
   ·subst hj
    rw [hi] at e1; cases e1
    rw [List.getElem?_set_self hiσ] at e2
    cases e2
    exact ⟨u,r,.inl ⟨hk,by simp⟩⟩
   ·rw [List.getElem?_set_ne (Ne.symm hj)] at e2
    obtain ⟨u',r',q⟩:=hl j y v' e1 e2 e3
    refine ⟨u',r',?_⟩
    rcases q with ⟨k,e⟩ | ⟨k,c,e,z⟩
    ·refine .inl ⟨k,?_⟩
     have:y ≠ x:=fun e=>hj (nodup_ix hN e1 (e ▸ hi))
     simp [this,e]
    ·exact .inr ⟨k,c,e,z.sameBut hs (cne y c e)⟩
  ·obtain ⟨w',z⟩:=I.cell y c e
   exact ⟨w',z.sameBut hs (cne y c e)⟩
  ·obtain ⟨e,n,ne,nf,d⟩:=I.pin p hp
   exact ⟨(hs.2 p.1 ne).trans e,n,ne,nf,d⟩
 ·have hfn:X.fn x=true:=by
   rcases hf with z | z
   ·exact z
   ·rw [z] at hk; cases hk
  obtain ⟨c,hc⟩:=I.ok.has x (.inl hk)
  obtain ⟨w',z⟩:=I.cell x c hc
  refine wpAny_storeName_cell I.ok.kind hk hc z (fun h' hc' hs=>?_)
  obtain ⟨oc,hoc,hocd⟩:=id z
  refine h { s with heap:=h' } ⟨I.ok,I.os,I.bare,⟨fun b o e n hb hx=>?_,fun b o e n hb hx=>?_,I.base.free,fun b o e hx=>?_,I.base.tups,I.base.frzs,I.base.tbls⟩,⟨m,hn.sameBut hs (Ne.symm (cne x c hc)),fun j y v' e1 e2 e3=>?_⟩,fun y c' e=>?_,I.free,I.freeC,fun p hp=>?_,tracked ⟨oc,hoc,I.freeC x c hc⟩ hs,by simpa using I.len⟩ ⟨c,hs,.inr hc⟩
  ·exact (hs.2 b (Nat.ne_of_lt (Nat.lt_of_lt_of_le (Heap.lt_size e) (I.ok.cab x c hfn hc)))).trans (I.base.keep b o e n hb hx)
  ·obtain ⟨sl,e1⟩:=I.base.slot b o e n hb hx
   exact ⟨sl,(hs.2 b (Nat.ne_of_lt (Nat.lt_of_lt_of_le (Heap.lt_size e) (I.ok.cab x c hfn hc)))).trans e1⟩
  ·obtain ⟨o',e1⟩:=I.base.there b o e hx
   exact ⟨o',(hs.2 b (Nat.ne_of_lt (Nat.lt_of_lt_of_le (Heap.lt_size e) (I.ok.cab x c hfn hc)))).trans e1⟩
  ·by_cases hj:j=i
   ·subst hj
    rw [hi] at e1; cases e1
    rw [List.getElem?_set_self hiσ] at e2
    cases e2
    exact ⟨u,r,.inr ⟨.inl hk,c,hc,hc'⟩⟩
   ·rw [List.getElem?_set_ne (Ne.symm hj)] at e2
    obtain ⟨u',r',q⟩:=hl j y v' e1 e2 e3
    refine ⟨u',r',?_⟩
    rcases q with q | ⟨k,c',e,z'⟩
    ·exact .inl q
    ·refine .inr ⟨k,c',e,z'.sameBut hs ?_⟩
     rintro rfl
     exact hj (nodup_ix hN e1 (I.ok.inj _ _ _ e hc ▸ hi))
  ·by_cases hcc:c'=c
   ·subst hcc; exact ⟨_,hc'⟩
   ·obtain ⟨w2,z2⟩:=I.cell y c' e
    exact ⟨w2,z2.sameBut hs hcc⟩
  ·obtain ⟨e,n,ne,nf,d⟩:=I.pin p hp
   refine ⟨(hs.2 p.1 ?_).trans e,n,ne,nf,d⟩
   intro q
   rw [q,hoc] at e
   have q':oc=p.2:=Option.some.inj e
   exact d w' (by rw [← q']; exact hocd)
theorem store_ok {M:Model} {A:Around} {E:Value→Shared→Prop} {i:Nat} {x:Str} {v:V} {u:Value} {Q:Unit→Shared→Prop} (I:Inv X pins σ H s) (hN:X.N.Nodup) (hi:X.N[i]?=some x) (hx:Loc X.env.scope x) (r:RelV v u)
  (h:∀ s',Inv X pins (σ.set i (some v)) H s'→Q () s') (hf:X.fn x=true ∨ X.env.scope.names.lookup x=some .local):wpAny M A (storeName X.env x u) Q E s:=
 store_ok2 I hN hi hx r (fun s' I' _=>h s' I') hf
theorem Inv.call' {s':Shared} {ch:List Addr} (I:Inv X pins σ H s) (ho:s'.os=s.os) (u:Un (frs X.stack) ch H H' s.heap s'.heap) (hok:HOk X.prog X.w H' s'.heap) (hg:AllBare s'.gens)
  (hch:∀ b ∈ ch,(b ∈ X.ex ∨ X.s₀.heap.objs.size≤b)∧b ≠ X.env.locals∧(∀ x c,X.env.cells.lookup x=some c→c ≠ b)∧∀ p ∈ X.pn ++ pins,p.1 ≠ b):Inv X pins σ H' s':=by
 obtain ⟨h',g',d',t',o'⟩:=s'
 have e:o'=s.os:=ho
 subst e
 exact I.call (g':=g') (t':=t') (d':=d') u hok hg hch
end
noncomputable abbrev XK:=Value→Option Addr→Hp→Prop
noncomputable abbrev St:=List (Option V)
noncomputable abbrev VK:=V→Hp→Prop
noncomputable abbrev TE:=St→Hp→VK→Prop
noncomputable abbrev TT:=St→Hp→(Bool→Hp→Prop)→Prop
noncomputable abbrev TA:=St→Hp→(List V→Hp→Prop)→Prop
set_option genInjectivity false in
structure Ends where
 nx:St→Hp→Prop
 rt:VK
 bk:St→Hp→Prop:=fun _ _=>False
 ct:St→Hp→Prop:=fun _ _=>False
noncomputable abbrev TS:=Ends→St→Hp→Prop
noncomputable def EP (X:Cx) (pins:List (Addr × Obj)) (σ:St) (Q:VK) (u:Value) (s':Shared):Prop:=∃ v H',Inv X pins σ H' s'∧RelV v u∧Q v H'
noncomputable def TP (X:Cx) (pins:List (Addr × Obj)) (σ:St) (Q:Bool→Hp→Prop) (b:Bool) (s':Shared):Prop:=∃ H',Inv X pins σ H' s'∧Q b H'
noncomputable def AP (X:Cx) (pins:List (Addr × Obj)) (σ:St) (Q:List V→Hp→Prop) (us:List Value) (s':Shared):Prop:=∃ vs H',Inv X pins σ H' s'∧Vals vs us∧Q vs H'
noncomputable def SP (X:Cx) (pins:List (Addr × Obj)) (D:Ends) (f:Flow) (s':Shared):Prop:=
 match f with
 | .next=>∃ σ' H',Inv X pins σ' H' s'∧D.nx σ' H'
 | .brk=>∃ σ' H',Inv X pins σ' H' s'∧D.bk σ' H'
 | .cont=>∃ σ' H',Inv X pins σ' H' s'∧D.ct σ' H'
 | .ret u=>∃ v σ' H',Inv X pins σ' H' s'∧RelV v u∧D.rt v H'
noncomputable def PE (X:Cx) (e:Expr) (t:TE):Prop:=
 ∀ (pins:List (Addr × Obj)) (s:Shared) (σ:St) (H:Hp) (Q:VK),Inv X pins σ H s→t σ H Q→wpAny (model X.prog X.w) X.A (eval e X.env) (EP X pins σ Q) X.xe s
noncomputable def PT (X:Cx) (e:Expr) (t:TT):Prop:=
 ∀ (pins:List (Addr × Obj)) (s:Shared) (σ:St) (H:Hp) (Q:Bool→Hp→Prop),Inv X pins σ H s→t σ H Q→wpAny (model X.prog X.w) X.A (isTrue e X.env (eval e X.env)) (TP X pins σ Q) X.xe s
noncomputable def PW (X:Cx) (e:Expr) (t:TT):Prop:=
 ∀ (whole:Sem Value) (pins:List (Addr × Obj)) (s:Shared) (σ:St) (H:Hp) (Q:Bool→Hp→Prop),Inv X pins σ H s→t σ H Q→wpAny (model X.prog X.w) X.A (isTrue e X.env whole) (TP X pins σ Q) X.xe s
theorem PW.pt {X:Cx} {e:Expr} {t:TT} (h:PW X e t):PT X e t:=h _
noncomputable def PA (X:Cx) (es:List Expr) (t:TA):Prop:=
 ∀ (pos:Pos) (pins:List (Addr × Obj)) (s:Shared) (σ:St) (H:Hp) (Q:List V→Hp→Prop),Inv X pins σ H s→t σ H Q→wpAny (model X.prog X.w) X.A (spliced (backTo pos (starEach es X.env))) (AP X pins σ Q) X.xe s
noncomputable def PS (X:Cx) (st:Stmt) (t:TS):Prop:=
 ∀ (pins:List (Addr × Obj)) (s:Shared) (σ:St) (H:Hp) (D:Ends),Inv X pins σ H s→t D σ H→wpAny (model X.prog X.w) X.A (exec st X.env) (SP X pins D) X.xe s
noncomputable def PSs (X:Cx) (st:List Stmt) (t:TS):Prop:=
 ∀ (pins:List (Addr × Obj)) (s:Shared) (σ:St) (H:Hp) (D:Ends),Inv X pins σ H s→t D σ H→wpAny (model X.prog X.w) X.A (execs st X.env) (SP X pins D) X.xe s
theorem thn {α:Type} {t:Sem α} {Q Q':α→Shared→Prop} {M:Model} {A:Around} {E:Value→Shared→Prop} {s:Shared} (h:wpAny M A t Q E s) (hQ:∀ a s,Q a s→Q' a s):wpAny M A t Q' E s:=wpAny_mono h hQ fun _ _ x=>x
end L2
namespace L2
open PySem PySem.Spec PyProof.Rows
section
variable {X:Cx}
noncomputable def tVar (i:Nat):TE:=fun σ H Q=>∃ v,σ[i]?=some (some v)∧Q v H
noncomputable def tC (v:V):TE:=fun _ H Q=>Q v H
theorem pe_var {i:Nat} {x:Str} {pos:Pos} (hN:X.N[i]?=some x) (hv:Vis X.env.scope x) (hd:autoParam ((x == ("__debug__":Str))=false) Au.h2._auto_1) (hcd:autoParam ((x == ("__classdict__":Str))=false) Au.h2._auto_1):PE X (.Name x pos) (tVar i):=by
 intro pins s σ H Q I h
 obtain ⟨v,e,h⟩:=h
 obtain ⟨m,hn,hl⟩:=I.loc
 obtain ⟨u,r,l⟩:=hl i x v hN e hv
 have fin:EP X pins σ Q u s:=⟨v,H,I,r,h⟩
 rcases l with ⟨hk,hm⟩ | ⟨hk,c,hc,hcell⟩
 ·exact wpAny_Name (wpAny_loadName_local I.ok.kind hk hn hm fin) hd
 ·rcases hk with hk | hk
  ·exact wpAny_Name (wpAny_loadName_cell I.ok.kind hk hc hcell fin) hd
  ·exact wpAny_Name (wpAny_loadName_free I.ok.kind hk hc hcell fin hcd) hd
theorem pe_int {i j pos}:PE X (.Constant (.int i) j pos) (tC (.int i)):=fun _ _ _ H _ I h=>wpAny_Constant_int ⟨.int i,H,I.tok _,⟨_,rfl⟩,h⟩
theorem pe_bl {b j pos}:PE X (.Constant (.bool b) j pos) (tC (.bl b)):=fun _ _ _ H _ I h=>Constant_bool ⟨.bl b,H,I,rfl,h⟩
noncomputable def Gl (X:Cx) (x:Str):Prop:=X.env.kindOf x=some .globalImplicit
theorem ld_glob {E:Value→Shared→Prop} {pins:List (Addr × Obj)} {s:Shared} {σ:St} {H:Hp} {x:Str} {u:Value} {pos:Pos} {Q:Value→Shared→Prop} (I:Inv X pins σ H s) (hg:Gl X x) (hm:X.mg x=some u) (h:Q u s)
  (hd:autoParam ((x == ("__debug__":Str))=false) Au.h2._auto_1):wpAny (model X.prog X.w) X.A (eval (.Name x pos) X.env) Q E s:=
 Calls.Name_function_global I.ok.kind hg (Calls.loadGlobal_global (by rw [I.ok.glob]; exact I.mod.glob.keeps I.bk) hm h) hd
theorem ld_blt {E:Value→Shared→Prop} {pins:List (Addr × Obj)} {s:Shared} {σ:St} {H:Hp} {x:Str} {u:Value} {pos:Pos} {Q:Value→Shared→Prop} (I:Inv X pins σ H s) (hg:Gl X x) (hm:X.mg x=none) (hv:bootBuiltins x=some u) (h:Q u s)
  (hn:autoParam (x ≠ "__name__") Au.h2._auto_1) (hd:autoParam ((x == ("__debug__":Str))=false) Au.h2._auto_1):wpAny (model X.prog X.w) X.A (eval (.Name x pos) X.env) Q E s:=by
 obtain ⟨mb,h1,h2⟩:=I.mod.blt
 exact Calls.Name_function_global I.ok.kind hg (Calls.loadGlobal_builtin (by rw [I.ok.glob]; exact I.mod.glob.keeps I.bk) hm (by rw [I.ok.blt]; exact h1.keeps I.bk) ((h2 x hn).trans hv) h) hd
theorem pe_glob {x:Str} {v:V} {u:Value} {pos:Pos} (hg:Gl X x) (hm:X.mg x=some u) (r:RelV v u) (hd:autoParam ((x == ("__debug__":Str))=false) Au.h2._auto_1):PE X (.Name x pos) (tC v):=
 fun _ _ _ H _ I h=>ld_glob I hg hm ⟨v,H,I,r,h⟩ hd
theorem pe_bltn {x:Str} {v:V} {u:Value} {pos:Pos} (hg:Gl X x) (hm:X.mg x=none) (hv:bootBuiltins x=some u) (r:RelV v u) (hn:autoParam (x ≠ "__name__") Au.h2._auto_1) (hd:autoParam ((x == ("__debug__":Str))=false) Au.h2._auto_1):PE X (.Name x pos) (tC v):=
 fun _ _ _ H _ I h=>ld_blt I hg hm hv ⟨v,H,I,r,h⟩ hn hd
variable {a b:Expr} {ta tb:TE} {pos:Pos}
noncomputable def tB (t:TE):TT:=fun σ H Q=>t σ H fun x H1=>∃ c,x=.bl c∧Q c H1
theorem pt_val {e:Expr} {t:TE} (h:PE X e t) (he:autoParam (∀ whole,isTrue e X.env whole=(do let v ← whole; standAt e.pos; holding [v] (truthy v))) Au.h5._auto_1):PT X e (tB t):=by
 intro pins s σ H Q I hw
 refine isTrue_plain (thn (h pins s σ H _ I hw) fun v s1 zq=>?_) (he _)
 obtain ⟨x,H1,I1,r1,q1⟩:=zq
 obtain ⟨d,rfl,q⟩:=q1
 cases r1
 exact wpAny_truthy_bool ⟨H1,I1,q⟩
variable {tA tB':TT} {rest:List Expr}
noncomputable def tAnd (t u:TT):TT:=fun σ H Q=>t σ H fun c H1=>if c=true then u σ H1 Q else Q false H1
noncomputable def tOr (t u:TT):TT:=fun σ H Q=>t σ H fun c H1=>if c=true then Q true H1 else u σ H1 Q
noncomputable def tNot (t:TT):TT:=fun σ H Q=>t σ H fun c H1=>Q (!c) H1
theorem pw_and1 (ha:PT X a tA):PW X (.BoolOp .And [a] pos) tA:=by
 intro wh pins s σ H Q I h
 refine isTrue_and (thn (ha pins s σ H Q I h) fun c s1 e=>?_)
 cases c with
 | true=>exact isTrue_and_nil e
 | false=>exact e
theorem pw_or1 (ha:PT X a tA):PW X (.BoolOp .Or [a] pos) tA:=by
 intro wh pins s σ H Q I h
 refine isTrue_or (thn (ha pins s σ H Q I h) fun c s1 e=>?_)
 cases c with
 | false=>exact isTrue_or_nil e
 | true=>exact e
theorem pw_and (ha:PT X a tA) (hb:PW X (.BoolOp .And (b :: rest) pos) tB'):PW X (.BoolOp .And (a :: b :: rest) pos) (tAnd tA tB'):=by
 intro wh pins s σ H Q I h
 refine isTrue_and (thn (ha pins s σ H _ I h) fun c s1 zq=>?_)
 obtain ⟨H1,I1,q1⟩:=zq
 cases c with
 | true=>exact hb wh pins s1 σ H1 Q I1 q1
 | false=>exact ⟨H1,I1,q1⟩
theorem pw_or (ha:PT X a tA) (hb:PW X (.BoolOp .Or (b :: rest) pos) tB'):PW X (.BoolOp .Or (a :: b :: rest) pos) (tOr tA tB'):=by
 intro wh pins s σ H Q I h
 refine isTrue_or (thn (ha pins s σ H _ I h) fun c s1 zq=>?_)
 obtain ⟨H1,I1,q1⟩:=zq
 cases c with
 | true=>exact ⟨H1,I1,q1⟩
 | false=>exact hb wh pins s1 σ H1 Q I1 q1
theorem pt_not (ha:PT X a tA):PT X (.UnaryOp .Not a pos) (tNot tA):=by
 intro pins s σ H Q I h
 exact isTrue_not (ha pins s σ H (fun c H1=>Q (!c) H1) I h)
noncomputable def tAndV (ta tb:TE):TE:=fun σ H Q=>ta σ H fun x H1=>∃ c,x=.bl c∧if c=true then tb σ H1 Q else Q (.bl false) H1
noncomputable def tNotV (ta:TE):TE:=fun σ H Q=>ta σ H fun x H1=>∃ c,x=.bl c∧Q (.bl (!c)) H1
theorem pe_one {op} {t:TE} (h:PE X a t):PE X (.BoolOp op [a] pos) t:=fun pins s σ H Q I hw=>BoolOp_one (h pins s σ H Q I hw)
theorem pe_and (ha:PE X a ta) (hb:PE X (.BoolOp .And (b :: rest) pos) tb):PE X (.BoolOp .And (a :: b :: rest) pos) (tAndV ta tb):=by
 intro pins s σ H Q I h
 refine BoolOp_and (thn (ha pins s σ H _ I h) fun v s1 zq=>?_)
 obtain ⟨x,H1,I1,r1,q1⟩:=zq
 obtain ⟨c,rfl,q1⟩:=q1
 cases r1
 refine wpAny_truthy_bool ?_
 cases c with
 | true=>exact hb pins s1 σ H1 Q I1 q1
 | false=>exact ⟨.bl false,H1,I1,rfl,q1⟩
theorem pe_not (ha:PE X a ta):PE X (.UnaryOp .Not a pos) (tNotV ta):=by
 intro pins s σ H Q I h
 refine UnaryOp_ (thn (ha pins s σ H _ I h) fun v s1 zq=>?_)
 obtain ⟨x,H1,I1,r1,q1⟩:=zq
 obtain ⟨c,rfl,q1⟩:=q1
 cases r1
 exact not_of (wpAny_truthy_bool ⟨.bl (!c),H1,I1,rfl,q1⟩)
end
end L2
namespace L2
open PySem PySem.Spec PyProof.Rows
noncomputable def SqL (K:PySem.W.Frag) (H:Hp) (a:Addr) (xs:List V):Prop:=
 Rd H a (.lst xs) ∨
  ∃ (o:Obj) (its:Array Value) (n:Nat),K.lookup a=some o∧o.cls=.type "list"∧o.dict=none∧o.data=.seq its n∧its.size≤sizeLine∧Vals xs its.toList
noncomputable def SqT (K:PySem.W.Frag) (H:Hp) (a:Addr) (xs:List V):Prop:=
 Rd H a (.tup xs) ∨
  ∃ (o:Obj) (its:Array Value) (n:Nat),K.lookup a=some o∧o.cls=.type "tuple"∧o.data=.seq its n∧its.size≤sizeLine∧Vals xs its.toList
noncomputable def absV:Value→Option V
 | .none=>some .non
 | .bool b=>some (.bl b)
 | .int i _=>some (.int i)
 | .str x _=>some (.str x)
 | .bytes b _=>some (.byt b)
 | .float b _=>some (.flt b)
 | .ref a=>some (.ref a)
 | .type n=>some (.ty n)
 | _=>none
theorem RelV.abs {x:V} {u:Value} (r:RelV x u):absV u=some x:=by
 cases x with
 | non=>cases r; rfl
 | bl _=>cases r; rfl
 | int _=>obtain ⟨t,rfl⟩:=r; rfl
 | str _=>obtain ⟨t,rfl⟩:=r; rfl
 | byt _=>obtain ⟨t,rfl⟩:=r; rfl
 | flt _=>obtain ⟨t,rfl⟩:=r; rfl
 | ref _=>cases r; rfl
 | ty _=>cases r; rfl
theorem RelV.inj {x y:V} {u:Value} (r:RelV x u) (q:RelV y u):x=y:=Option.some.inj (r.abs.symm.trans q.abs)
theorem Vals.inj:∀ {xs ys:List V} {us:List Value},Vals xs us→Vals ys us→xs=ys
 | _,_,_,.nil,.nil=>rfl
 | _,_,_,.cons r t,.cons r' t'=>by rw [r.inj r',Vals.inj t t']
section
variable {X:Cx} {pins:List (Addr × Obj)} {σ:St} {H:Hp} {s:Shared} {a:Addr} {xs ys:List V}
theorem SqL.of {K:PySem.W.Frag} (h:H a=some (.lst xs)):SqL K H a xs:=.inl (.inl h)
theorem SqT.of {K:PySem.W.Frag} (h:H a=some (.tup xs)):SqT K H a xs:=.inl (.inl h)
theorem Inv.list (I:Inv X pins σ H s) (h:SqL X.K H a xs):∃ its:List Value,Vals xs its∧PlainL s.heap a its.toArray∧xs.length≤sizeLine:=by
 rcases h with h | ⟨o,its,n,hk,hc,hd,hs,hz,r⟩
 ·obtain ⟨z,its,n,r,e⟩:=h.ok I.hok
  exact ⟨its,r,⟨_,n,e,rfl,rfl,rfl⟩,z⟩
 ·refine ⟨its.toList,r,⟨o,n,I.kIn a o hk,hc,hd,by simpa using hs⟩,?_⟩
  have e:=r.length
  simp only [Array.length_toList] at e
  omega
theorem Inv.tuple (I:Inv X pins σ H s) (h:SqT X.K H a xs):∃ its:List Value,Vals xs its∧IsTup s.heap a its.toArray∧xs.length≤sizeLine:=by
 rcases h with h | ⟨o,its,n,hk,hc,hs,hz,r⟩
 ·obtain ⟨z,its,r,p⟩:=h.ok I.hok
  exact ⟨its,r,p,z⟩
 ·refine ⟨its.toList,r,⟨o,I.kIn a o hk,hc,n,by simpa using hs⟩,?_⟩
  have e:=r.length
  simp only [Array.length_toList] at e
  omega
theorem Inv.list_inj (I:Inv X pins σ H s) (h:SqL X.K H a xs) (h':SqL X.K H a ys):xs=ys:=by
 obtain ⟨its,r,⟨o,n,e,_,_,d⟩,_⟩:=I.list h
 obtain ⟨its',r',⟨o',n',e',_,_,d'⟩,_⟩:=I.list h'
 rw [e] at e'; cases e'
 rw [d] at d'
 injection d' with d1 _
 have:its=its':=by simpa using congrArg Array.toList d1
 subst this
 exact r.inj r'
theorem Inv.tuple_inj (I:Inv X pins σ H s) (h:SqT X.K H a xs) (h':SqT X.K H a ys):xs=ys:=by
 obtain ⟨its,r,⟨o,e,_,n,d⟩,_⟩:=I.tuple h
 obtain ⟨its',r',⟨o',e',_,n',d'⟩,_⟩:=I.tuple h'
 rw [e] at e'; cases e'
 rw [d] at d'
 injection d' with d1 _
 have:its=its':=by simpa using congrArg Array.toList d1
 subst this
 exact r.inj r'
end
noncomputable abbrev Cx.wish (X:Cx) (E:Value→Shared→Prop):Cx:={ X with xe:=E }
noncomputable abbrev Cx.nox (X:Cx):Cx:=X.wish fun _ _=>False
theorem Cx.Ok.wish {X:Cx} (ok:X.Ok) (E:Value→Shared→Prop):(X.wish E).Ok:=
 ⟨ok.mod,ok.kind,ok.glob,ok.blt,ok.above,ok.inj,ok.has,ok.cab,ok.hd,ok.frames,ok.stk,ok.exf,ok.bs,ok.bsz,ok.noex,ok.exfs,ok.funs,ok.frf⟩
theorem Cx.Ok.unwish {X:Cx} {E:Value→Shared→Prop} (ok:(X.wish E).Ok):X.Ok:=
 ⟨ok.mod,ok.kind,ok.glob,ok.blt,ok.above,ok.inj,ok.has,ok.cab,ok.hd,ok.frames,ok.stk,ok.exf,ok.bs,ok.bsz,ok.noex,ok.exfs,ok.funs,ok.frf⟩
section
variable {X:Cx} {pins:List (Addr × Obj)} {σ:St} {H:Hp} {s:Shared} {E:Value→Shared→Prop}
theorem Inv.wish (I:Inv X pins σ H s) (E:Value→Shared→Prop):Inv (X.wish E) pins σ H s:=⟨I.ok.wish E,I.os,I.bare,I.base,I.loc,I.cell,I.free,I.freeC,I.pin,I.hok,I.len⟩
theorem Inv.unwish (I:Inv (X.wish E) pins σ H s):Inv X pins σ H s:=⟨I.ok.unwish,I.os,I.bare,I.base,I.loc,I.cell,I.free,I.freeC,I.pin,I.hok,I.len⟩
theorem SP.unwish {D:Ends} {f:Flow} {s':Shared} (h:SP (X.wish E) pins D f s'):SP X pins D f s':=by
 cases f with
 | next=>obtain ⟨σ',H',I,q⟩:=h; exact ⟨σ',H',I.unwish,q⟩
 | brk=>obtain ⟨σ',H',I,q⟩:=h; exact ⟨σ',H',I.unwish,q⟩
 | cont=>obtain ⟨σ',H',I,q⟩:=h; exact ⟨σ',H',I.unwish,q⟩
 | ret u=>obtain ⟨v,σ',H',I,r,q⟩:=h; exact ⟨v,σ',H',I.unwish,r,q⟩
theorem PSs.nox {st:List Stmt} {t:TS} (h:PSs X.nox st t):PSs X st t:=fun pins s σ H D I hw=>
 wpAny_mono (h pins s σ H D (I.wish _) hw) (fun _ _ q=>q.unwish) fun _ _ z=>False.elim z
end
section
variable {X:Cx} {st:Stmt} {rest:List Stmt} {t u:TS} {e:Expr} {te:TE} {pos:Pos}
noncomputable def tNext:TS:=fun D σ H=>D.nx σ H
noncomputable def tSeq (t u:TS):TS:=fun D σ H=>t { D with nx:=u D } σ H
theorem pss_nil:PSs X [] tNext:=fun _ _ σ H _ I h=>wpAny_execs_nil ⟨σ,H,I,h⟩
theorem pss_cons (h1:PS X st t) (h2:PSs X rest u):PSs X (st :: rest) (tSeq t u):=by
 intro pins s σ H D I h
 refine wpAny_execs_cons (thn (h1 pins s σ H { D with nx:=u D } I h) fun f s1 q=>?_)
 cases f with
 | next=>
  obtain ⟨σ',H',I',q⟩:=q
  exact h2 pins s1 σ' H' D I' q
 | ret v=>exact q
 | brk=>exact q
 | cont=>exact q
theorem pss_one (h1:PS X st t):PSs X [st] t:=by
 intro pins s σ H D I h
 refine wpAny_execs_cons (thn (h1 pins s σ H D I h) fun f s1 q=>?_)
 cases f with
 | next=>exact wpAny_execs_nil q
 | ret v=>exact q
 | brk=>exact q
 | cont=>exact q
theorem Inv.quiet {pins:List (Addr × Obj)} {σ:St} {H:Hp} {s:Shared} (I:Inv X pins σ H s):interactive X.env=false:=by simp [interactive,I.ok.kind]
noncomputable def tDrop (te:TE):TS:=fun D σ H=>te σ H fun _ H1=>D.nx σ H1
theorem ps_expr (he:PE X e te) (hs:autoParam (swapsWith e none pos.line X.env=pure false) Au.h1._auto_1):PS X (.Expr e pos) (tDrop te):=by
 intro pins s σ H D I h
 exact wpAny_Expr_any (thn (he pins s σ H _ I h) fun v s1 zq=>ex5 zq fun x H1 I1 r1 q1=>⟨σ,H1,I1,q1⟩) I.quiet hs
noncomputable def tRet (te:TE):TS:=fun D σ H=>te σ H D.rt
theorem ps_ret (he:PE X e te):PS X (.Return (some e) pos) (tRet te):=by
 intro pins s σ H D I h
 exact wpAny_Return_some (thn (he pins s σ H _ I h) fun v s1 zq=>ex5 zq fun x H1 I1 r1 q1=>⟨x,σ,H1,I1,r1,q1⟩)
noncomputable def tIfS (c:TT) (t u:TS):TS:=fun D σ H=>c σ H fun b H1=>if b=true then t D σ H1 else u D σ H1
theorem ps_if {c:Expr} {a b:List Stmt} {tc:TT} (hc:PT X c tc) (ha:PSs X a t) (hb:PSs X b u):PS X (.If c a b pos) (tIfS tc t u):=by
 intro pins s σ H D I h
 refine wpAny_If (thn (hc pins s σ H _ I h) fun d s1 zq=>?_)
 obtain ⟨H1,I1,q1⟩:=zq
 cases d with
 | true=>exact ha pins s1 σ H1 D I1 q1
 | false=>exact hb pins s1 σ H1 D I1 q1
noncomputable def tNever:TS:=fun _ _ _=>False
theorem ps_never:PS X st tNever:=fun _ _ _ _ _ _ h=>h.elim
end
noncomputable abbrev TG:=V→St→Hp→(St→Hp→Prop)→Prop
noncomputable abbrev TGs:=List V→St→Hp→(St→Hp→Prop)→Prop
noncomputable def PG (X:Cx) (target:Expr) (t:TG):Prop:=
 ∀ (pins:List (Addr × Obj)) (s:Shared) (σ:St) (H:Hp) (v:V) (u:Value) (Q:St→Hp→Prop),Inv X pins σ H s→RelV v u→t v σ H Q→
  wpAny (model X.prog X.w) X.A (assign target X.env u) (fun _ s'=>∃ σ' H',Inv X pins σ' H' s'∧Q σ' H') X.xe s
noncomputable def PGs (X:Cx) (ts:List Expr) (t:TGs):Prop:=
 ∀ (pins:List (Addr × Obj)) (s:Shared) (σ:St) (H:Hp) (vs:List V) (us:List Value) (Q:St→Hp→Prop),Inv X pins σ H s→Vals vs us→t vs σ H Q→
  wpAny (model X.prog X.w) X.A (assignInOrder ((assignEach ts X.env).map (·.2)) us) (fun _ s'=>∃ σ' H',Inv X pins σ' H' s'∧Q σ' H') X.xe s
noncomputable abbrev TSet:=V→V→V→Hp→(Hp→Prop)→Prop
noncomputable def PSet (X:Cx) (t:TSet):Prop:=
 ∀ (pins:List (Addr × Obj)) (s:Shared) (σ:St) (H:Hp) (o i v:V) (ov iv u:Value) (Q:Hp→Prop),Inv X pins σ H s→RelV o ov→RelV i iv→RelV v u→t o i v H Q→
  wpAny (model X.prog X.w) X.A (setItem ov iv u) (fun _ s'=>∃ H',Inv X pins σ H' s'∧Q H') X.xe s
section
variable {X:Cx} {pos:Pos}
noncomputable def gName (i:Nat):TG:=fun v σ H Q=>Q (σ.set i (some v)) H
theorem pg_name {i:Nat} {x:Str} (hN:X.N.Nodup) (hi:X.N[i]?=some x) (hx:Loc X.env.scope x) (hf:X.fn x=true ∨ X.env.scope.names.lookup x=some .local):PG X (.Name x pos) (gName i):=by
 intro pins s σ H v u Q I r h
 exact wpAny_assign_Name (store_ok I hN hi hx r (fun s' I'=>⟨_,H,I',h⟩) hf)
noncomputable def gNil:TGs:=fun vs σ H Q=>vs=[]∧Q σ H
noncomputable def gCons (t:TG) (u:TGs):TGs:=fun vs σ H Q=>∃ v r,vs=v :: r∧t v σ H fun σ' H'=>u r σ' H' Q
theorem pgs_nil:PGs X [] gNil:=by
 intro pins s σ H vs us Q I r h
 obtain ⟨e,h⟩:=h
 subst e
 cases r
 exact assignInOrder_nil ⟨σ,H,I,h⟩
theorem pgs_cons {e:Expr} {es:List Expr} {t:TG} {u:TGs} (h1:PG X e t) (h2:PGs X es u)
  (hs:autoParam ((assignEach (e :: es) X.env).map (·.2)=assign e X.env :: (assignEach es X.env).map (·.2)) Au.h1._auto_1):PGs X (e :: es) (gCons t u):=by
 intro pins s σ H vs us Q I r h
 obtain ⟨v,vr,e1,h⟩:=h
 subst e1
 cases r with
 | cons r rr=>
  rw [hs]
  refine assignInOrder_cons (thn (h1 pins s σ H _ _ _ I r h) fun _ s1 zq=>?_)
  obtain ⟨σ1,H1,I1,q1⟩:=zq
  exact h2 pins s1 σ1 H1 _ _ Q I1 rr q1
noncomputable def gTup (K:PySem.W.Frag) (n:Nat) (t:TGs):TG:=fun v σ H Q=>∃ a xs,v=.ref a∧SqT K H a xs∧xs.length=n∧t xs σ H Q
theorem pg_tup {es:List Expr} {k:Nat} {t:TGs} {n:Nat} (hc:X.calm=true) (h:PGs X es t)
  (hn:autoParam ((assignEach es X.env).length=n) Au.h1._auto_1) (hst:autoParam ((assignEach es X.env).findIdx? (·.1)=none) Au.h1._auto_1):PG X (.Tuple es k pos) (gTup X.K n t):=by
 intro pins s σ H v u Q I r hw
 obtain ⟨a,xs,e1,hq,hl,hw⟩:=hw
 subst e1
 cases r
 obtain ⟨its,rv,ht,hz⟩:=I.tuple hq
 refine assign_Tuple_tuple (I.ok.hd hc) ht (by simp [hn,← hl,rv.length]) hst fun h' hx=>?_
 have I1:Inv X pins σ H { s with heap:=h' }:=I.kept (t':=s.toks) fun b o e=>hx b o (Nat.ne_of_lt (Heap.lt_size e)) e
 exact h pins _ σ H xs _ Q I1 (by simpa using rv) hw
noncomputable def gSub (to ti:TE) (t:TSet):TG:=fun v σ H Q=>to σ H fun o H1=>ti σ H1 fun i H2=>t o i v H2 fun H3=>Q σ H3
theorem pg_sub {o i:Expr} {to ti:TE} {t:TSet} (ho:PE X o to) (hi:PE X i ti) (hs:PSet X t)
  (ha:autoParam (∀ v,assign (.Subscript o i pos) X.env v=(do
   let ov ← holding [v] (eval o X.env)
   let iv ← holding [v,ov] (eval i X.env)
   standAt pos
   holding [v,ov,iv] (setItem ov iv v)
   release [v,ov,iv] [])) Au.h5._auto_1):PG X (.Subscript o i pos) (gSub to ti t):=by
 intro pins s σ H v u Q I r h
 rw [ha]
 refine wpAny_bind (wpAny_holding (thn (ho pins s σ H _ I h) fun ov s1 zq=>?_))
 obtain ⟨x,H1,I1,r1,q1⟩:=zq
 refine wpAny_bind (wpAny_holding (thn (hi pins s1 σ H1 _ I1 q1) fun iv s2 zq=>?_))
 obtain ⟨y,H2,I2,r2,q2⟩:=zq
 refine wpAny_bind (wpAny_standAt (wpAny_bind (wpAny_holding (thn (hs pins s2 σ H2 x y v ov iv u _ I2 r1 r2 r q2) fun _ s3 zq=>?_))))
 obtain ⟨H3,I3,q3⟩:=zq
 exact wpAny_release ⟨σ,H3,I3,q3⟩
noncomputable def tAsg (te:TE) (g:TG):TS:=fun D σ H=>te σ H fun x H1=>g x σ H1 D.nx
theorem ps_asg {tg e:Expr} {te:TE} {g:TG} (he:PE X e te) (hg:PG X tg g) (hs:autoParam (swapsWithSole [tg] e pos.line X.env=pure false) Au.h1._auto_1) (hw:autoParam (swappedStores [tg] e X.env=pure none) Au.h1._auto_1)
  (h1:autoParam ((assignEach [tg] X.env).map (·.2)=[assign tg X.env]) Au.h1._auto_1):PS X (.Assign [tg] e pos) (tAsg te g):=by
 intro pins s σ H D I h
 refine wpAny_Assign_stores (thn (he pins s σ H _ I h) fun v s1 zq=>?_) hs hw
 obtain ⟨x,H1,I1,r1,q1⟩:=zq
 rw [h1]
 exact thn (hg pins s1 σ H1 x v _ I1 r1 q1) fun _ s2 q=>q
theorem ps_set {i:Nat} {x:Str} {e:Expr} {te:TE} {pos':Pos} (hN:X.N.Nodup) (hi:X.N[i]?=some x) (hx:Loc X.env.scope x) (he:PE X e te) (hs:autoParam (swapsWith e (some (.Name x pos')) pos.line X.env=pure false) Au.h1._auto_1) (hf:X.fn x=true ∨ X.env.scope.names.lookup x=some .local):
  PS X (.Assign [.Name x pos'] e pos) (tAsg te (gName i)):=by
 intro pins s σ H D I h
 refine wpAny_Assign_Name (thn (he pins s σ H _ I h) fun v s1 zq=>?_) hs
 obtain ⟨y,H1,I1,r1,q1⟩:=zq
 exact store_ok I1 hN hi hx r1 (fun s2 I2=>⟨_,H1,I2,q1⟩) hf
end
section
variable {X:Cx} {pos:Pos}
end
set_option genInjectivity false in
structure It where
 go:Nat→Hp→Prop
 yld:Nat→Hp→V→Hp→Prop
 stop:Nat→Hp→Prop
noncomputable def FpOk (X:Cx) (pins:List (Addr × Obj)) (H:Hp) (b:Addr):Prop:=
 H b=none∧b ≠ X.env.locals∧b ∉ X.fs∧(b ∈ X.ex ∨ X.s₀.heap.objs.size≤b)∧(∀ x c,X.env.cells.lookup x=some c→c ≠ b)∧∀ p ∈ X.pn ++ pins,p.1 ≠ b
theorem Inv.fpOk {X:Cx} {pins:List (Addr × Obj)} {σ:St} {H H':Hp} {s:Shared} {b:Addr} (I:Inv X pins σ H s) (hb:s.heap.objs.size≤b) (hn:H' b=none):FpOk X pins H' b:=by
 refine ⟨hn,Nat.ne_of_gt (Nat.lt_of_lt_of_le I.lt hb),I.nofs hb,.inr (Nat.le_trans I.sz hb),fun x c e z=>?_,fun p hp z=>?_⟩
 ·obtain ⟨v,q⟩:=I.cell x c e
  exact absurd (Nat.lt_of_lt_of_le q.lt (by rw [z]; exact hb)) (Nat.lt_irrefl _)
 ·exact absurd (Nat.lt_of_lt_of_le (Heap.lt_size (I.pin p hp).1) (by rw [z]; exact hb)) (Nat.lt_irrefl _)
noncomputable def QtH (X:Cx):Prop:=X.A.handled=none ∨ ∃ a o u,X.A.handled=some (.ref a)∧X.H₀ a=some (.frz o u)∧ZO o
noncomputable def Cd (qb:Bool) (X:Cx):Prop:=X.calm=true ∨ (qb=true∧QtH X)
theorem Cd.cm {X:Cx} (h:Cd false X):X.calm=true:=h.elim id fun z=>nomatch z.1
theorem Inv.qt {X:Cx} {pins:List (Addr × Obj)} {σ:List (Option V)} {H:Hp} {s:Shared} {qb:Bool} (I:Inv X pins σ H s) (h:Cd qb X):X.A.handled=none ∨ ∃ a,X.A.handled=some (.ref a)∧s.heap.Zat a:=by
 rcases h with h | ⟨_,h | ⟨a,o,u,e,q,z⟩⟩
 ·exact .inl (I.ok.hd h)
 ·exact .inl h
 ·exact .inr ⟨a,e,o,(I.hok a _ (I.base.frzs a o u q)).1,z⟩
structure Turn (qb:Bool) (P:Program) (w:World) (K:PySem.W.Frag) (tg:Expr) (J:It) (fp:List Addr) (it:Addr) (tn:Nat→Heap→Prop):Prop where
 mem:it ∈ fp
 obj:∀ i h,tn i h→∀ b ∈ fp,∃ o,h.get? b=some o∧∀ v,o.data ≠ .cell v
 keep:∀ i h h',tn i h→(∀ b ∈ fp,∀ o,h.get? b=some o→h'.get? b=some o)→tn i h'
 item:∀ (X:Cx),X.prog=P→X.w=w→X.K=K→Cd qb X→∀ (i:Nat) (pins:List (Addr × Obj)) (s:Shared) (σ:St) (H:Hp) (E:Value→Shared→Prop),Inv X pins σ H s→(∀ b ∈ fp,FpOk X pins H b)→tn i s.heap→J.go i H→
  wpAny (model P w) X.A (pyNext (.ref it)) (fun r s1=>∃ u,r=some u∧
   wpAny (model P w) X.A (letOwnedTupleGo tg (.ref it) u) (fun _ s2=>∃ x H',Inv X pins σ H' s2∧RelV x u∧J.yld i H x H'∧tn (i + 1) s2.heap∧∀ b ∈ fp,H' b=none) E s1) E s
 done:∀ (X:Cx),X.prog=P→X.w=w→X.K=K→Cd qb X→∀ (i:Nat) (pins:List (Addr × Obj)) (s:Shared) (σ:St) (H:Hp) (E:Value→Shared→Prop),Inv X pins σ H s→(∀ b ∈ fp,FpOk X pins H b)→tn i s.heap→J.stop i H→
  wpAny (model P w) X.A (pyNext (.ref it)) (fun r s1=>r=none∧Inv X pins σ H s1) E s
 self:∀ (A:Around) (i:Nat) (s:Shared) (Q:Value→Shared→Prop) (E:Value→Shared→Prop),tn i s.heap→Q (.ref it) s→wpAny (model P w) A (pyIter (.ref it)) Q E s
noncomputable abbrev TI:=St→Hp→(It→Hp→Prop)→Prop
noncomputable def PIEb (qb:Bool) (X:Cx) (pins:List (Addr × Obj)) (σ:St) (tg:Expr) (R:It→Hp→Prop) (itv:Value) (s2:Shared):Prop:=
 ∃ (it:Addr) (fp:List Addr) (tn:Nat→Heap→Prop) (J:It) (H':Hp),itv=.ref it∧Inv X pins σ H' s2∧Turn qb X.prog X.w X.K tg J fp it tn∧tn 0 s2.heap∧(∀ b ∈ fp,FpOk X pins H' b)∧R J H'
noncomputable def PIb (qb:Bool) (X:Cx) (tg iter:Expr) (wi:TI):Prop:=
 ∀ (pins:List (Addr × Obj)) (s:Shared) (σ:St) (H:Hp) (R:It→Hp→Prop),Inv X pins σ H s→wi σ H R→
  wpAny (model X.prog X.w) X.A (eval iter X.env) (fun v s1=>wpAny (model X.prog X.w) X.A (pyIter v) (PIEb qb X pins σ tg R) X.xe s1) X.xe s
noncomputable abbrev PIE:=PIEb false
noncomputable abbrev PI:=PIb false
theorem go_of {M:Model} {A:Around} {E:Value→Shared→Prop} {s:Shared} {tg:Expr} {it:Addr} {u:Value} {o:Obj} {n:String} {vs:Array Value} {Q:Unit→Shared→Prop} (ho:s.heap.get? it=some o) (hc:o.cls=.type n) (hd:o.data=.fields vs)
    (hn:["enumerate","zip","dict_itemiterator","dict_reverseitemiterator","odict_iterator","itertools.zip_longest","itertools.pairwise"].contains n=false) (hQ:Q () s):wpAny M A (letOwnedTupleGo tg (.ref it) u) Q E s:=by
  unfold letOwnedTupleGo
  cases tg <;> first
    | exact wpAny_pure hQ
    | (cases u <;> first
        | exact wpAny_pure hQ
        | (refine wpAny_bind (wpAny_load ho ?_)
           rw [hc,hd]
           show wpAny M A (if (["enumerate","zip","dict_itemiterator","dict_reverseitemiterator","odict_iterator","itertools.zip_longest","itertools.pairwise"].contains n && vs[0]? == some (rawInt _))=true then _ else _) Q E s
           rw [if_neg (by intro h; rw [hn,Bool.false_and] at h; cases h)]
           exact wpAny_pure hQ))
noncomputable def Itl (K:PySem.W.Frag) (a:Addr):It:=
 ⟨fun i H=>∃ xs x,SqL K H a xs∧xs[i]?=some x,fun i H x H'=>H'=H∧∀ xs,SqL K H a xs→xs[i]?=some x,fun i H=>∃ xs,SqL K H a xs∧xs.length≤i⟩
noncomputable def Itt (K:PySem.W.Frag) (a:Addr):It:=
 ⟨fun i H=>∃ xs x,SqT K H a xs∧xs[i]?=some x,fun i H x H'=>H'=H∧∀ xs,SqT K H a xs→xs[i]?=some x,fun i H=>∃ xs,SqT K H a xs∧xs.length≤i⟩
noncomputable def Itr (lo:Int) (n:Nat):It:=⟨fun i _=>i < n,fun i H x H'=>H'=H∧x=.int (lo + i),fun i _=>n≤i⟩
theorem turn_list {P:Program} {w:World} {K:PySem.W.Frag} {tg:Expr} (a it:Addr):Turn false P w K tg (Itl K a) [it] it (fun i h=>h.IsListIter it a i) where
 mem:=by simp
 obj:=fun i h st b hb=>by
  have e:b=it:=by simpa using hb
  subst e
  obtain ⟨o,e,c,d⟩:=st
  exact ⟨o,e,fun v z=>by rw [d] at z; cases z⟩
 keep:=fun i h h' st k=>st.at fun o e=>k it (by simp) o e
 item:=by
  intro X hP hw hK hc i pins s σ H E I hf st hg
  subst hP hw hK
  obtain ⟨xs,x,hq,hx⟩:=hg
  obtain ⟨its,rv,p,hz⟩:=I.list hq
  obtain ⟨u,hu,ru⟩:=rv.get hx
  obtain ⟨f0,f1,f2,f3,f4,f5⟩:=hf it (by simp)
  refine wpAny_pyNext_list_item st p.isList (x:=u) (by simpa using hu) fun h' st' sb=>?_
  have I1:Inv X pins σ H { s with heap:=h' }:=I.turned (t':=s.toks) (fun b o hb e=>(sb.2 b hb).trans e) f0 f1 f3 f4 f5
  obtain ⟨o,e,c,d⟩:=id st'
  exact ⟨u,rfl,go_of (s:={ s with heap:=h' }) e c d (by decide) ⟨x,H,I1,ru,⟨rfl,fun ys hy=>by rw [I.list_inj hy hq]; exact hx⟩,st',fun b hb=>(hf b hb).1⟩⟩
 done:=by
  intro X hP hw hK hc i pins s σ H E I hf st hg
  subst hP hw hK
  obtain ⟨xs,hq,hx⟩:=hg
  obtain ⟨its,rv,p,hz⟩:=I.list hq
  obtain ⟨f0,f1,f2,f3,f4,f5⟩:=hf it (by simp)
  have hl:=rv.length
  exact wpAny_pyNext_list_end (I.ok.hd hc.cm) st p.isList (by simp; omega) fun h' eb=>⟨rfl,I.turned (t':=s.toks) (fun b o hb e=>eb b o hb e) f0 f1 f3 f4 f5⟩
 self:=fun _ _ _ _ _ st h=>wpAny_pyIter_listiter st h
theorem turn_tuple {P:Program} {w:World} {K:PySem.W.Frag} {tg:Expr} (a it:Addr):Turn false P w K tg (Itt K a) [it] it (fun i h=>h.IsTupleIter it a i) where
 mem:=by simp
 obj:=fun i h st b hb=>by
  have e:b=it:=by simpa using hb
  subst e
  obtain ⟨o,e,c,d⟩:=st
  exact ⟨o,e,fun v z=>by rw [d] at z; cases z⟩
 keep:=fun i h h' st k=>st.at fun o e=>k it (by simp) o e
 item:=by
  intro X hP hw hK hc i pins s σ H E I hf st hg
  subst hP hw hK
  obtain ⟨xs,x,hq,hx⟩:=hg
  obtain ⟨its,rv,p,hz⟩:=I.tuple hq
  obtain ⟨u,hu,ru⟩:=rv.get hx
  obtain ⟨f0,f1,f2,f3,f4,f5⟩:=hf it (by simp)
  refine wpAny_pyNext_tuple_item st (show s.heap.IsTuple a its.toArray from p) (x:=u) (by simpa using hu) fun h' st' sb=>?_
  have I1:Inv X pins σ H { s with heap:=h' }:=I.turned (t':=s.toks) (fun b o hb e=>(sb.2 b hb).trans e) f0 f1 f3 f4 f5
  obtain ⟨o,e,c,d⟩:=id st'
  exact ⟨u,rfl,go_of (s:={ s with heap:=h' }) e c d (by decide) ⟨x,H,I1,ru,⟨rfl,fun ys hy=>by rw [I.tuple_inj hy hq]; exact hx⟩,st',fun b hb=>(hf b hb).1⟩⟩
 done:=by
  intro X hP hw hK hc i pins s σ H E I hf st hg
  subst hP hw hK
  obtain ⟨xs,hq,hx⟩:=hg
  obtain ⟨its,rv,p,hz⟩:=I.tuple hq
  obtain ⟨f0,f1,f2,f3,f4,f5⟩:=hf it (by simp)
  have hl:=rv.length
  exact wpAny_pyNext_tuple_end (I.ok.hd hc.cm) st (show s.heap.IsTuple a its.toArray from p) (by simp; omega) fun h' eb=>⟨rfl,I.turned (t':=s.toks) (fun b o hb e=>eb b o hb e) f0 f1 f3 f4 f5⟩
 self:=fun _ _ _ _ _ st h=>wpAny_pyIter_tupleiter st h
theorem turn_range {qb:Bool} {P:Program} {w:World} {K:PySem.W.Frag} {tg:Expr} (it:Addr) (lo:Int) (n:Nat):Turn qb P w K tg (Itr lo n) [it] it (fun i h=>IsRangeIter h it (lo + (i:Nat) * 1) ((n:Int) - (i:Nat)) 1) where
 mem:=by simp
 obj:=fun i h st b hb=>by
  have e:b=it:=by simpa using hb
  subst e
  exact ⟨_,st,fun v z=>by
   have z':Data.fields _=Data.cell v:=z
   cases z'⟩
 keep:=fun i h h' st k=>k it (by simp) _ st
 item:=by
  intro X hP hw hK hc i pins s σ H E I hf st hg
  subst hP hw hK
  obtain ⟨f0,f1,f2,f3,f4,f5⟩:=hf it (by simp)
  have hg':(i:Nat) < n:=hg
  refine wpAny_pyNext_range_item st (by omega) fun h' st' kk=>?_
  have I1:Inv X pins σ H { s with heap:=h',toks:=s.toks + 1 }:=I.turned (fun b o hb e=>(kk.2 b hb).trans e) f0 f1 f3 f4 f5
  have st2:IsRangeIter h' it (lo + ((i + 1:Nat):Int) * 1) ((n:Int) - ((i + 1:Nat):Int)) 1:=by
   have e1:lo + ((i + 1:Nat):Int) * 1=lo + (i:Nat) * 1 + 1:=by omega
   have e2:(n:Int) - ((i + 1:Nat):Int)=(n:Int) - (i:Nat) - 1:=by omega
   rw [e1,e2]; exact st'
  refine ⟨_,rfl,go_of (s:={ s with heap:=h',toks:=s.toks + 1 }) (n:="range_iterator") st2 rfl rfl (by decide) ⟨.int (lo + i),H,I1,⟨s.toks,?_⟩,⟨rfl,rfl⟩,st2,fun b hb=>(hf b hb).1⟩⟩
  rw [Int.mul_one]
 done:=by
  intro X hP hw hK hc i pins s σ H E I hf st hg
  subst hP hw hK
  obtain ⟨f0,f1,f2,f3,f4,f5⟩:=hf it (by simp)
  have hg':n≤i:=hg
  rcases I.qt hc with hh | ⟨ha,hh,z⟩
  ·exact wpAny_pyNext_range_end hh st (by omega) fun h' eb=>⟨rfl,I.turned (t':=s.toks) (fun b o hb e=>eb b o hb e) f0 f1 f3 f4 f5⟩
  ·exact rangeEndZ hh z st (by omega) fun h' eb=>⟨rfl,I.turned (t':=s.toks) (fun b o hb e=>eb b o hb e) f0 f1 f3 f4 f5⟩
 self:=fun _ _ _ _ _ st h=>wpAny_pyIter_rangeiter st h
end L2
namespace L2
open PySem PySem.Spec PyProof.Rows
section
variable {X:Cx} {tg:Expr}
noncomputable def iList (K:PySem.W.Frag) (tl:TE):TI:=fun σ H R=>tl σ H fun x H1=>∃ a,x=.ref a∧(∃ xs,SqL K H1 a xs)∧R (Itl K a) H1
noncomputable def iTup (K:PySem.W.Frag) (tl:TE):TI:=fun σ H R=>tl σ H fun x H1=>∃ a,x=.ref a∧(∃ xs,SqT K H1 a xs)∧R (Itt K a) H1
theorem pi_list {l:Expr} {tl:TE} (hl:PE X l tl):PI X tg l (iList X.K tl):=by
 intro pins s σ H R I h
 refine thn (hl pins s σ H _ I h) fun v s1 zq=>?_
 obtain ⟨x,H1,I1,r1,q1⟩:=zq
 obtain ⟨a,e,⟨xs,hq⟩,q⟩:=q1
 subst e
 cases r1
 obtain ⟨its,rv,p,hz⟩:=I1.list hq
 refine wpAny_pyIter_list p.isList ?_
 refine ⟨s1.heap.objs.size,[s1.heap.objs.size],_,_,H1,rfl,I1.kept (t':=s1.toks) fun b o e=>Heap.get?_push_of_some _ e,turn_list a _,⟨_,Heap.get?_push_size _ rfl,rfl,rfl⟩,fun b hb=>?_,q⟩
 have e:b=s1.heap.objs.size:=by simpa using hb
 subst e
 exact I1.fpOk (Nat.le_refl _) (I1.hok.fresh (Nat.le_refl _))
theorem pi_tup {l:Expr} {tl:TE} (hl:PE X l tl):PI X tg l (iTup X.K tl):=by
 intro pins s σ H R I h
 refine thn (hl pins s σ H _ I h) fun v s1 zq=>?_
 obtain ⟨x,H1,I1,r1,q1⟩:=zq
 obtain ⟨a,e,⟨xs,hq⟩,q⟩:=q1
 subst e
 cases r1
 obtain ⟨its,rv,p,hz⟩:=I1.tuple hq
 refine wpAny_pyIter_tuple (show s1.heap.IsTuple a its.toArray from p) ?_
 refine ⟨s1.heap.objs.size,[s1.heap.objs.size],_,_,H1,rfl,I1.kept (t':=s1.toks) fun b o e=>Heap.get?_push_of_some _ e,turn_tuple a _,⟨_,Heap.get?_push_size _ rfl,rfl,rfl⟩,fun b hb=>?_,q⟩
 have e:b=s1.heap.objs.size:=by simpa using hb
 subst e
 exact I1.fpOk (Nat.le_refl _) (I1.hok.fresh (Nat.le_refl _))
theorem range_it {qb:Bool} {pins:List (Addr × Obj)} {σ:St} {H:Hp} {s:Shared} {R:It→Hp→Prop} {E:Value→Shared→Prop} {lo hi:Int} {t u v:Tok} {tk:Nat} (I:Inv X pins σ H s) (h1:-(2 ^ 62)≤lo) (h2:lo < 2 ^ 62) (h3:-(2 ^ 62)≤hi) (h4:hi < 2 ^ 62)
  (q:R (Itr lo (hi - lo).toNat) H):wpAny (model X.prog X.w) X.A (pyIter (.ref s.heap.objs.size)) (PIEb qb X pins σ tg R) E { s with heap:=s.heap.push { cls:=.type "range",data:=.fields #[.int lo t,.int hi u,.int 1 v] },toks:=tk }:=by
 refine wpAny_pyIter_range (IsRange.new ..) (small_one h1 h2 h3 h4) ?_
 have I1:Inv X pins σ H { s with heap:=s.heap.push { cls:=.type "range",data:=.fields #[.int lo t,.int hi u,.int 1 v] },toks:=tk }:=I.kept fun b o e=>Heap.get?_push_of_some _ e
 refine ⟨(s.heap.push { cls:=.type "range",data:=.fields #[.int lo t,.int hi u,.int 1 v] }).objs.size,[(s.heap.push { cls:=.type "range",data:=.fields #[.int lo t,.int hi u,.int 1 v] }).objs.size],_,_,H,rfl,
  I1.kept (t':=tk) fun b o e=>Heap.get?_push_of_some _ e,turn_range _ lo (hi - lo).toNat,?_,fun b hb=>?_,q⟩
 ·have e1:lo + ((0:Nat):Int) * 1=lo:=by simp
  have e2:(((hi - lo).toNat:Nat):Int) - ((0:Nat):Int)=Builtin.Range.rangeSize lo hi 1:=by rw [rangeSize_one]; split <;> omega
  show IsRangeIter _ _ (lo + ((0:Nat):Int) * 1) ((((hi - lo).toNat:Nat):Int) - ((0:Nat):Int)) 1
  rw [e1,e2]
  exact Heap.get?_push_size _ rfl
 ·have e:b=(s.heap.push { cls:=.type "range",data:=.fields #[.int lo t,.int hi u,.int 1 v] }).objs.size:=by simpa using hb
  subst e
  exact I1.fpOk (Nat.le_refl _) (I1.hok.fresh (Nat.le_refl _))
noncomputable def iRng1 (ta:TA):TI:=fun σ H R=>ta σ H fun vs H1=>∃ j:Int,vs=[.int j]∧-(2 ^ 62)≤j∧j < 2 ^ 62∧R (Itr 0 j.toNat) H1
theorem pi_range1 {qb:Bool} {a:Expr} {ta:TA} {p pos:Pos} (hg:Gl X "range") (hm:X.mg "range" = none) (ha:PA X [a] ta) (hs:autoParam (starEach [a] X.env=[(false,eval a X.env)]) Au.h1._auto_1):PIb qb X tg (.Call (.Name "range" p) [a] [] pos) (iRng1 ta):=by
 intro pins s σ H R I h
 refine Call_ (ld_blt I hg hm boot_range (PyProof.Rows.callWith_type1 (thn (ha pos pins s σ H _ I h) fun us s1 zq=>?_) hs rfl))
 obtain ⟨vs,H1,I1,r1,q1⟩:=zq
 obtain ⟨j,e,q1,q2,q⟩:=q1
 subst e
 cases r1 with
 | cons r rr=>
  cases rr
  obtain ⟨t,rfl⟩:=r
  exact call_range_1 (range_it I1 (by omega) (by omega) q1 q2 (by simpa using q))
noncomputable def tFor (wi:TI) (g:TG) (tb:TS):TS:=fun D σ H=>wi σ H fun J H1=>∃ W:Nat→Nat→St→Hp→Prop,(∃ m,W 0 m σ H1)∧∀ i m σ H,W i m σ H→
 (J.stop i H∧D.nx σ H) ∨ (J.go i H∧∃ N:St→Hp→Prop,(∀ σ' H',N σ' H'→∃ m',m' < m∧W (i + 1) m' σ' H')∧∀ x H',J.yld i H x H'→g x σ H' fun σ2 H2=>tb { D with nx:=N,ct:=N,bk:=D.nx } σ2 H2)
noncomputable def pinsAt (fp:List Addr) (h:Heap):List (Addr × Obj):=fp.filterMap fun b=>(h.get? b).map fun o=>(b,o)
theorem mem_pinsAt {fp:List Addr} {h:Heap} {b:Addr} {o:Obj} (hb:b ∈ fp) (e:h.get? b=some o):(b,o) ∈ pinsAt fp h:=List.mem_filterMap.mpr ⟨b,hb,by rw [e]; rfl⟩
theorem of_pinsAt {fp:List Addr} {h:Heap} {p:Addr × Obj} (hp:p ∈ pinsAt fp h):p.1 ∈ fp∧h.get? p.1=some p.2:=by
 obtain ⟨b,hb,e⟩:=List.mem_filterMap.mp hp
 cases q:h.get? b with
 | none=>rw [q] at e; cases e
 | some o=>
  rw [q] at e
  have e':(b,o)=p:=Option.some.inj e
  subst e'
  exact ⟨hb,q⟩
theorem Inv.pinned {pins:List (Addr × Obj)} {σ:St} {H:Hp} {s:Shared} {fp:List Addr} (I:Inv X pins σ H s) (hf:∀ b ∈ fp,FpOk X pins H b) (ho:∀ b ∈ fp,∃ o,s.heap.get? b=some o∧∀ v,o.data ≠ .cell v):Inv X (pins ++ pinsAt fp s.heap) σ H s:=
 I.pins_of fun p hp=>(List.mem_append.mp hp).elim (fun z=>I.pin p (List.mem_append_right _ z)) fun z=>by
  obtain ⟨hb,e⟩:=of_pinsAt z
  obtain ⟨f0,f1,f2,_⟩:=hf p.1 hb
  obtain ⟨o,e',d⟩:=ho p.1 hb
  rw [e] at e'; cases e'
  exact ⟨e,f0,f1,f2,d⟩
theorem Inv.unpinned {pins pl:List (Addr × Obj)} {σ:St} {H:Hp} {s:Shared} (I:Inv X (pins ++ pl) σ H s):Inv X pins σ H s:=I.pins_of fun p hp=>I.pin p (List.mem_append_right _ (List.mem_append_left _ hp))
theorem ps_for {iter:Expr} {body:List Stmt} {wi:TI} {g:TG} {tb:TS} {pos:Pos} (hp:PassesOwn (model X.prog X.w) X.A X.env X.xe) (hc:X.calm=true) (hi:PI X tg iter wi) (hg:PG X tg g) (hb:PSs X body tb)
  (hs:autoParam (∀ x,foldedSetIterable iter X.env x=pure x) Au.h5._auto_1):PS X (.For tg iter body [] pos) (tFor wi g tb):=by
 intro pins s σ H D I h
 refine wpAny_For (thn (hi pins s σ H _ I h) fun v s1 h1=>thn h1 fun itv s2 h2=>?_) hs
 obtain ⟨it,fp,tn,J,H2,e,I2,T,st2,f2,W,⟨m0,w0⟩,turn⟩:=h2
 subst e
 -- what stays true of the iterator's objects through the loop
 have stat:∀ {H':Hp},(∀ b ∈ fp,H' b=none)→∀ b ∈ fp,FpOk X pins H' b:=fun hn b hb=>⟨hn b hb,(f2 b hb).2⟩
 refine codeAny_forLoop_any (fun n s'=>∃ i σ' H',Inv X pins σ' H' s'∧tn i s'.heap∧(∀ b ∈ fp,H' b=none)∧W i n σ' H') ?_ m0 ⟨0,σ,H2,I2,st2,fun b hb=>(f2 b hb).1,w0⟩
 rintro n s3 ⟨i,σ3,H3,I3,st3,fr3,w3⟩
 rcases turn i n σ3 H3 w3 with ⟨stop,qn⟩ | ⟨go,N,hN,step⟩
 ·refine wpAny_passesOwn hp (thn (T.done X rfl rfl rfl (.inl hc) i pins s3 σ3 H3 X.xe I3 (stat fr3) st3 stop) fun r s4 zq=>?_)
  obtain ⟨hr,I4⟩:=zq
  subst hr
  exact wpAny_execs_nil ⟨σ3,H3,I4,qn⟩
 ·refine wpAny_passesOwn hp (thn (T.item X rfl rfl rfl (.inl hc) i pins s3 σ3 H3 X.xe I3 (stat fr3) st3 go) fun r s4 zq=>?_)
  obtain ⟨u,hr,h4⟩:=zq
  subst hr
  refine wpAny_passesOwn hp (thn h4 fun _ s5 zq=>?_)
  obtain ⟨x,H5,I5,r5,y5,st5,fr5⟩:=zq
  have I5':=I5.pinned (stat fr5) (T.obj _ _ st5)
  refine wpAny_passesOwn hp (thn (hg _ s5 σ3 H5 x u _ I5' r5 (step x H5 y5)) fun _ s6 zq=>?_)
  obtain ⟨σ6,H6,I6,q6⟩:=zq
  refine wpAny_passesOwn hp (thn (hb _ s6 σ6 H6 _ I6 q6) fun f s7 q7=>?_)
  have again:∀ {σ7:St} {H7:Hp},Inv X (pins ++ pinsAt fp s5.heap) σ7 H7 s7→N σ7 H7→∃ m,m < n∧∃ i σ' H',Inv X pins σ' H' s7∧tn i s7.heap∧(∀ b ∈ fp,H' b=none)∧W i m σ' H':=fun {σ7 H7} I7 n7=>by
   obtain ⟨m',hm,w7⟩:=hN σ7 H7 n7
   refine ⟨m',hm,i + 1,σ7,H7,I7.unpinned,T.keep _ _ _ st5 fun b hb o e=>(I7.pin (b,o) (List.mem_append_right _ (List.mem_append_right _ (mem_pinsAt hb e)))).1,fun b hb=>?_,w7⟩
   obtain ⟨o,e,d⟩:=T.obj _ _ st5 b hb
   exact (I7.pin (b,o) (List.mem_append_right _ (List.mem_append_right _ (mem_pinsAt hb e)))).2.1
  cases f with
  | next=>obtain ⟨σ7,H7,I7,n7⟩:=q7; exact again I7 n7
  | cont=>obtain ⟨σ7,H7,I7,n7⟩:=q7; exact again I7 n7
  | brk=>obtain ⟨σ7,H7,I7,q7⟩:=q7; exact ⟨σ7,H7,I7.unpinned,q7⟩
  | ret v=>obtain ⟨x7,σ7,H7,I7,r7,q7⟩:=q7; exact ⟨x7,σ7,H7,I7.unpinned,r7,q7⟩
end
end L2
namespace L2
open PySem PySem.Spec PyProof.Rows
noncomputable abbrev R2:=V→V→Hp→VK→Prop
noncomputable def OpR (X:Cx) (f:Value→Value→Sem Value) (r:R2):Prop:=
 ∀ (pins:List (Addr × Obj)) (s:Shared) (σ:St) (H:Hp) (x y:V) (v u:Value) (Q:VK),Inv X pins σ H s→RelV x v→RelV y u→r x y H Q→
  wpAny (model X.prog X.w) X.A (f v u) (EP X pins σ Q) X.xe s
noncomputable def UnR (X:Cx) (f:Value→Sem Value) (r:V→Hp→VK→Prop):Prop:=
 ∀ (pins:List (Addr × Obj)) (s:Shared) (σ:St) (H:Hp) (x:V) (v:Value) (Q:VK),Inv X pins σ H s→RelV x v→r x H Q→
  wpAny (model X.prog X.w) X.A (f v) (EP X pins σ Q) X.xe s
noncomputable def CallR (X:Cx) (f:Value) (r:List V→Hp→VK→Prop):Prop:=
 ∀ (pins:List (Addr × Obj)) (s:Shared) (σ:St) (H:Hp) (xs:List V) (us:List Value) (Q:VK),Inv X pins σ H s→Vals xs us→r xs H Q→
  wpAny (model X.prog X.w) X.A (call f us) (EP X pins σ Q) X.xe s
noncomputable def tOp (r:R2) (ta tb:TE):TE:=fun σ H Q=>ta σ H fun x H1=>tb σ H1 fun y H2=>r x y H2 Q
noncomputable def tUn (r:V→Hp→VK→Prop) (ta:TE):TE:=fun σ H Q=>ta σ H fun x H1=>r x H1 Q
noncomputable def rI (C:Int→Int→Prop) (g:Int→Int→V):R2:=fun x y H Q=>∃ i j,x=.int i∧y=.int j∧C i j∧Q (g i j) H
noncomputable def rI0 (g:Int→Int→V):R2:=fun x y H Q=>∃ i j,x=.int i∧y=.int j∧Q (g i j) H
noncomputable def rU (g:Int→V):V→Hp→VK→Prop:=fun x H Q=>∃ i,x=.int i∧Q (g i) H
section
variable {X:Cx} {a b c:Expr} {ta tb tc:TE} {pos:Pos}
theorem binT (ha:PE X a ta) (hb:PE X b tb) {pins:List (Addr × Obj)} {s:Shared} {σ:St} {H:Hp} {R:V→V→Hp→Prop} (I:Inv X pins σ H s)
  (h:ta σ H fun x H1=>tb σ H1 fun y H2=>R x y H2) {Q:Value→Shared→Prop} {f:Value→Value→Sem Value}
  (hf:∀ v u s2 x y H2,Inv X pins σ H2 s2→RelV x v→RelV y u→R x y H2→wpAny (model X.prog X.w) X.A (f v u) Q X.xe s2):
  wpAny (model X.prog X.w) X.A (eval a X.env) (fun v s₁=>wpAny (model X.prog X.w) X.A (eval b X.env) (fun u s₂=>wpAny (model X.prog X.w) X.A (f v u) Q X.xe s₂) X.xe s₁) X.xe s:=by
 refine thn (ha pins s σ H _ I h) fun v s1 zq=>?_
 obtain ⟨x,H1,I1,r1,q1⟩:=zq
 refine thn (hb pins s1 σ H1 _ I1 q1) fun u s2 zq=>?_
 obtain ⟨y,H2,I2,r2,q2⟩:=zq
 exact hf v u s2 x y H2 I2 r1 r2 q2
theorem pe_op {op:Operator} {r:R2} (ho:OpR X (binaryOp op) r) (ha:PE X a ta) (hb:PE X b tb):PE X (.BinOp a op b pos) (tOp r ta tb):=by
 intro pins s σ H Q I h
 exact wpAny_BinOp (binT ha hb I h fun v u s2 x y H2 I2 rx ry q=>ho pins s2 σ H2 x y v u Q I2 rx ry q)
theorem pe_un {op:UnaryOp} {r:V→Hp→VK→Prop} (ho:UnR X (unaryOp op) r) (ha:PE X a ta):PE X (.UnaryOp op a pos) (tUn r ta):=by
 intro pins s σ H Q I h
 exact UnaryOp_ (thn (ha pins s σ H _ I h) fun v s1 zq=>ex5 zq fun x H1 I1 r1 q1=>ho pins s1 σ H1 x v Q I1 r1 q1)
theorem opI {f:Value→Value→Sem Value} {C:Int→Int→Prop} {g:Int→Int→Int}
  (rule:∀ (i j:Int) (t u:Tok) (s:Shared) (Q:Value→Shared→Prop) (E:Value→Shared→Prop),C i j→Q (.int (g i j) s.toks) { s with toks:=s.toks + 1 }→wpAny (model X.prog X.w) X.A (f (.int i t) (.int j u)) Q E s):
  OpR X f (rI C fun i j=>.int (g i j)):=by
 intro pins s σ H x y v u Q I rx ry h
 obtain ⟨i,j,rfl,rfl,hc,q⟩:=h
 obtain ⟨t,rfl⟩:=rx
 obtain ⟨t',rfl⟩:=ry
 exact rule i j t t' s _ _ hc ⟨.int (g i j),H,I.tok _,⟨_,rfl⟩,q⟩
theorem opI0 {f:Value→Value→Sem Value} {g:Int→Int→Int}
  (rule:∀ (i j:Int) (t u:Tok) (s:Shared) (Q:Value→Shared→Prop) (E:Value→Shared→Prop),Q (.int (g i j) s.toks) { s with toks:=s.toks + 1 }→wpAny (model X.prog X.w) X.A (f (.int i t) (.int j u)) Q E s):
  OpR X f (rI0 fun i j=>.int (g i j)):=by
 intro pins s σ H x y v u Q I rx ry h
 obtain ⟨i,j,rfl,rfl,q⟩:=h
 obtain ⟨t,rfl⟩:=rx
 obtain ⟨t',rfl⟩:=ry
 exact rule i j t t' s _ _ ⟨.int (g i j),H,I.tok _,⟨_,rfl⟩,q⟩
theorem opB0 {f:Value→Value→Sem Value} {g:Int→Int→Bool}
  (rule:∀ (i j:Int) (t u:Tok) (s:Shared) (Q:Value→Shared→Prop) (E:Value→Shared→Prop),Q (.bool (g i j)) s→wpAny (model X.prog X.w) X.A (f (.int i t) (.int j u)) Q E s):
  OpR X f (rI0 fun i j=>.bl (g i j)):=by
 intro pins s σ H x y v u Q I rx ry h
 obtain ⟨i,j,rfl,rfl,q⟩:=h
 obtain ⟨t,rfl⟩:=rx
 obtain ⟨t',rfl⟩:=ry
 exact rule i j t t' s _ _ ⟨.bl (g i j),H,I,rfl,q⟩
noncomputable def CDiv (i j:Int):Prop:=0 < j∧j < 1073741824
noncomputable def CMul (i j:Int):Prop:=(-(2 ^ 64) < i∧i < 2 ^ 64) ∨ (-(2 ^ 64) < j∧j < 2 ^ 64)
theorem CMul.ok {i j:Int} (h:CMul i j):IntMulOk i j:=by
 rcases h with ⟨h1,h2⟩ | ⟨h1,h2⟩
 ·exact .of_left (intBits_le_64 h1 h2)
 ·exact .of_right (intBits_le_64 h1 h2)
theorem op_add:OpR X (binaryOp .Add) (rI0 fun i j=>.int (i + j)):=opI0 fun _ _ _ _ _ _ _ q=>add_int q
theorem op_sub:OpR X (binaryOp .Sub) (rI0 fun i j=>.int (i - j)):=opI0 fun _ _ _ _ _ _ _ q=>sub_int q
theorem op_mul:OpR X (binaryOp .Mult) (rI CMul fun i j=>.int (i * j)):=opI fun _ _ _ _ _ _ _ hc q=>mul_int q hc.ok
theorem op_fdiv:OpR X (binaryOp .FloorDiv) (rI CDiv fun i j=>.int (i / j)):=opI fun i j _ _ _ _ _ hc q=>by
 have h1:(0:Int) < j:=hc.1
 have h2:j < 1073741824:=hc.2
 exact floordiv_int (by omega) (by rw [Int.fdiv_eq_ediv_of_nonneg i (by omega)]; exact q) (.inl (PyProof.noPylong_small (by omega)))
theorem op_mod:OpR X (binaryOp .Mod) (rI (fun _ j=>0 < j) fun i j=>.int (i % j)):=opI fun i j _ _ _ _ _ hc q=>by
 have h1:(0:Int) < j:=hc
 exact mod_int' (by omega) (by rw [Int.fmod_eq_emod_of_nonneg i (by omega)]; exact q)
theorem unI {f:Value→Sem Value} {g:Int→Int}
  (rule:∀ (i:Int) (t:Tok) (s:Shared) (Q:Value→Shared→Prop) (E:Value→Shared→Prop),Q (.int (g i) s.toks) { s with toks:=s.toks + 1 }→wpAny (model X.prog X.w) X.A (f (.int i t)) Q E s):
  UnR X f (rU fun i=>.int (g i)):=by
 intro pins s σ H x v Q I rx h
 obtain ⟨i,rfl,q⟩:=h
 obtain ⟨t,rfl⟩:=rx
 exact rule i t s _ _ ⟨.int (g i),H,I.tok _,⟨_,rfl⟩,q⟩
theorem un_neg:UnR X (unaryOp .USub) (rU fun i=>.int (-i)):=unI fun _ _ _ _ _ q=>neg_int q
end
noncomputable def scal:V→V→Bool
 | .non,.non=>true | .non,.int _=>true | .int _,.non=>true | .non,.bl _=>true | .bl _,.non=>true | .non,.str _=>true | .str _,.non=>true
 | .int _,.int _=>true | .bl _,.bl _=>true | .str _,.str _=>true | .byt _,.byt _=>true
 | .int _,.str _=>true | .str _,.int _=>true | .bl _,.str _=>true | .str _,.bl _=>true
 | _,_=>false
noncomputable def rEq:R2:=fun x y H Q=>scal x y=true∧Q (.bl (decide (x=y))) H
noncomputable def rNe:R2:=fun x y H Q=>scal x y=true∧Q (.bl (!decide (x=y))) H
theorem dec_int {i j:Int}:decide (V.int i=V.int j)=(i == j):=by
 rw [Bool.eq_iff_iff]
 simp
theorem dec_bl {i j:Bool}:decide (V.bl i=V.bl j)=(i == j):=by
 rw [Bool.eq_iff_iff]
 simp
theorem dec_str {i j:Str}:decide (V.str i=V.str j)=(i == j):=by
 rw [Bool.eq_iff_iff]
 simp
theorem dec_byt {i j:Array UInt8}:decide (V.byt i=V.byt j)=(i.toList == j.toList):=by
 rw [Bool.eq_iff_iff]
 cases i
 cases j
 simp
section
variable {X:Cx} {a b c:Expr} {ta tb tc:TE} {pos:Pos}
theorem fin_bl {pins:List (Addr × Obj)} {σ:St} {H:Hp} {s:Shared} {Q:VK} {k k':Bool} (I:Inv X pins σ H s) (q:Q (.bl k) H) (e:k=k'):EP X pins σ Q (.bool k') s:=by
 subst e
 exact ⟨.bl k,H,I,rfl,q⟩
theorem op_eq:OpR X (compareOp .Eq) rEq:=by
 intro pins s σ H x y v u Q I rx ry h
 obtain ⟨hs,q⟩:=h
 cases x with
 | non=>
  cases rx
  cases y with
  | non=>cases ry; exact PySem.EqNone.eq_none_none (fin_bl I q (by simp))
  | bl j=>cases ry; exact PySem.EqNone.eq_none_bool (fin_bl I q (by simp))
  | int j=>obtain ⟨t',rfl⟩:=ry; exact PySem.EqNone.eq_none_int (fin_bl I q (by simp))
  | str j=>obtain ⟨t',rfl⟩:=ry; exact PySem.EqNone.eq_none_str (fin_bl I q (by simp))
  | _=>exact absurd (show false=true from hs) Bool.false_ne_true
 | bl i=>
  cases rx
  cases y with
  | non=>cases ry; exact PySem.EqNone.eq_bool_none (fin_bl I q (by simp))
  | bl j=>cases ry; exact eq_bool (fin_bl I q dec_bl)
  | str j=>obtain ⟨t',rfl⟩:=ry; exact PySem.EqMixed.eq_bool_str (fin_bl I q (by simp))
  | _=>exact absurd (show false=true from hs) Bool.false_ne_true
 | int i=>
  obtain ⟨t,rfl⟩:=rx
  cases y with
  | non=>cases ry; exact PySem.EqNone.eq_int_none (fin_bl I q (by simp))
  | int j=>obtain ⟨t',rfl⟩:=ry; exact eq_int (fin_bl I q dec_int)
  | str j=>obtain ⟨t',rfl⟩:=ry; exact PySem.EqMixed.eq_int_str (fin_bl I q (by simp))
  | _=>exact absurd (show false=true from hs) Bool.false_ne_true
 | str i=>
  obtain ⟨t,rfl⟩:=rx
  cases y with
  | non=>cases ry; exact PySem.EqNone.eq_str_none (fin_bl I q (by simp))
  | bl j=>cases ry; exact PySem.EqMixed.eq_str_bool (fin_bl I q (by simp))
  | int j=>obtain ⟨t',rfl⟩:=ry; exact PySem.EqMixed.eq_str_int (fin_bl I q (by simp))
  | str j=>obtain ⟨t',rfl⟩:=ry; exact eq_str (fin_bl I q dec_str)
  | _=>exact absurd (show false=true from hs) Bool.false_ne_true
 | byt i=>
  obtain ⟨t,rfl⟩:=rx
  cases y with
  | byt j=>obtain ⟨t',rfl⟩:=ry; exact PySem.W.eq_bytes (fin_bl I q dec_byt)
  | _=>exact absurd (show false=true from hs) Bool.false_ne_true
 | _=>cases y <;> exact absurd (show false=true from hs) Bool.false_ne_true
theorem op_ne:OpR X (compareOp .NotEq) rNe:=by
 intro pins s σ H x y v u Q I rx ry h
 obtain ⟨hs,q⟩:=h
 cases x with
 | non=>
  cases rx
  cases y with
  | non=>cases ry; exact PySem.EqNone.ne_none_none (fin_bl I q (by simp))
  | bl j=>cases ry; exact PySem.EqNone.ne_none_bool (fin_bl I q (by simp))
  | int j=>obtain ⟨t',rfl⟩:=ry; exact PySem.EqNone.ne_none_int (fin_bl I q (by simp))
  | str j=>obtain ⟨t',rfl⟩:=ry; exact PySem.EqNone.ne_none_str (fin_bl I q (by simp))
  | _=>exact absurd (show false=true from hs) Bool.false_ne_true
 | bl i=>
  cases rx
  cases y with
  | non=>cases ry; exact PySem.EqNone.ne_bool_none (fin_bl I q (by simp))
  | bl j=>cases ry; exact ne_bool (fin_bl I q (congrArg not dec_bl))
  | str j=>obtain ⟨t',rfl⟩:=ry; exact PySem.EqMixed.ne_bool_str (fin_bl I q (by simp))
  | _=>exact absurd (show false=true from hs) Bool.false_ne_true
 | int i=>
  obtain ⟨t,rfl⟩:=rx
  cases y with
  | non=>cases ry; exact PySem.EqNone.ne_int_none (fin_bl I q (by simp))
  | int j=>obtain ⟨t',rfl⟩:=ry; exact ne_int (fin_bl I q (congrArg not dec_int))
  | str j=>obtain ⟨t',rfl⟩:=ry; exact PySem.EqMixed.ne_int_str (fin_bl I q (by simp))
  | _=>exact absurd (show false=true from hs) Bool.false_ne_true
 | str i=>
  obtain ⟨t,rfl⟩:=rx
  cases y with
  | non=>cases ry; exact PySem.EqNone.ne_str_none (fin_bl I q (by simp))
  | bl j=>cases ry; exact PySem.EqMixed.ne_str_bool (fin_bl I q (by simp))
  | int j=>obtain ⟨t',rfl⟩:=ry; exact PySem.EqMixed.ne_str_int (fin_bl I q (by simp))
  | str j=>obtain ⟨t',rfl⟩:=ry; exact ne_str (fin_bl I q (congrArg not dec_str))
  | _=>exact absurd (show false=true from hs) Bool.false_ne_true
 | byt i=>
  obtain ⟨t,rfl⟩:=rx
  cases y with
  | byt j=>obtain ⟨t',rfl⟩:=ry; exact PySem.W.ne_bytes (fin_bl I q (congrArg not dec_byt))
  | _=>exact absurd (show false=true from hs) Bool.false_ne_true
 | _=>cases y <;> exact absurd (show false=true from hs) Bool.false_ne_true
theorem op_lt:OpR X (compareOp .Lt) (rI0 fun i j=>.bl (decide (i < j))):=opB0 fun _ _ _ _ _ _ _ q=>lt_int q
theorem op_le:OpR X (compareOp .LtE) (rI0 fun i j=>.bl (decide (i≤j))):=opB0 fun _ _ _ _ _ _ _ q=>le_int q
theorem op_gt:OpR X (compareOp .Gt) (rI0 fun i j=>.bl (decide (j < i))):=opB0 fun _ _ _ _ _ _ _ q=>gt_int q
theorem op_ge:OpR X (compareOp .GtE) (rI0 fun i j=>.bl (decide (j≤i))):=opB0 fun _ _ _ _ _ _ _ q=>ge_int q
theorem nomark (b:Expr) {op:CmpOp} (h:autoParam (op ≠ .In) Au.h2._auto_1) (h2:autoParam (op ≠ .NotIn) Au.h2._auto_1):behindInMarks op b=false:=by
 have e1:(op == CmpOp.In)=false:=by cases op <;> first | rfl | exact absurd rfl h
 have e2:(op == CmpOp.NotIn)=false:=by cases op <;> first | rfl | exact absurd rfl h2
 cases b <;> simp [behindInMarks,e1,e2]
theorem pe_cmpR {op:CmpOp} {r:R2} (ho:OpR X (compareOp op) r) (ha:PE X a ta) (hb:PE X b tb) (hm:behindInMarks op b=false):PE X (.Compare a [op] [b] pos) (tOp r ta tb):=by
 intro pins s σ H Q I h
 exact wpAny_Compare1 (binT ha hb I h fun v u s2 x y H2 I2 rx ry q=>ho pins s2 σ H2 x y v u Q I2 rx ry q) hm
noncomputable def tTest (t:TE):TT:=fun σ H Q=>t σ H fun x H'=>∃ k,x=.bl k∧Q k H'
theorem pt_cmpR {op:CmpOp} {r:R2} (ho:OpR X (compareOp op) r) (ha:PE X a ta) (hb:PE X b tb) (hm:behindInMarks op b=false):PT X (.Compare a [op] [b] pos) (tTest (tOp r ta tb)):=by
 intro pins s σ H Q I h
 refine wpAny_isTrue_Compare1 (thn (ha pins s σ H _ I h) fun v s1 zq=>ex5 zq fun x H1 I1 r1 q1=>thn (hb pins s1 σ H1 _ I1 q1) fun u s2 zq=>ex5 zq fun y H2 I2 r2 q2=>
  thn (ho pins s2 σ H2 x y v u _ I2 r1 r2 q2) fun c s3 ⟨z,H3,I3,r3,k,e,q3⟩=>?_) hm
 subst e
 cases r3
 exact wpAny_truthy_bool ⟨H3,I3,q3⟩
noncomputable def tChain (r r':R2) (ta tb tc:TE):TE:=fun σ H Q=>ta σ H fun x H1=>tb σ H1 fun y H2=>r x y H2 fun z H3=>∃ k,z=.bl k∧
 (if k=true then tc σ H3 fun w' H4=>r' y w' H4 Q else Q (.bl false) H3)
theorem pt_chain {op op':CmpOp} {r r':R2} (ho:OpR X (compareOp op) r) (ho':OpR X (compareOp op') r') (ha:PE X a ta) (hb:PE X b tb) (hc:PE X c tc)
  (hm:lastMarks [op,op'] [b,c]=false:=by with_unfolding_all rfl):PT X (.Compare a [op,op'] [b,c] pos) (tTest (tChain r r' ta tb tc)):=by
 intro pins s σ H Q I h
 refine isTrue_chain (thn (ha pins s σ H _ I h) fun v s1 zq=>ex5 zq fun x H1 I1 r1 q1=>test_link (thn (hb pins s1 σ H1 _ I1 q1) fun u s2 zq=>ex5 zq fun y H2 I2 r2 q2=>
  thn (ho pins s2 σ H2 x y v u _ I2 r1 r2 q2) fun d s3 ⟨z,H3,I3,r3,k,e,q3⟩=>?_)) hm
 subst e
 cases r3
 refine wpAny_truthy_bool ?_
 cases k with
 | false=>
  obtain ⟨k',e',q'⟩:=q3
  cases e'
  exact ite_ff ⟨H3,I3,q'⟩
 | true=>
  refine ite_tt (test_last (thn (hc pins s3 σ H3 _ I3 q3) fun w' s4 ⟨z',H4,I4,r4,q4⟩=>thn (ho' pins s4 σ H4 y z' u w' _ I4 r2 r4 q4) fun d' s5 zq=>?_))
  obtain ⟨z2,H5,I5,r5,k2,e2,q5⟩:=zq
  subst e2
  cases r5
  exact wpAny_truthy_bool ⟨H5,I5,q5⟩
theorem line63:(sizeLine:Nat) < 2 ^ 63:=by rw [sizeLine_eq]; decide
theorem op_add_str:OpR X (binaryOp .Add) (fun x y H Q=>∃ i j,x=.str i∧y=.str j∧i.length + j.length≤sizeLine∧Q (.str (i ++ j)) H):=by
 intro pins s σ H x y v u Q I rx ry h
 obtain ⟨i,j,rfl,rfl,hz,q⟩:=h
 obtain ⟨t,rfl⟩:=rx
 obtain ⟨t',rfl⟩:=ry
 exact add_str (fun t' tk=>⟨.str (i ++ j),H,I.tok _,⟨_,rfl⟩,q⟩) hz
theorem vals1 {x:V} {us:List Value} (r:Vals [x] us):∃ u,us=[u]∧RelV x u:=by
 cases r with
 | cons r1 r2=>cases r2; exact ⟨_,rfl,r1⟩
theorem vals2 {x y:V} {us:List Value} (r:Vals [x,y] us):∃ u w',us=[u,w']∧RelV x u∧RelV y w':=by
 cases r with
 | cons r1 r2=>
  cases r2 with
  | cons r3 r4=>cases r4; exact ⟨_,_,rfl,r1,r3⟩
theorem call_max2 (hc:X.calm=true):CallR X (.builtin "max") (fun xs H Q=>∃ i j,xs=[.int i,.int j]∧Q (.int (if j > i then j else i)) H):=by
 intro pins s σ H xs us Q I r h
 obtain ⟨i,j,rfl,q⟩:=h
 obtain ⟨u,w',rfl,⟨t,rfl⟩,⟨t',rfl⟩⟩:=vals2 r
 refine max_two_ints (I.ok.hd hc) fun h' tk k=>⟨_,H,I.kept k,?_,q⟩
 by_cases hj:j > i
 ·rw [if_pos hj,if_pos hj]; exact ⟨_,rfl⟩
 ·rw [if_neg hj,if_neg hj]; exact ⟨_,rfl⟩
theorem call_min2 (hc:X.calm=true):CallR X (.builtin "min") (fun xs H Q=>∃ i j,xs=[.int i,.int j]∧Q (.int (if j < i then j else i)) H):=by
 intro pins s σ H xs us Q I r h
 obtain ⟨i,j,rfl,q⟩:=h
 obtain ⟨u,w',rfl,⟨t,rfl⟩,⟨t',rfl⟩⟩:=vals2 r
 refine min_two_ints (I.ok.hd hc) fun h' tk k=>⟨_,H,I.kept k,?_,q⟩
 by_cases hj:j < i
 ·rw [if_pos hj,if_pos hj]; exact ⟨_,rfl⟩
 ·rw [if_neg hj,if_neg hj]; exact ⟨_,rfl⟩
theorem call_divmod:CallR X (.builtin "divmod") (fun xs H Q=>∃ i j,xs=[.int i,.int j]∧CDiv i j∧∀ p,H p=none→Q (.ref p) (upd H p (.tup [.int (i / j),.int (i % j)]))):=by
 intro pins s σ H xs us Q I r h
 obtain ⟨i,j,rfl,⟨h1,h2⟩,q⟩:=h
 obtain ⟨u,w',rfl,⟨t,rfl⟩,⟨t',rfl⟩⟩:=vals2 r
 refine divmod_int (by omega) ?_ (.inl (PyProof.noPylong_small (by omega)))
 rw [Int.fdiv_eq_ediv_of_nonneg i (by omega),Int.fmod_eq_emod_of_nonneg i (by omega)]
 have hn:H s.heap.objs.size=none:=I.hok.fresh (Nat.le_refl _)
 refine ⟨.ref s.heap.objs.size,_,?_,rfl,q _ hn⟩
 refine I.laid (fun b o e=>Heap.get?_push_of_some _ e) (Nat.le_refl _) ⟨by simp only [List.length_cons,List.length_nil]; rw [sizeLine_eq]; decide,[.int (i / j) s.toks,.int (i % j) (s.toks + 1)],.cons ⟨_,rfl⟩ (.cons ⟨_,rfl⟩ .nil),?_⟩
 exact ⟨_,Heap.get?_push_size s.heap rfl,rfl,0,rfl⟩
end
end L2
namespace L2
open PySem PySem.Spec PyProof.Rows
structure ObjM (h:Heap) (x dx C:Addr) (mA:Str→Option Value):Prop where
 obj:h.get? x=some (PySem.W.instObj C dx)
 ns:h.Ns1 dx mA
 ne:dx ≠ x
theorem lookIn_ns {h:Heap} {dx:Addr} {mA:Str→Option Value} (n:h.Ns1 dx mA):∃ od,h.get? dx=some od∧∀ name,PySem.W.lookIn name od=some (mA name):=by
 obtain ⟨o,es,ep,ho,hd,hk,_,hm⟩:=n
 refine ⟨o,ho,fun name=>?_⟩
 have e:=hm name
 unfold nsFind findBy at e
 rw [← Array.find?_toList] at e
 unfold PySem.W.lookIn
 rw [hd]
 dsimp only
 split
 ·rename_i y q
  rw [q] at e
  exact congrArg some e
 ·rename_i q
  rw [q] at e
  have a:es.toList.any (·.refKey)=false:=by
   rw [List.any_eq_false]
   intro y hy
   obtain ⟨z,t,hkey⟩:=hk y (Array.mem_toList_iff.mp hy)
   simp [DictEntry.refKey,hkey]
  have a':¬ es.toList.any (·.refKey)=true:=by rw [a]; exact Bool.false_ne_true
  rw [if_neg a']
  exact congrArg some e
theorem ObjM.look {h:Heap} {x dx C:Addr} {mA:Str→Option Value} (I:ObjM h x dx C mA):∃ od,PySem.W.InstAt h x (PySem.W.instObj C dx) C (some od)∧∀ name,PySem.W.lookIn name od=some (mA name):=
 let ⟨od,ho,hl⟩:=lookIn_ns I.ns
 ⟨od,⟨I.obj,rfl,rfl,ho⟩,hl⟩
section
variable {prog:Program} {w:World} {A:Around} {E:Value→Shared→Prop} {s:Shared} {K:PySem.W.Frag} {x dx C f:Addr} {mA:Str→Option Value} {name:Str} {v:Value}
theorem get_map {expr:Bool} {Q:Value→Shared→Prop} (X:K.In s.heap) (I:ObjM s.heap x dx C mA) (hg:PySem.W.plainGet K C name=true) (hh:PySem.W.hasDictIn K C=true)
  (ha:PySem.W.findIn K (.ref C) name=some none) (hv:mA name=some v) (hv':PySem.W.handedIn v=true) (h:Q v { s with toks:=s.toks + 1 }):
  wpAny (model prog w) A (getAttr (.ref x) name expr) Q E s:=by
 obtain ⟨od,J,hl⟩:=I.look
 exact PySem.W.get_value X J (PySem.W.plainGet_of hg).1 (PySem.W.findObj_own hh ha rfl (by rw [hl,hv])) hv' h
theorem get_meth {pl:Sem Bool} {Q:Value × List Value→Shared→Prop} (X:K.In s.heap) (I:ObjM s.heap x dx C mA) (hg:PySem.W.plainGet K C name=true)
  (hf:PySem.W.findIn K (.ref C) name=some (some (.ref f))) (ht:PySem.W.isFn K (.ref f)=true) (hv:mA name=none) (h:Q (.ref f,[.ref x]) s):
  wpAny (model prog w) A (getMethod (.ref x) name pl) Q E s:=by
 obtain ⟨od,J,hl⟩:=I.look
 exact PySem.W.method_fn X J (PySem.W.plainGet_of hg).1 (PySem.W.plainGet_of hg).2 hf (beq_iff_eq.mp ht) (by show (PySem.W.lookIn name od).map (·.isSome)=some false; rw [hl,hv]; rfl) h
theorem set_map {ns:List Str} {Q:Unit→Shared→Prop} (X:K.In s.heap) (I:ObjM s.heap x dx C mA)
  (hs:PySem.W.findIn K (.ref C) "__setattr__" = some (some (.builtin "object.__setattr__"))) (hp:PySem.W.plainOver K C=true) (ht:PySem.W.takerIn K C name=some none) (hh:PySem.W.hasDictIn K C=true)
  (hw:PySem.Within mA ns) (hsz:ns.length≤sizeLine)
  (h:∀ h',ObjM h' x dx C (fun y=>if y=name then some v else mA y)→Heap.SameBut dx s.heap h'→Q () { s with heap:=h',toks:=s.toks + 2 }):
  wpAny (model prog w) A (setAttr (.ref x) name v) Q E s:=by
 obtain ⟨od,J,hl⟩:=I.look
 refine PySem.W.set_plain X J hs (PySem.W.osa_open (s:={ s with toks:=s.toks + 1 }) (r:=none) X J hp ht fun b=>?_)
 obtain ⟨cd,hc,hd'⟩:=PySem.W.any_some hh
 have hx:s.heap.get? x=some ⟨.ref C,some dx,.plain,#[]⟩:=I.obj
 refine wpAny_bind (wpAny_pure (wpAny_bind (wpAny_bind (wpAny_loadPart hx (wpAny_bind (PySem.W.Looks.here (s:={ s with toks:=s.toks + 1 }) (PySem.W.looks_clsIn X hc) ?_))))))
 rw [hd']
 refine wpAny_pure (a:=some dx) (wpAny_bind (wpAny_pure (wpAny_bind ?_)))
 refine wpAny_nsSet1 (s:={ s with toks:=s.toks + 1 }) I.ns fun h' hn2 hs2=>?_
 obtain ⟨oD,esD,epD,hoD,hdD,hcD⟩:=hn2.count (PySem.Within.cons name v hw)
 refine wpAny_bind (wpAny_lookBehind hoD (by rw [hdD]; exact pastItsLine_dict (Nat.le_trans hcD (by rw [List.length_cons]; omega))) ?_)
 exact wpAny_pure (h _ ⟨(hs2.2 _ (Ne.symm I.ne)).trans I.obj,hn2,I.ne⟩ hs2)
theorem make_map {R:Result→Shared→Prop} {vs:List Value} {kw:List (Str × Value)} (X:K.In s.heap) (hm:PySem.W.makesIn K C=true)
  (hi:PySem.W.findIn K (.ref C) "__init__" = some (some (.ref f))) (hf:PySem.W.typeIn K (.ref f)=some (.type "function"))
  (h:codeAny (model prog w) (A.under (.builtin "type.__call__" ⟨.ref C :: vs,kw⟩)) (.call (.ref f) ⟨.ref (s.heap.objs.size + 1) :: vs,kw⟩) (PySem.W.InitBack (s.heap.objs.size + 1) R)
   { s with heap:=(s.heap.push PySem.W.emptyDict).push (PySem.W.instObj C s.heap.objs.size) }):
  codeAny (model prog w) A (.call (.ref C) ⟨vs,kw⟩) R s:=by
 obtain ⟨hh,g,d,t,os⟩:=s
 exact PySem.W.make_core (PySem.W.makes_of X hm) (PySem.W.looks_findIn X hi) (fun self=>PySem.W.bind_fn X self hf) (.inl rfl) h
end
noncomputable def putF (f:Str) (v:V):List (Str × V)→List (Str × V)
 | []=>[(f,v)]
 | (g,x) :: r=>if g=f then (g,v) :: r else (g,x) :: putF f v r
theorem lookup_putF (f g:Str) (v:V):∀ fs:List (Str × V),(putF f v fs).lookup g=if g=f then some v else fs.lookup g
 | []=>by
  show List.lookup g [(f,v)]=_
  by_cases h:g=f
  ·have hb:(g == f)=true:=beq_iff_eq.mpr h
   simp only [List.lookup,hb,if_pos h]
  ·have hb:(g == f)=false:=beq_eq_false_iff_ne.mpr h
   simp only [List.lookup,hb,if_neg h]
 | (k,x) :: r=>by
  have ih:=lookup_putF f g v r
  rw [show putF f v ((k,x) :: r)=(if k=f then (k,v) :: r else (k,x) :: putF f v r) from rfl]
  by_cases hk:k=f
  ·rw [if_pos hk]
   by_cases h:g=k
   ·have hb:(g == k)=true:=beq_iff_eq.mpr h
    simp only [List.lookup,hb,if_pos (h.trans hk)]
   ·have hb:(g == k)=false:=beq_eq_false_iff_ne.mpr h
    simp only [List.lookup,hb,if_neg (fun e:g=f=>h (e.trans hk.symm))]
  ·rw [if_neg hk]
   by_cases h:g=k
   ·have hb:(g == k)=true:=beq_iff_eq.mpr h
    simp only [List.lookup,hb,if_neg (fun e:g=f=>hk (h.symm.trans e))]
   ·have hb:(g == k)=false:=beq_eq_false_iff_ne.mpr h
    simp only [List.lookup,hb]
    exact ih
theorem keys_putF (f:Str) (v:V):∀ fs:List (Str × V),f ∈ (putF f v fs).map (·.1)∧∀ g,g ∈ fs.map (·.1)→g ∈ (putF f v fs).map (·.1)
 | []=>⟨by simp [putF],fun g h=>by simp at h⟩
 | (k,x) :: r=>by
  obtain ⟨i1,i2⟩:=keys_putF f v r
  rw [show putF f v ((k,x) :: r)=(if k=f then (k,v) :: r else (k,x) :: putF f v r) from rfl]
  by_cases hk:k=f
  ·rw [if_pos hk]
   subst hk
   exact ⟨by simp,fun g h=>by simpa using h⟩
  ·rw [if_neg hk]
   refine ⟨?_,fun g h=>?_⟩
   ·rw [List.map_cons]
    exact List.mem_cons_of_mem _ i1
   ·rw [List.map_cons] at h ⊢
    rcases List.mem_cons.mp h with e | e
    ·exact List.mem_cons.mpr (.inl e)
    ·exact List.mem_cons_of_mem _ (i2 g e)
theorem length_putF (f:Str) (v:V):∀ fs:List (Str × V),(putF f v fs).length≤fs.length + 1
 | []=>by simp [putF]
 | (k,x) :: r=>by
  have ih:=length_putF f v r
  rw [show putF f v ((k,x) :: r)=(if k=f then (k,v) :: r else (k,x) :: putF f v r) from rfl]
  by_cases hk:k=f
  ·rw [if_pos hk,List.length_cons,List.length_cons]; omega
  ·rw [if_neg hk,List.length_cons,List.length_cons]; omega
theorem RelO.some_of {v:V} {o:Option Value} (r:RelO (some v) o):∃ u,o=some u∧RelV v u:=by
 cases o with
 | none=>exact (show False from r).elim
 | some u=>exact ⟨u,rfl,r⟩
theorem RelO.none_of {o:Option Value} (r:RelO none o):o=none:=by
 cases o with
 | none=>rfl
 | some u=>exact (show False from r).elim
theorem handed_of {v:V} {u:Value} (r:RelV v u):PySem.W.handedIn u=true:=by
 cases v with
 | non=>cases (show u=Value.none from r); rfl
 | bl b=>cases (show u=Value.bool b from r); rfl
 | int i=>obtain ⟨t,e⟩:=(show ∃ t,u=Value.int i t from r); cases e; rfl
 | str x=>obtain ⟨t,e⟩:=(show ∃ t,u=Value.str x t from r); cases e; rfl
 | byt b=>obtain ⟨t,e⟩:=(show ∃ t,u=Value.bytes b t from r); cases e; rfl
 | flt b=>obtain ⟨t,e⟩:=(show ∃ t,u=Value.float b t from r); cases e; rfl
 | ref a=>cases (show u=Value.ref a from r); rfl
 | ty n=>cases (show u=Value.type n from r); rfl
section
variable {P:Program} {w:World} {H H':Hp} {h h':Heap} {a C dx:Addr} {fs fs':List (Str × V)}
theorem ins_get (hok:HOk P w H h) (e:H a=some (.ins C dx fs)):∃ mA,ObjM h a dx C mA∧(∀ f,RelO (fs.lookup f) (mA f))∧PySem.Within mA (fs.map (·.1))∧fs.length≤1000∧H dx=some (.own a):=by
 obtain ⟨d,z,ne,ob,mA,n,r,q⟩:=(show ObjOk P w H h a (.ins C dx fs) from hok a _ e)
 exact ⟨mA,⟨ob,n,ne⟩,r,q,z,d⟩
end
structure Cls (K:PySem.W.Frag) (C:Addr):Prop where
 pg:PySem.W.plainGet K C Str.empty=true
 hd:PySem.W.hasDictIn K C=true
 po:PySem.W.plainOver K C=true
 sa:PySem.W.findIn K (.ref C) "__setattr__" = some (some (.builtin "object.__setattr__"))
theorem Cls.get {K:PySem.W.Frag} {C:Addr} (c:Cls K C) (f:Str):PySem.W.plainGet K C f=true:=c.pg
noncomputable def NoAttr (K:PySem.W.Frag) (C:Addr) (f:Str):Prop:=PySem.W.findIn K (.ref C) f=some none
theorem NoAttr.taker {K:PySem.W.Frag} {C:Addr} {f:Str} (n:NoAttr K C f):PySem.W.takerIn K C f=some none:=by
 unfold PySem.W.takerIn
 rw [show PySem.W.findIn K (.ref C) f=some none from n]
 rfl
structure Meth (K:PySem.W.Frag) (C:Addr) (m:Str) (f:Addr):Prop where
 at_:PySem.W.findIn K (.ref C) m=some (some (.ref f))
 fn:PySem.W.isFn K (.ref f)=true
 kp:PySem.W.keepIn K (.ref f)=true
section
variable {X:Cx} {pins:List (Addr × Obj)} {σ:St} {H:Hp} {s:Shared} {a C dx:Addr} {fs:List (Str × V)} {f:Str} {v:V} {A:Around} {E:Value→Shared→Prop}
theorem getattr_ok {b:Bool} {Q:Value→Shared→Prop} (I:Inv X pins σ H s) (e:H a=some (.ins C dx fs)) (c:Cls X.K C) (n:NoAttr X.K C f) (l:fs.lookup f=some v)
  (h:∀ u s',Inv X pins σ H s'→RelV v u→Q u s'):wpAny (model X.prog X.w) A (getAttr (.ref a) f b) Q E s:=by
 obtain ⟨mA,O,r,_,_,_⟩:=ins_get I.hok e
 obtain ⟨u,hu,ru⟩:=RelO.some_of (v:=v) (o:=mA f) (by rw [← l]; exact r f)
 exact get_map I.kIn O (c.get f) c.hd n hu (handed_of ru) (h u _ (I.tok _) ru)
theorem getmeth_ok {m:Str} {g:Addr} {pl:Sem Bool} {Q:Value × List Value→Shared→Prop} (I:Inv X pins σ H s) (e:H a=some (.ins C dx fs)) (c:Cls X.K C) (k:Meth X.K C m g) (l:fs.lookup m=none)
  (h:Q (.ref g,[.ref a]) s):wpAny (model X.prog X.w) A (getMethod (.ref a) m pl) Q E s:=by
 obtain ⟨mA,O,r,_,_,_⟩:=ins_get I.hok e
 have hn:mA m=none:=RelO.none_of (by rw [← l]; exact r m)
 exact get_meth I.kIn O (c.get m) k.at_ k.fn hn h
theorem setattr_ok {y:V} {u:Value} {Q:Unit→Shared→Prop} (I:Inv X pins σ H s) (e:H a=some (.ins C dx fs)) (c:Cls X.K C) (n:NoAttr X.K C f) (hl:fs.length < 1000) (ry:RelV y u)
  (h:∀ s',Inv X pins σ (upd H a (.ins C dx (putF f y fs))) s'→Q () s'):wpAny (model X.prog X.w) A (setAttr (.ref a) f u) Q E s:=by
 obtain ⟨mA,O,r,wi,_,ho⟩:=ins_get I.hok e
 have hz:(fs.map (·.1)).length≤sizeLine:=by rw [List.length_map,sizeLine_eq]; omega
 refine set_map I.kIn O c.sa c.po n.taker c.hd wi hz fun h' O' sb=>h _ ?_
 have hd:∃ o,h'.get? dx=some o:=let ⟨o,_,_,e',_⟩:=O'.ns; ⟨o,e'⟩
 refine I.write (x:=a) (e:=dx) (by rw [e]; exact True.intro) (.inr ho) (fun b q hb z=>(sb.2 b hb).trans z) hd ?_
 refine ⟨by rw [upd_ne O.ne]; exact ho,?_,O.ne,O'.obj,_,O'.ns,fun g=>?_,fun g hg=>?_⟩
 ·have:=length_putF f y fs; omega
 ·show RelO ((putF f y fs).lookup g) (if g=f then some u else mA g)
  rw [lookup_putF]
  by_cases q:g=f
  ·rw [if_pos q,if_pos q]; exact ry
  ·rw [if_neg q,if_neg q]; exact r g
 ·by_cases q:g=f
  ·rw [q]; exact (keys_putF f y fs).1
  ·refine (keys_putF f y fs).2 g (wi g fun z=>hg ?_)
   show (if g=f then some u else mA g)=none
   rw [if_neg q]; exact z
theorem Inv.made (I:Inv X pins σ H s):Inv X pins σ (upd (upd H s.heap.objs.size (.own (s.heap.objs.size + 1))) (s.heap.objs.size + 1) (.ins C s.heap.objs.size []))
  { s with heap:=(s.heap.push PySem.W.emptyDict).push (PySem.W.instObj C s.heap.objs.size) }:=by
 have e1:(s.heap.push PySem.W.emptyDict).get? s.heap.objs.size=some PySem.W.emptyDict:=Heap.get?_push_size s.heap rfl
 have e2:((s.heap.push PySem.W.emptyDict).push (PySem.W.instObj C s.heap.objs.size)).get? (s.heap.objs.size + 1)=some (PySem.W.instObj C s.heap.objs.size):=by
  have:=Heap.get?_push_size (s.heap.push PySem.W.emptyDict) (o:=PySem.W.instObj C s.heap.objs.size) rfl
  rwa [Heap.size_push] at this
 have e3:(s.heap.push PySem.W.emptyDict).Ns s.heap.objs.size (fun _=>none):=⟨PySem.W.emptyDict,#[],_,e1,rfl,(fun e he=>absurd he (by simp)),fun _=>rfl⟩
 have I1:=I.laid (a:=s.heap.objs.size) (o:=.own (s.heap.objs.size + 1)) (h':=s.heap.push PySem.W.emptyDict) (t':=s.toks) (fun b u q=>Heap.get?_push_of_some _ q) (Nat.le_refl _) ⟨_,e1⟩
 refine I1.laid (a:=s.heap.objs.size + 1) (o:=.ins C s.heap.objs.size []) (t':=s.toks) (fun b u q=>Heap.get?_push_of_some _ q) (Nat.le_of_eq (Heap.size_push _ _)) ?_
 have ne:s.heap.objs.size ≠ s.heap.objs.size + 1:=Nat.ne_of_lt (Nat.lt_succ_self _)
 refine ⟨by rw [upd_ne ne,upd_same],Nat.zero_le _,ne,e2,fun _=>none,(Heap.Ns1.of_empty e3).at fun o q=>Heap.get?_push_of_some _ q,fun _=>True.intro,fun y hy=>absurd rfl hy⟩
theorem attr_of {prog:Program} {w:World} {env:Env} {e:Expr} {f:Str} {pos:Pos} {s:Shared} {Q:Value→Shared→Prop} (hb:attributeBase e f env (eval e env)=eval e env)
  (h:wpAny (model prog w) A (eval e env) (fun o s₁=>wpAny (model prog w) A (getAttr o f true) Q E s₁) E s):wpAny (model prog w) A (eval (.Attribute e f pos) env) Q E s:=
 Attribute_any_ h (by rw [arm_eval_Attribute,hb])
end
noncomputable def tFld (K:PySem.W.Frag) (ta:TE) (f:Str):TE:=fun σ H Q=>ta σ H fun x H1=>∃ a C dx fs v,x=.ref a∧H1 a=some (.ins C dx fs)∧Cls K C∧NoAttr K C f∧fs.lookup f=some v∧Q v H1
noncomputable def sFld (K:PySem.W.Frag) (ta tv:TE) (f:Str):TS:=fun D σ H=>tv σ H fun y H1=>ta σ H1 fun x H2=>∃ a C dx fs,x=.ref a∧H2 a=some (.ins C dx fs)∧Cls K C∧NoAttr K C f∧fs.length < 1000∧
 D.nx σ (upd H2 a (.ins C dx (putF f y fs)))
section
variable {X:Cx} {o e value:Expr} {f:Str} {pos pos' tpos:Pos} {ta tv:TE}
theorem pe_fld (he:PE X e ta) (hb:attributeBase e f X.env (eval e X.env)=eval e X.env):PE X (.Attribute e f pos) (tFld X.K ta f):=by
 intro pins s σ H Q I h
 refine attr_of hb (thn (he pins s σ H _ I h) fun u s1 zq=>?_)
 obtain ⟨x,H1,I1,rx,a,C,dx,fs,v,ex,ea,c,n,l,q⟩:=zq
 subst ex
 obtain rfl:u=Value.ref a:=rx
 exact getattr_ok I1 ea c n l fun u' s2 I2 ru=>⟨v,H1,I2,ru,q⟩
theorem ps_fld (ha:PE X o ta) (hv:PE X value tv) (hs:swapsWith value (some (.Attribute o f pos')) pos.line X.env=pure false):PS X (.Assign [.Attribute o f pos'] value pos) (sFld X.K ta tv f):=by
 intro pins s σ H D I h
 refine plainObj_wpAny_Assign_Attribute (thn (hv pins s σ H _ I h) fun u s1 zq=>ex5 zq fun y H1 I1 ry q=>thn (ha pins s1 σ H1 _ I1 q) fun ov s2 zq=>?_) hs
 obtain ⟨x,H2,I2,rx,a,C,dx,fs,ex,ea,c,n,l,q2⟩:=zq
 subst ex
 obtain rfl:ov=Value.ref a:=rx
 exact setattr_ok I2 ea c n l ry fun s3 I3=>⟨σ,_,I3,q2⟩
end
section
variable {X:Cx} {pins:List (Addr × Obj)} {σ:St} {H:Hp} {s:Shared} {A:Around} {E:Value→Shared→Prop} {Q:Value→Shared→Prop} {c:Value} {b:Bool}
inductive TyOf (K:PySem.W.Frag) (H:Hp):V→Value→Prop where
 | non:TyOf K H .non (.type "NoneType")
 | bl (x:Bool):TyOf K H (.bl x) (.type "bool")
 | int (i:Int):TyOf K H (.int i) (.type "int")
 | str (x:Str):TyOf K H (.str x) (.type "str")
 | flt (x:UInt64):TyOf K H (.flt x) (.type "float")
 | lst {a:Addr} {xs:List V} (e:H a=some (.lst xs)):TyOf K H (.ref a) (.type "list")
 | frz {a:Addr} {o:Obj} {xs:List V} (e:H a=some (.frz o (.lst xs))):TyOf K H (.ref a) (.type "list")
 | tup {a:Addr} {xs:List V} (e:H a=some (.tup xs)):TyOf K H (.ref a) (.type "tuple")
 | dK {a:Addr} {kvs:List (Key × V)} (e:H a=some (.dK kvs)):TyOf K H (.ref a) (.type "dict")
 | dT {a:Addr} {kvs:List (List Key × V)} (e:H a=some (.dT kvs)):TyOf K H (.ref a) (.type "dict")
 | ins {a C dx:Addr} {fs:List (Str × V)} (e:H a=some (.ins C dx fs)) (cl:Cls K C) (ha:PySem.W.findIn K (.ref C) "__class__" = some (some (.builtin "object.__class__")))
   (hn:PySem.W.specialIn K (.builtin "object.__class__") "__get__" = some (some (.builtin "getset_descriptor.__get__"))) (htk:PySem.W.takesIn K (.builtin "object.__class__")=some true)
   (hm:PySem.W.mroIn K C (.type "object")=some true):TyOf K H (.ref a) (.ref C)
theorem isinst_ok {x:V} {u t:Value} (I:Inv X pins σ H s) (rx:RelV x u) (ty:TyOf X.K H x t) (e:PySem.W.kitOne X.K t c=some b) (h:∀ tk,Q (.bool b) { s with toks:=tk }):
  wpAny (model X.prog X.w) A (call (.builtin "isinstance") [u,c]) Q E s:=by
 cases ty with
 | non=>cases (show u=Value.none from rx); exact PySem.W.kia_one PySem.W.kitx_none I.kIn True.intro e (fun z=>nomatch z) h
 | bl y=>cases (show u=Value.bool y from rx); exact PySem.W.kia_one PySem.W.kitx_bool I.kIn True.intro e (fun z=>nomatch z) h
 | int i=>obtain ⟨t,q⟩:=(show ∃ t,u=Value.int i t from rx); cases q; exact PySem.W.kia_one PySem.W.kitx_int I.kIn True.intro e (fun z=>nomatch z) h
 | str y=>obtain ⟨t,q⟩:=(show ∃ t,u=Value.str y t from rx); cases q; exact PySem.W.kia_one PySem.W.kitx_str I.kIn True.intro e (fun z=>nomatch z) h
 | flt y=>obtain ⟨t,q⟩:=(show ∃ t,u=Value.float y t from rx); cases q; exact PySem.W.kia_one PySem.W.kitx_float I.kIn True.intro e (fun z=>nomatch z) h
 | @lst a xs ea=>
  cases (show u=Value.ref a from rx)
  obtain ⟨_,_,n,_,h1⟩:=(show ObjOk X.prog X.w H s.heap a (.lst xs) from I.hok a _ ea)
  exact PySem.W.kia_one PySem.W.kitx_list I.kIn ⟨_,h1,rfl⟩ e (fun z=>nomatch z) h
 | @frz a ob xs ea=>
  cases (show u=Value.ref a from rx)
  obtain ⟨_,_,_,n,_,h1⟩:=(show ObjOk X.prog X.w H s.heap a (.frz ob (.lst xs)) from I.hok a _ ea)
  exact PySem.W.kia_one PySem.W.kitx_list I.kIn ⟨_,h1,rfl⟩ e (fun z=>nomatch z) h
 | @tup a xs ea=>
  cases (show u=Value.ref a from rx)
  obtain ⟨_,_,_,p⟩:=(show ObjOk X.prog X.w H s.heap a (.tup xs) from I.hok a _ ea)
  obtain ⟨o,h1,h2,_⟩:=p
  exact PySem.W.kia_one PySem.W.kitx_tuple I.kIn ⟨o,h1,h2⟩ e (fun z=>nomatch z) h
 | @dK a kvs ea=>
  cases (show u=Value.ref a from rx)
  obtain ⟨_,_,vs,_,p⟩:=(show ObjOk X.prog X.w H s.heap a (.dK kvs) from I.hok a _ ea)
  obtain ⟨o,es,ep,h1,h2,_⟩:=p
  exact PySem.W.kia_one PySem.W.kitx_dict I.kIn ⟨o,h1,h2.1⟩ e (fun z=>nomatch z) h
 | @dT a kvs ea=>
  cases (show u=Value.ref a from rx)
  obtain ⟨_,_,xs,_,o,es,ep,h1,h2,_⟩:=(show ObjOk X.prog X.w H s.heap a (.dT kvs) from I.hok a _ ea)
  exact PySem.W.kia_one PySem.W.kitx_dict I.kIn ⟨o,h1,h2.1⟩ e (fun z=>nomatch z) h
 | @ins a C dx fs ea cl ha hn htk hm=>
  cases (show u=Value.ref a from rx)
  obtain ⟨mA,O,_⟩:=ins_get I.hok ea
  obtain ⟨od,J,_⟩:=O.look
  exact PySem.W.kia_one (PySem.W.kitx_own (cl.get _) cl.hd ha hn htk hm) I.kIn J e (fun z=>nomatch z) h
end
end L2
namespace L2
open PySem PySem.Spec PyProof.Rows
structure Room (k:Nat) (A:Around):Prop where
 hd:A.handled=none
 dp:A.depth + 3 * k + 5 < recursionLimit
 un:A.units + 16 * k + 200 < cLine
 gd:A.guards=some []
theorem Room.mono {j k:Nat} {A:Around} (r:Room k A) (h:j≤k):Room j A:=⟨r.hd,by have:=r.dp; omega,by have:=r.un; omega,r.gd⟩
theorem Room.deeper {k:Nat} {A:Around} (r:Room (k + 1) A) (env:Env):Room k (A.deeper env):=
 ⟨r.hd,by have:=r.dp; show A.depth + 1 + 3 * k + 5 < _; omega,by have:=r.un; show A.units + 3 + 16 * k + 200 < _; omega,r.gd⟩
theorem make_depth {A:Around} {C:Addr} {us:List Value} {kw:List (Str × Value)}:(A.under (.builtin "type.__call__" ⟨.ref C :: us,kw⟩)).depth=A.depth + 1:=by
 first | rfl | simp [Around.under,Code.weight,Code.isCreation,Code.isGuard,Code.isCaller,Code.frames,Code.isFrame,guardIds]
theorem make_units {A:Around} {C:Addr} {us:List Value} {kw:List (Str × Value)}:(A.under (.builtin "type.__call__" ⟨.ref C :: us,kw⟩)).units=A.units + 1:=by
 first | rfl | simp [Around.under,Code.cUnits,Code.frames,Code.isFrame]
theorem Room.make {k:Nat} {A:Around} (r:Room (k + 1) A) (C:Addr) (us:List Value) (kw:List (Str × Value)):Room k (A.under (.builtin "type.__call__" ⟨.ref C :: us,kw⟩)):=
 ⟨r.hd,by have:=r.dp; rw [make_depth]; omega,by have:=r.un; rw [make_units]; omega,by first | exact r.gd | (have:=r.gd; simpa [Around.under,Code.isGuard,guardIds] using this)⟩
theorem Room.depth {k:Nat} {A:Around} (r:Room k A):A.depth < recursionLimit:=by have:=r.dp; omega
theorem Room.units {k:Nat} {A:Around} (r:Room k A):A.units + 64 < cLine:=by have:=r.un; omega
noncomputable def tNil:TA:=fun _ H Q=>Q [] H
noncomputable def tCons (ta:TE) (tr:TA):TA:=fun σ H Q=>ta σ H fun x H1=>tr σ H1 fun xs H2=>Q (x :: xs) H2
section
variable {X:Cx} {e:Expr} {es:List Expr} {te:TE} {t:TA} {pos:Pos}
theorem pa_nil:PA X [] tNil:=fun _ _ _ _ H Q I h=>Calls.spliced_nil ⟨[],H,I,.nil,h⟩
theorem pa_cons (ha:PE X e te) (hr:PA X es t) (hs:autoParam (starEach (e :: es) X.env=(false,eval e X.env) :: starEach es X.env) Au.h1._auto_1):PA X (e :: es) (tCons te t):=by
 intro pos pins s σ H Q I h
 rw [hs]
 show wpAny _ _ (spliced ((false,eval e X.env) :: backTo pos (starEach es X.env))) _ _ s
 refine Calls.spliced_cons (thn (ha pins s σ H _ I h) fun u s1 zq=>?_)
 obtain ⟨x,H1,I1,r1,q1⟩:=zq
 exact thn (hr pos pins s1 σ H1 _ I1 q1) fun us s2 zq=>ex5 zq fun xs H2 I2 r2 q2=>⟨x :: xs,H2,I2,.cons r1 r2,q2⟩
noncomputable def tTup (t:TA):TE:=fun σ H Q=>t σ H fun xs H1=>xs.length≤sizeLine∧∀ p,H1 p=none→Q (.ref p) (upd H1 p (.tup xs))
noncomputable def tLst (t:TA):TE:=fun σ H Q=>t σ H fun xs H1=>xs.length≤sizeLine∧∀ p,H1 p=none→Q (.ref p) (upd H1 p (.lst xs))
theorem pe_tup {x1} (h:PA X es t):PE X (.Tuple es x1 pos) (tTup t):=by
 intro pins s σ H Q I hq
 refine wpAny_Tuple_spliced (thn (h pos pins s σ H _ I hq) fun us s1 ⟨xs,H1,I1,r,z,q⟩=>⟨by rw [← r.length]; exact z,?_⟩)
 have hf:H1 s1.heap.objs.size=none:=I1.hok.fresh (Nat.le_refl _)
 refine ⟨.ref s1.heap.objs.size,upd H1 s1.heap.objs.size (.tup xs),I1.laid (t':=s1.toks) (fun b u e=>Heap.get?_push_of_some _ e) (Nat.le_refl _) ?_,rfl,q _ hf⟩
 exact ⟨z,us,r,⟨_,Heap.get?_push_size _ rfl,rfl,_,rfl⟩⟩
theorem pe_lst (h:PA X es t):PE X (.List es pos) (tLst t):=by
 intro pins s σ H Q I hq
 refine wpAny_List_spliced (thn (h pos pins s σ H _ I hq) fun us s1 ⟨xs,H1,I1,r,z,q⟩=>⟨by rw [← r.length]; exact z,?_⟩)
 have hf:H1 s1.heap.objs.size=none:=I1.hok.fresh (Nat.le_refl _)
 refine ⟨.ref s1.heap.objs.size,upd H1 s1.heap.objs.size (.lst xs),I1.laid (t':=s1.toks) (fun b u e=>Heap.get?_push_of_some _ e) (Nat.le_refl _) ?_,rfl,q _ hf⟩
 exact ⟨z,us,0,r,Heap.get?_push_size _ rfl⟩
end
noncomputable abbrev Sp:=List V→Hp→VK→XK→Prop
noncomputable abbrev CXT:=List Env→Hp→Shared→XK→Value→Shared→Prop
structure Env0 (P:Program) (w:World) (K:PySem.W.Frag) (mg:Str→Option Value) (base:Heap) (A:Around) (outer:List Env) (s:Shared) (H:Hp):Prop where
 frames:A.frames=some outer
 mod:Mod K mg base
 bs:∀ b o,base.get? b=some o→s.heap.get? b=some o∧H b=none
 bsz:base.objs.size≤s.heap.objs.size
 funs:s.heap.FunFrames base outer
 frf:∀ b ∈ frs outer,H b=none
 hok:HOk P w H s.heap
 bare:AllBare s.gens
noncomputable def CE (outer:List Env) (P:Program) (w:World) (H:Hp) (s:Shared) (Q:VK) (u:Value) (s':Shared):Prop:=
 ∃ v H',s'.os=s.os∧AllBare s'.gens∧Un (frs outer) [] H H' s.heap s'.heap∧HOk P w H' s'.heap∧RelV v u∧Q v H'
noncomputable def CR (CX:CXT) (outer:List Env) (P:Program) (w:World) (H:Hp) (s:Shared) (Q:VK) (E:XK) (r:Result) (s':Shared):Prop:=
 match r with
 | .ok (.ret u)=>CE outer P w H s Q u s'
 | .ok _=>False
 | .error e=>CX outer H s E e s'
structure FnOk (P:Program) (w:World) (K:PySem.W.Frag) (mg:Str→Option Value) (base:Heap) (CX:CXT) (k:Nat) (f:Addr) (fd:FuncData) (ps:List Str) (sp:Sp):Prop where
 len:∀ vs H Q E,sp vs H Q E→vs.length=ps.length
 run:∀ (A:Around) (outer:List Env) (s:Shared) (H:Hp) (args:Args) (us:List Value) (vs:List V) (Q:VK) (E:XK),Room k A→Env0 P w K mg base A outer s H→BindsTo s fd args (ps.zip us)→Vals vs us→sp vs H Q E→
  codeAny (model P w) A (.call (.ref f) args) (CR CX outer P w H s Q E) s
theorem Env0.make {P:Program} {w:World} {K:PySem.W.Frag} {mg:Str→Option Value} {base:Heap} {A:Around} {outer:List Env} {s:Shared} {H:Hp} (e:Env0 P w K mg base A outer s H) (C:Addr) (us:List Value) (kw:List (Str × Value)):
  Env0 P w K mg base (A.under (.builtin "type.__call__" ⟨.ref C :: us,kw⟩)) outer s H:=⟨by first | exact e.frames | (simpa [Around.under,Code.envs,Code.isFrame,pushEnvs] using e.frames),e.mod,e.bs,e.bsz,e.funs,e.frf,e.hok,e.bare⟩
section
variable {X:Cx} {pins:List (Addr × Obj)} {σ:St} {H:Hp} {s s':Shared}
theorem Inv.env0 (I:Inv X pins σ H s):Env0 X.prog X.w X.K X.mg X.base X.A X.stack s H:=
 ⟨I.ok.frames,I.ok.mod,I.bs,Nat.le_trans I.ok.bsz I.sz,I.stack,I.stkFree,I.hok,I.bare⟩
theorem Inv.after {Q:VK} {u:Value} (I:Inv X pins σ H s) (h:CE X.stack X.prog X.w H s Q u s'):EP X pins σ Q u s':=by
 obtain ⟨v,H',os,bare,un,hok,r,q⟩:=h
 obtain ⟨hh,g,d,t,os'⟩:=s'
 obtain rfl:os'=s.os:=os
 exact ⟨v,H',I.call (h':=hh) (g':=g) (d':=d) (t':=t) (ch:=[]) un hok bare (fun b z=>absurd z (by simp)),r,q⟩
end
noncomputable def tCall (sp:Sp) (dvs:List V) (E:XK) (t:TA):TE:=fun σ H Q=>t σ H fun vs H1=>sp (vs ++ dvs) H1 Q E
noncomputable def tMeth (C:Addr) (m:Str) (sp:Sp) (dvs:List V) (E:XK) (ta:TE) (t:TA):TE:=fun σ H Q=>ta σ H fun x H1=>∃ a dx fs,x=.ref a∧H1 a=some (.ins C dx fs)∧fs.lookup m=none∧
 t σ H1 fun vs H2=>sp (x :: (vs ++ dvs)) H2 Q E
noncomputable def tMake (C:Addr) (sp:Sp) (dvs:List V) (E:XK) (t:TA):TE:=fun σ H Q=>t σ H fun vs H1=>∀ x dx,H1 x=none→H1 dx=none→dx ≠ x→
 sp (.ref x :: (vs ++ dvs)) (upd (upd H1 dx (.own x)) x (.ins C dx [])) (fun v H2=>v=.non∧Q (.ref x) H2) E
noncomputable def Binds (K:PySem.W.Frag) (fd:FuncData) (ps:List Str) (ds:List Value):Prop:=
 ∀ (s:Shared) (us:List Value),K.In s.heap→(us ++ ds).length=ps.length→BindsTo s fd ⟨us,[]⟩ (ps.zip (us ++ ds))
theorem Binds.all {K:PySem.W.Frag} {fd:FuncData} {ps:List Str} (h:∀ us:List Value,us.length=ps.length→bindArgs fd ⟨us,[]⟩=pure (ps.zip us)):Binds K fd ps []:=fun s us _ hl=>by
 rw [List.append_nil] at hl ⊢
 exact .of_eq (h us hl)
noncomputable def Passes (CX:CXT) (X:Cx) (E:XK):Prop:=∀ (pins:List (Addr × Obj)) (σ:St) (H:Hp) (s:Shared) (e:Value) (s':Shared),Inv X pins σ H s→CX X.stack H s E e s'→X.xe e s'
section
variable {X:Cx} {CX:CXT} {k:Nat} {f C:Addr} {fd:FuncData} {ps:List Str} {sp:Sp} {dvs:List V} {ds:List Value} {E:XK} {x m:Str} {p pos apos:Pos} {e o:Expr} {es:List Expr} {ta:TE} {t:TA}
theorem run_fn {pins:List (Addr × Obj)} {σ:St} {H:Hp} {s:Shared} {Q:VK} {us:List Value} {vs:List V} (F:FnOk X.prog X.w X.K X.mg X.base CX k f fd ps sp) (hr:Room k X.A) (hb:Binds X.K fd ps ds) (hd:Vals dvs ds) (hx:Passes CX X E)
  (I:Inv X pins σ H s) (r:Vals vs us) (h:sp (vs ++ dvs) H Q E):wpAny (model X.prog X.w) X.A (call (.ref f) us) (EP X pins σ Q) X.xe s:=by
 have r2:Vals (vs ++ dvs) (us ++ ds):=r.append hd
 have hl:(us ++ ds).length=ps.length:=by rw [← r2.length]; exact F.len _ _ _ _ h
 refine wpAny_call (codeAny_mono (F.run X.A X.stack s H ⟨us,[]⟩ (us ++ ds) (vs ++ dvs) Q E hr I.env0 (hb s us I.kIn hl) r2 h) fun r s' hq=>?_)
 cases r with
 | error e=>exact hx pins σ H s e s' I hq
 | ok fl=>
  cases fl with
  | ret u=>exact I.after hq
  | next=>exact False.elim hq
  | brk=>exact False.elim hq
  | cont=>exact False.elim hq
theorem pe_call (F:FnOk X.prog X.w X.K X.mg X.base CX k f fd ps sp) (hr:Room k X.A) (hg:Gl X x) (hm:X.mg x=some (.ref f)) (hk:PySem.W.keepIn X.K (.ref f)=true) (hb:Binds X.K fd ps ds) (hd:Vals dvs ds) (hx:Passes CX X E)
  (ha:PA X (e :: es) t) (hdb:autoParam ((x == ("__debug__":Str))=false) Au.h2._auto_1) (he:autoParam (starEach (e :: es) X.env=(false,eval e X.env) :: starEach es X.env) Au.h1._auto_1) (hpl:autoParam ((backTo pos (starEach es X.env)).any (·.1)=false) Au.h1._auto_1):
  PE X (.Call (.Name x p) (e :: es) [] pos) (tCall sp dvs E t):=by
 intro pins s σ H Q I h
 refine wpAny_Call_Name_kw (ld_glob I hg hm ?_ hdb)
 refine PySem.W.callWith_K (h₀:=X.base) I.ok.mod.kin hk (thn (ha pos pins s σ H _ I h) fun us s1 zq=>ex5 zq fun vs H1 I1 r q=>⟨I1.kIn,?_⟩) he hpl
 exact run_fn F hr hb hd hx I1 r q
theorem pe_meth {pl:Sem Bool} (he:PE X o ta) (c:Cls X.K C) (hm:Meth X.K C m f) (F:FnOk X.prog X.w X.K X.mg X.base CX k f fd ps sp) (hr:Room k X.A) (hb:Binds X.K fd ps ds) (hd:Vals dvs ds) (hx:Passes CX X E) (ha:PA X (e :: es) t)
  (hst:autoParam (starEach (e :: es) X.env=(false,eval e X.env) :: starEach es X.env) Au.h1._auto_1) (hpl:autoParam ((backTo pos (starEach es X.env)).any (·.1)=false) Au.h1._auto_1)
  (ht:autoParam (eval (.Call (.Attribute o m apos) (e :: es) [] pos) X.env=(do
   let ov ← eval o X.env
   standAt apos.atName
   let (f,first) ← holding [ov] (getMethod ov m pl)
   callWith pos f first (backTo pos (starEach (e :: es) X.env)) (backToKw pos (keywordEach [] X.env)))) Au.h1._auto_1):
  PE X (.Call (.Attribute o m apos) (e :: es) [] pos) (tMeth C m sp dvs E ta t):=by
 intro pins s σ H Q I h
 refine PySem.W.methodCall_KW (pl:=pl) (thn (he pins s σ H _ I h) fun u s1 zq=>?_) ht
 obtain ⟨x,H1,I1,rx,a,dx,fs,ex,ea,l,q⟩:=zq
 subst ex
 obtain rfl:u=Value.ref a:=rx
 refine getmeth_ok I1 ea c hm l ?_
 refine PySem.W.callWith_K (first:=[.ref a]) (h₀:=X.base) I.ok.mod.kin hm.kp (thn (ha pos pins s1 σ H1 _ I1 q) fun us s2 zq=>ex5 zq fun vs H2 I2 r q2=>⟨I2.kIn,?_⟩) hst hpl
 exact run_fn (us:=.ref a :: us) (vs:=.ref a :: vs) F hr hb hd hx I2 (.cons rfl r) q2
theorem pe_meth0 {pl:Sem Bool} (he:PE X o ta) (c:Cls X.K C) (hm:Meth X.K C m f) (F:FnOk X.prog X.w X.K X.mg X.base CX k f fd ps sp) (hr:Room k X.A) (hb:Binds X.K fd ps ds) (hd:Vals dvs ds) (hx:Passes CX X E)
  (ht:autoParam (eval (.Call (.Attribute o m apos) [] [] pos) X.env=(do
   let ov ← eval o X.env
   standAt apos.atName
   let (f,first) ← holding [ov] (getMethod ov m pl)
   callWith pos f first (backTo pos (starEach [] X.env)) (backToKw pos (keywordEach [] X.env)))) Au.h1._auto_1):
  PE X (.Call (.Attribute o m apos) [] [] pos) (tMeth C m sp dvs E ta tNil):=by
 intro pins s σ H Q I h
 refine PySem.W.methodCall_KW (pl:=pl) (thn (he pins s σ H _ I h) fun u s1 zq=>?_) ht
 obtain ⟨x,H1,I1,rx,a,dx,fs,ex,ea,l,q⟩:=zq
 subst ex
 obtain rfl:u=Value.ref a:=rx
 refine getmeth_ok I1 ea c hm l ?_
 exact PySem.W.callWith_K0 (first:=[.ref a]) I1.kIn hm.kp (run_fn (us:=[.ref a]) (vs:=[.ref a]) F hr hb hd hx I1 (.cons rfl .nil) q)
structure Mk (K:PySem.W.Frag) (C f:Addr):Prop where
 makes:PySem.W.makesIn K C=true
 init:PySem.W.findIn K (.ref C) "__init__" = some (some (.ref f))
 fn:PySem.W.isFn K (.ref f)=true
 kp:PySem.W.keepIn K (.ref C)=true
theorem run_make {pins:List (Addr × Obj)} {σ:St} {H:Hp} {s:Shared} {Q:VK} {us:List Value} {vs:List V} (M:Mk X.K C f) (F:FnOk X.prog X.w X.K X.mg X.base CX k f fd ps sp) (hr:Room (k + 1) X.A) (hb:Binds X.K fd ps ds) (hd:Vals dvs ds)
  (hx:Passes CX X E) (I:Inv X pins σ H s) (r:Vals vs us)
  (h:∀ x dx,H x=none→H dx=none→dx ≠ x→sp (.ref x :: (vs ++ dvs)) (upd (upd H dx (.own x)) x (.ins C dx [])) (fun v H2=>v=.non∧Q (.ref x) H2) E):
  wpAny (model X.prog X.w) X.A (call (.ref C) us) (EP X pins σ Q) X.xe s:=by
 have hq:=h (s.heap.objs.size + 1) s.heap.objs.size (I.hok.fresh (Nat.le_succ _)) (I.hok.fresh (Nat.le_refl _)) (Nat.ne_of_lt (Nat.lt_succ_self _))
 have I2:=Inv.made (C:=C) I
 have r2:Vals (V.ref (s.heap.objs.size + 1) :: (vs ++ dvs)) (Value.ref (s.heap.objs.size + 1) :: (us ++ ds)):=.cons rfl (r.append hd)
 have hl:(Value.ref (s.heap.objs.size + 1) :: us ++ ds).length=ps.length:=by
  have e:=r2.length
  rw [F.len _ _ _ _ hq] at e
  exact e.symm
 refine wpAny_call (make_map (f:=f) I.kIn M.makes M.init (beq_iff_eq.mp M.fn) (codeAny_mono (F.run _ X.stack _ _ ⟨Value.ref (s.heap.objs.size + 1) :: us,[]⟩ (Value.ref (s.heap.objs.size + 1) :: (us ++ ds)) _ _ E (hr.make C us [])
  (I2.env0.make C us []) (hb _ (Value.ref (s.heap.objs.size + 1) :: us) I2.kIn hl) r2 hq) fun r s' hq'=>?_))
 cases r with
 | error e=>exact hx pins σ _ _ e s' I2 hq'
 | ok fl=>
  cases fl with
  | ret u=>
   obtain ⟨v,H',I3,rv,ev,q3⟩:=I2.after hq'
   subst ev
   exact ⟨rv,⟨V.ref (s.heap.objs.size + 1),H',I3,rfl,q3⟩⟩
  | next=>exact False.elim hq'
  | brk=>exact False.elim hq'
  | cont=>exact False.elim hq'
theorem pe_make0 (M:Mk X.K C f) (F:FnOk X.prog X.w X.K X.mg X.base CX k f fd ps sp) (hr:Room (k + 1) X.A) (hg:Gl X x) (hm:X.mg x=some (.ref C)) (hb:Binds X.K fd ps ds) (hd:Vals dvs ds) (hx:Passes CX X E)
  (hdb:autoParam ((x == ("__debug__":Str))=false) Au.h2._auto_1):PE X (.Call (.Name x p) [] [] pos) (tMake C sp dvs E tNil):=by
 intro pins s σ H Q I h
 refine wpAny_Call_Name_kw (ld_glob I hg hm ?_ hdb)
 exact PySem.W.callWith_K0 I.kIn M.kp (run_make (us:=[]) M F hr hb hd hx I .nil h)
end
section
variable {X:Cx} {CX:CXT} {k:Nat} {f C:Addr} {fd:FuncData} {ps ks:List Str} {sp:Sp} {E:XK} {x m:Str} {p pos apos kpos:Pos} {e o:Expr} {es:List Expr} {kws:List Keyword} {te ta:TE} {t tk:TA} {nm:Option Str}
variable {g:List Value→List Value→List Value} {gV:List V→List V→List V}
end
structure FnScope (N P:List Str) (sc:Scope):Prop where
 kind:sc.kind=.function
 co:sc.isCoroutine=false
 gen:sc.isGenerator=false
 nd:N.Nodup
 pre:N.take P.length=P
 par:∀ x ∈ P,sc.names.lookup x=some .local ∨ sc.names.lookup x=some .cell
 nofree:∀ y ∈ sc.names,y.2 ≠ .free
theorem bindL_out {kindOf:Str→Option NameKind} {x:Str}:∀ {binds:List (Str × Value)} {m:Str→Option Value},(∀ v,(x,v) ∉ binds)→bindL kindOf binds m x=m x
 | [],_,_=>rfl
 | (n,v) :: r,m,h=>by
  unfold bindL
  rw [bindL_out fun w hw=>h w (List.mem_cons_of_mem _ hw)]
  split
  ·have:x ≠ n:=by rintro rfl; exact h v List.mem_cons_self
   simp [this]
  ·rfl
theorem bindC_out {kindOf:Str→Option NameKind} {x:Str}:∀ {binds:List (Str × Value)} {m:Str→Option Value},(∀ v,(x,v) ∉ binds)→bindC kindOf binds m x=m x
 | [],_,_=>rfl
 | (n,v) :: r,m,h=>by
  unfold bindC
  rw [bindC_out fun w hw=>h w (List.mem_cons_of_mem _ hw)]
  split
  ·rfl
  ·have:x ≠ n:=by rintro rfl; exact h v List.mem_cons_self
   simp [this]
theorem bindL_get {kindOf:Str→Option NameKind} {x:Str} {v:Value}:∀ {P:List Str} {vs:List Value} {i:Nat} {m:Str→Option Value},P.Nodup→P[i]?=some x→vs[i]?=some v→kindOf x=some .local→
  bindL kindOf (P.zip vs) m x=some v
 | [],_,_,_,_,h,_,_=>by simp at h
 | _ :: _,[],_,_,_,_,h,_=>by simp at h
 | p :: P,w :: vs,0,m,nd,h1,h2,hk=>by
  simp at h1 h2; subst h1; subst h2
  show bindL kindOf ((p,w) :: P.zip vs) m p=_
  unfold bindL
  rw [bindL_out fun v hv=>(List.nodup_cons.mp nd).1 (List.of_mem_zip hv).1,if_pos hk]
  simp
 | p :: P,w :: vs,i + 1,m,nd,h1,h2,hk=>by
  show bindL kindOf ((p,w) :: P.zip vs) m x=_
  unfold bindL
  exact bindL_get (i:=i) (List.nodup_cons.mp nd).2 (by simpa using h1) (by simpa using h2) hk
theorem bindC_get {kindOf:Str→Option NameKind} {x:Str} {v:Value}:∀ {P:List Str} {vs:List Value} {i:Nat} {m:Str→Option Value},P.Nodup→P[i]?=some x→vs[i]?=some v→kindOf x ≠ some .local→
  bindC kindOf (P.zip vs) m x=some v
 | [],_,_,_,_,h,_,_=>by simp at h
 | _ :: _,[],_,_,_,_,h,_=>by simp at h
 | p :: P,w :: vs,0,m,nd,h1,h2,hk=>by
  simp at h1 h2; subst h1; subst h2
  show bindC kindOf ((p,w) :: P.zip vs) m p=_
  unfold bindC
  rw [bindC_out fun v hv=>(List.nodup_cons.mp nd).1 (List.of_mem_zip hv).1,if_neg hk]
  simp
 | p :: P,w :: vs,i + 1,m,nd,h1,h2,hk=>by
  show bindC kindOf ((p,w) :: P.zip vs) m x=_
  unfold bindC
  exact bindC_get (i:=i) (List.nodup_cons.mp nd).2 (by simpa using h1) (by simpa using h2) hk
noncomputable def start (N:List Str) (vs:List V):St:=vs.map some ++ List.replicate (N.length - vs.length) none
noncomputable def cxOf (CX:CXT) (P:Program) (w:World) (K:PySem.W.Frag) (mg:Str→Option Value) (base:Heap) (N:List Str) (qual:Str) (scope:Scope) (f:Addr) (cd:Value) (A:Around) (outer:List Env) (s:Shared) (H:Hp) (E:XK):Cx where
 prog:=P
 w:=w
 K:=K
 mg:=mg
 base:=base
 A:=A.deeper (envOfC qual scope s.heap.objs.size f cd)
 N:=N
 s₀:=s
 H₀:=H
 env:=envOfC qual scope s.heap.objs.size f cd
 outer:=outer
 stack:=envOfC qual scope s.heap.objs.size f cd :: outer
 ex:=[]
 calm:=true
 fn:=fun _=>true
 pn:=[]
 xe:=fun e s'=>wpAny (model P w) (A.deeper (envOfC qual scope s.heap.objs.size f cd)) (leaving (envOfC qual scope s.heap.objs.size f cd) e) (fun _ s''=>CX outer H s E e s'') (fun e' s''=>CX outer H s E e' s'') s'
theorem cell_has {sc:Scope} {n:Nat} {x:Str} (h:sc.names.lookup x=some .cell):∃ c,(cellsFrom n sc.names []).lookup x=some c:=by
 have q:=PySem.W.cellsFrom_some sc.names n [] (.inl h)
 exact Option.isSome_iff_exists.mp q
theorem inv_start {CX:CXT} {P:Program} {w:World} {K:PySem.W.Frag} {mg:Str→Option Value} {base:Heap} {N ps:List Str} {qual:Str} {scope:Scope} {f:Addr} {cd:Value} {A:Around} {outer:List Env} {s s1:Shared} {H:Hp} {E:XK} {us:List Value} {vs:List V}
  (S:FnScope N ps scope) (hd:A.handled=none) (e0:Env0 P w K mg base A outer s H) (hl:vs.length=ps.length) (r:Vals vs us)
  (x:InCallC s s.heap.objs.size (bindL (envOfC qual scope s.heap.objs.size f cd).kindOf (ps.zip us) fun _=>none) (cellsFrom (s.heap.objs.size + 1) scope.names []) (bindC (envOfC qual scope s.heap.objs.size f cd).kindOf (ps.zip us) fun _=>none) s1):
  Inv (cxOf CX P w K mg base N qual scope f cd A outer s H E) [] (start N vs) H s1:=by
 have hpl:ps.length≤N.length:=by have:=congrArg List.length S.pre; rw [List.length_take] at this; omega
 obtain ⟨h1,tk,rfl,hk⟩:=x.done
 have noA:∀ b:Addr,b ∉ (cxOf CX P w K mg base N qual scope f cd A outer s H E).ex:=fun b z=>absurd (show b ∈ ([]:List Addr) from z) (by simp)
 refine ⟨⟨e0.mod,S.kind,rfl,rfl,Nat.le_refl _,fun y z c h1 h2=>?_,fun y hy=>?_,fun y c _ h=>?_,fun _=>hd,Around.frames_deeper e0.frames,.inr ⟨rfl,rfl⟩,fun b z=>absurd z (noA b),e0.bs,e0.bsz,fun b _ _=>noA b,fun b z=>absurd z (noA b),e0.funs,e0.frf⟩,
  rfl,e0.bare,Un.kept hk,⟨_,x.toInCall.ns,fun i y v h1 h2 h3=>?_⟩,fun y c h=>⟨_,x.cell y c h⟩,e0.hok.fresh (Nat.le_refl _),fun y c h=>?_,fun p hp=>absurd (show p ∈ ([]:List (Addr × Obj)) from hp) (by simp),e0.hok.kept hk,?_⟩
 ·exact name_of_addr x.apart (PySem.mem_of_lookup h1) (PySem.mem_of_lookup h2)
 ·have hy:scope.names.lookup y=some .cell ∨ scope.names.lookup y=some .free:=hy
  rcases hy with hy | hy
  ·exact cell_has hy
  ·exact absurd rfl (S.nofree _ (PySem.mem_of_lookup hy))
 ·exact Nat.le_of_lt (x.above y c (PySem.mem_of_lookup h))
 ·have hi:i < vs.length:=by
   unfold start at h2
   by_cases hi:i < vs.length
   ·exact hi
   ·rw [List.getElem?_append_right (by simpa using hi)] at h2
    rw [List.getElem?_replicate] at h2
    split at h2 <;> cases h2
  have ha:vs[i]?=some v:=by
   unfold start at h2
   rw [List.getElem?_append_left (by simpa using hi),List.getElem?_map] at h2
   cases e:vs[i]? with
   | none=>rw [e] at h2; cases h2
   | some a=>rw [e] at h2; cases h2; rfl
  obtain ⟨u,hu,rv⟩:=r.get ha
  have hp:ps[i]?=some y:=by
   rw [← S.pre,List.getElem?_take_of_lt (by omega)]; exact h1
  have ndP:ps.Nodup:=by rw [← S.pre]; exact S.nd.sublist (List.take_sublist _ _)
  refine ⟨u,rv,?_⟩
  rcases S.par y (List.mem_of_getElem? hp) with k | k
  ·exact .inl ⟨k,bindL_get ndP hp hu k⟩
  ·obtain ⟨c,e⟩:=cell_has (n:=s.heap.objs.size + 1) k
   refine .inr ⟨.inl k,c,e,?_⟩
   have q:=x.cell y c e
   rw [bindC_get ndP hp hu (by show scope.names.lookup y ≠ _; rw [k]; decide)] at q
   exact q
 ·exact e0.hok.fresh (Nat.le_of_lt (x.above y c (PySem.mem_of_lookup h)))
 ·unfold start
  show _=N.length
  rw [List.length_append,List.length_map,List.length_replicate]
  omega
theorem fn_of {CX:CXT} {P:Program} {w:World} {K:PySem.W.Frag} {mg:Str→Option Value} {base:Heap} {k:Nat} {f:Addr} {name qual:Str} {params:Arguments} {body:List Stmt} {scope:Scope} {dV kV doc pm cdv ct oc:Value} {an od:Option Addr}
  {osl:Array (Option Value)} {N ps:List Str} {sp:Sp} (lk:K.lookup f=some ⟨oc,od,.func (PySem.W.fnOf name qual params body scope dV kV doc pm an cdv ct),osl⟩) (hcd:PySem.W.codeIn K cdv qual=true) (S:FnScope N ps scope)
  (len:∀ vs H Q E,sp vs H Q E→vs.length=ps.length)
  (hbody:∀ (A:Around) (outer:List Env) (s:Shared) (H:Hp) (vs:List V) (Q:VK) (E:XK),Room k (A.deeper (envOfC qual scope s.heap.objs.size f cdv))→sp vs H Q E→
   ∃ t,PSs (cxOf CX P w K mg base N qual scope f cdv A outer s H E) body t∧t { nx:=fun _ H'=>Q .non H',rt:=Q } (start N vs) H):
  FnOk P w K mg base CX (k + 1) f (PySem.W.fnOf name qual params body scope dV kV doc pm an cdv ct) ps sp:=by
 refine ⟨len,fun A outer s H args us vs Q E hr e0 hb r hsp=>?_⟩
 have hl:=len _ _ _ _ hsp
 have KX:K.In s.heap:=e0.mod.kin.keeps fun b o e=>(e0.bs b o e).1
 have lim:s.heap.NoLimit:=e0.mod.nolimit.keeps fun b o e=>(e0.bs b o e).1
 have hkind:∀ y ∈ ps.zip us,scope.names.lookup y.1=some .local ∨ (scope.names.lookup y.1=some .cell∧((cellsFrom (s.heap.objs.size + 1) scope.names []).lookup y.1).isSome=true):=fun ⟨n,v⟩ hy=>by
  rcases S.par n (List.of_mem_zip hy).1 with q | q
  ·exact .inl q
  ·exact .inr ⟨q,PySem.W.cellsFrom_some _ _ _ (.inl q)⟩
 refine codeAny_call_function hr.depth (KX _ _ lk) rfl S.co S.gen rfl (PySem.W.codeRec_of KX hcd) (hb _ _ _ _ ?_)
 refine wpAny_newFunctionEnv_cells S.kind hkind fun env he s1 x=>?_
 subst he
 refine ⟨lim.keeps x.toInCall.keep,codeAny_func ?_⟩
 obtain ⟨t,ht,hq⟩:=hbody A outer s H vs Q E (hr.deeper _) hsp
 have I:Inv (cxOf CX P w K mg base N qual scope f cdv A outer s H E) [] (start N vs) H s1:=inv_start S hr.hd e0 hl r x
 refine wpAny_mono (ht [] s1 (start N vs) H _ I hq) (fun fl s' hs=>?_) fun e s' hs=>hs
 have fin:∀ {σ':St} {H':Hp} {v:V} {u:Value},Inv (cxOf CX P w K mg base N qual scope f cdv A outer s H E) [] σ' H' s'→RelV v u→Q v H'→CE outer P w H s Q u s':=
  fun {σ' H' v u} J rv q=>⟨v,H',J.os,J.bare,J.base,J.hok,rv,q⟩
 cases fl with
 | ret u=>
  obtain ⟨v,σ',H',J,rv,q⟩:=hs
  exact fin J rv q
 | next=>
  obtain ⟨σ',H',J,q⟩:=hs
  exact fin (v:=V.non) (u:=Value.none) J rfl q
 | brk=>
  obtain ⟨_,_,_,q⟩:=hs
  exact False.elim q
 | cont=>
  obtain ⟨_,_,_,q⟩:=hs
  exact False.elim q
end L2
namespace L2
open PySem PySem.Spec PyProof.Rows
section
variable {X:Cx} {x:Str} {p pos:Pos} {e:Expr} {es:List Expr} {t:TA} {id T:String} {r:List V→Hp→VK→Prop}
noncomputable def tCB (r:List V→Hp→VK→Prop) (t:TA):TE:=fun σ H Q=>t σ H fun vs H1=>r vs H1 Q
theorem pe_callB (hc:CallR X (.builtin id) r) (hg:Gl X x) (hm:X.mg x=none) (hv:bootBuiltins x=some (.builtin id)) (ha:PA X (e :: es) t) (hn:autoParam (x ≠ "__name__") Au.h2._auto_1) (hdb:autoParam ((x == ("__debug__":Str))=false) Au.h2._auto_1)
  (he:autoParam (starEach (e :: es) X.env=(false,eval e X.env) :: starEach es X.env) Au.h1._auto_1) (hpl:autoParam ((backTo pos (starEach es X.env)).any (·.1)=false) Au.h1._auto_1):PE X (.Call (.Name x p) (e :: es) [] pos) (tCB r t):=by
 intro pins s σ H Q I h
 refine wpAny_Call_Name_kw (ld_blt I hg hm hv ?_ hn hdb)
 exact PyProof.Rows.callWith_builtin1 (thn (ha pos pins s σ H _ I h) fun us s1 zq=>ex5 zq fun vs H1 I1 r1 q1=>hc pins s1 σ H1 vs us Q I1 r1 q1) he hpl
end
end L2
namespace HT
open PySem PyProof.Rows
section
open PySem.SeqAt
open PySem.AutoSeq1 (wpAny_loadPart')
open PySem.MeetsSeq PySem.MeetsSeq2 PySem.MeetsSeq3
end
section
variable {prog:Program} {w:World} {A:Around} {E:Value→Shared→Prop} {s:Shared}
theorem cat_tup {t b:Addr} {vs ws:List Value} {Q:Value→Shared→Prop} (ht:IsTup s.heap t vs.toArray) (hb:IsTup s.heap b ws.toArray) (hv:vs ≠ [])
  (h1:ws=[]→Q (.ref t) s) (h2:ws ≠ []→Q (.ref s.heap.objs.size) { s with heap:=s.heap.push { cls:=.type "tuple",data:=.seq (vs ++ ws).toArray } })
  (hsz:vs.length + ws.length≤sizeLine):wpAny (model prog w) A (binaryOp .Add (.ref t) (.ref b)) Q E s:=by
 obtain ⟨⟨cls,dd,data,sl⟩,ho,hc,n,hd⟩:=id ht
 obtain ⟨⟨cls2,dd2,data2,sl2⟩,ho2,hc2,n2,hd2⟩:=id hb
 simp only at hc hd hc2 hd2
 subst hc hd hc2 hd2
 have e:vs.toArray ++ ws.toArray=(vs ++ ws).toArray:=by simp
 by_cases hw:ws=[]
 ·exact concat_meets ⟨_,ho,rfl⟩ ⟨_,ho2,rfl⟩ noFill_tuple_add seq_tuple_add PySem.F.slot_tuple_add PySem.F.entry_tuple_add (PySem.F.args_tuple_add_2 _ _)
   (tuple_addW1 t b vs.toArray ws.toArray n n2 dd dd2 sl sl2 (by simpa using hv) (by simp [hw])) ⟨ho,ho2,h1 hw⟩
 ·refine concat_meets ⟨_,ho,rfl⟩ ⟨_,ho2,rfl⟩ noFill_tuple_add seq_tuple_add PySem.F.slot_tuple_add PySem.F.entry_tuple_add (PySem.F.args_tuple_add_2 _ _)
   (tuple_addW2 t b vs.toArray ws.toArray n n2 dd dd2 sl sl2 (by simpa using hv) (by simpa using hw) (by rw [List.size_toArray,List.size_toArray]; exact hsz)) ⟨ho,ho2,?_⟩
  rw [e]
  exact h2 hw
noncomputable def sIx (n d:Nat):Option Int→Nat
 | none=>d
 | some v=>if v < 0 then (v + (n:Int)).toNat else min v.toNat n
theorem sIx_nat (n d k:Nat):sIx n d (some (k:Int))=min k n:=by
 show (if (k:Int) < 0 then ((k:Int) + (n:Int)).toNat else min (k:Int).toNat n)=min k n
 rw [if_neg (by omega),Int.toNat_natCast]
theorem sIx_le (n d:Nat) (hd:d≤n) (o:Option Int):sIx n d o≤n:=by
 cases o with
 | none=>exact hd
 | some v=>
  show (if v < 0 then (v + (n:Int)).toNat else min v.toNat n)≤n
  by_cases hv:v < 0
  ·rw [if_pos hv]; omega
  ·rw [if_neg hv]; exact Nat.min_le_right _ _
theorem clip_eq (v:Int) (n d:Nat):(if v < 0 then max (v + (n:Int)) 0 else min v (n:Int))=((sIx n d (some v):Nat):Int):=by
 show (if v < 0 then max (v + (n:Int)) 0 else min v (n:Int))=(((if v < 0 then (v + (n:Int)).toNat else min v.toNat n):Nat):Int)
 by_cases hv:v < 0
 ·simp only [if_pos hv]; omega
 ·simp only [if_neg hv]; omega
theorem adjust_gen (lo hi:Option Int) (n:Nat):Builtin.Slice.sliceAdjust lo hi 1 (n:Int)=(((sIx n 0 lo:Nat):Int),((sIx n n hi:Nat):Int)):=by
 have h1:¬ ((1:Int) < 0):=by omega
 unfold Builtin.Slice.sliceAdjust
 simp only [h1,if_false]
 refine Prod.ext ?_ ?_
 ·cases lo with
  | none=>rfl
  | some v=>exact clip_eq v n 0
 ·cases hi with
  | none=>rfl
  | some v=>exact clip_eq v n n
theorem places_gen (i j:Nat):Builtin.Slice.slicePlaces (i:Int) (j:Int) 1=j - i:=by
 unfold Builtin.Slice.slicePlaces
 have h1:(1:Int) > 0:=by omega
 simp only [h1,if_true,Int.ediv_one]
 split <;> omega
theorem slicePart_ {v:Value} {o:Option Int} {Q:Option Int→Shared→Prop} (p:IsPart v o) (h:Q o s):wpAny (model prog w) A (Builtin.Slice.slicePartIndex v) Q E s:=by
 cases p with
 | none=>exact slicePart_none h
 | int i t=>exact slicePart_int h
theorem sliceApplied_gen {sl:Addr} {vl vu:Value} {lo hi:Option Int} {n:Nat} {Q:Int × Int × Nat→Shared→Prop} (hs:s.heap.IsSliceOf sl vl vu .none) (pl:IsPart vl lo) (pu:IsPart vu hi)
  (h:Q (((sIx n 0 lo:Nat):Int),1,sIx n n hi - sIx n 0 lo) s):wpAny (model prog w) A (Builtin.Slice.sliceApplied (.ref sl) (pure (n:Int))) Q E s:=by
 obtain ⟨os,hos,hcs,hds⟩:=id hs
 unfold Builtin.Slice.sliceApplied Builtin.Slice.sliceFields
 refine wpAny_bind (wpAny_bind (wpAny_field hos hds (x:=vl) rfl (wpAny_bind (wpAny_field hos hds (x:=vu) rfl (wpAny_bind (wpAny_field hos hds (x:=.none) rfl (wpAny_pure ?_)))))))
 refine wpAny_bind (slicePart_none ?_)
 show wpAny _ _ (if ((1:Int) == 0)=true then _ else _) _ _ s
 rw [if_neg (by decide)]
 refine wpAny_bind (slicePart_ pl (wpAny_bind (slicePart_ pu (wpAny_bind (wpAny_pure ?_)))))
 show wpAny _ _ (match Builtin.Slice.sliceAdjust lo hi 1 (n:Int) with | (lo,hi)=>pure (lo,(1:Int),Builtin.Slice.slicePlaces lo hi 1)) _ _ s
 rw [adjust_gen lo hi n]
 show wpAny _ _ (pure (((sIx n 0 lo:Nat):Int),(1:Int),Builtin.Slice.slicePlaces ((sIx n 0 lo:Nat):Int) ((sIx n n hi:Nat):Int) 1)) _ _ s
 rw [places_gen]
 exact wpAny_pure h
theorem pick_gen (xs:Array Value) (i k:Nat):((List.range k).filterMap fun (m:Nat)=>xs[((i:Int) + (m:Int) * 1).toNat]?).toArray=((xs.toList.drop i).take k).toArray:=by
 have e:(fun (m:Nat)=>xs[((i:Int) + (m:Int) * 1).toNat]?)=fun m=>xs[i + m]?:=by
  funext m
  have:((i:Int) + (m:Int) * 1).toNat=i + m:=by omega
  rw [this]
 rw [e]
 have:=pick_run xs i k
 rw [List.filterMap_map] at this
 have e2:((fun x=>xs[x]?) ∘ fun x=>i + x)=fun m=>xs[i + m]?:=rfl
 rw [e2] at this
 rw [this]
theorem getItem_tuple_cut {t sl:Addr} {items:Array Value} {vl vu:Value} {lo hi:Option Int} {Q:Value→Shared→Prop} (ht:IsTup s.heap t items) (hs:s.heap.IsSliceOf sl vl vu .none) (pl:IsPart vl lo) (pu:IsPart vu hi)
  (hw:¬ (sIx items.size 0 lo=0∧sIx items.size items.size hi=items.size))
  (h:Q (.ref s.heap.objs.size) { s with heap:=s.heap.push { cls:=.type "tuple",data:=.seq ((items.toList.drop (sIx items.size 0 lo)).take (sIx items.size items.size hi - sIx items.size 0 lo)).toArray } })
  (hsz:items.size≤sizeLine):wpAny (model prog w) A (getItem (.ref t) (.ref sl)) Q E s:=by
 have htake:sizeOk (.seq ((items.toList.drop (sIx items.size 0 lo)).take (sIx items.size items.size hi - sIx items.size 0 lo)).toArray):=by
  show ((items.toList.drop (sIx items.size 0 lo)).take (sIx items.size items.size hi - sIx items.size 0 lo)).toArray.size≤sizeLine
  rw [List.size_toArray,List.length_take,List.length_drop,Array.length_toList]
  omega
 have hj:sIx items.size items.size hi≤items.size:=sIx_le _ _ (Nat.le_refl _) hi
 obtain ⟨os,hos,hcs,hds⟩:=id hs
 have hTs:s.TypeIs (.ref sl) "slice":=⟨os,hos,hcs⟩
 unfold getItem
 try with_reducible refine wpAny_holding ?_
 first | refine wpAny_bind (wpAny_pure ?_) | skip
 refine wpAny_bind (wpAny_sequenceKey ht.typeIs (by decide) ?_)
 refine wpAny_bind (wpAny_callSpecial?_slot (name:=Str.ofString "__getitem__") ht.typeIs PyProof.Rows.slot_tuple_getitem
  (wpAny_call_entry PyProof.Rows.slot_tuple_getitem ht.typeIs entry_tuple_getitem ?_ (args_tuple_getitem _ _)))
 show wpAny _ _ (Builtin.Tuple.tupleItemsOf (.ref t) >>= _) _ _ s
 refine wpAny_bind (tupleItemsOf_ ht ?_)
 refine wpAny_bind (wpAny_typeOf hTs ?_)
 rw [if_pos (by decide)]
 refine wpAny_bind (sliceApplied_gen hs pl pu ?_)
 have hno:¬ ((((sIx items.size 0 lo:Nat):Int) == 0 && (1:Int) == 1 && (sIx items.size items.size hi - sIx items.size 0 lo) == items.size)=true):=by
  intro q
  rw [Bool.and_eq_true,Bool.and_eq_true] at q
  have q1:((sIx items.size 0 lo:Nat):Int)=0:=eq_of_beq q.1.1
  have q2:sIx items.size items.size hi - sIx items.size 0 lo=items.size:=eq_of_beq q.2
  exact hw ⟨by omega,by omega⟩
 show wpAny _ _ (if (((sIx items.size 0 lo:Nat):Int) == 0 && (1:Int) == 1 && (sIx items.size items.size hi - sIx items.size 0 lo) == items.size)=true then _ else _) _ _ s
 rw [if_neg hno,pick_gen]
 first
  | exact wpAny_bind (m:=Builtin.Tuple.tupleExact _) (wpAny_newObj_type (wpAny_pure ⟨_,rfl,wpAny_pure h⟩) htake)
  | exact wpAny_bind (m:=Builtin.Tuple.tupleExact _) (wpAny_newObj_type (wpAny_bind (wpAny_pure (wpAny_pure ⟨_,rfl,wpAny_pure h⟩))) htake)
  | exact wpAny_bind (wpAny_bind (m:=Builtin.Tuple.tupleExact _) (wpAny_newObj_type (wpAny_pure (wpAny_pure ⟨_,rfl,wpAny_pure h⟩)) htake))
  | exact wpAny_bind (wpAny_bind (m:=Builtin.Tuple.tupleExact _) (wpAny_newObj_type (wpAny_pure ⟨_,rfl,wpAny_pure h⟩) htake))
end
end HT
namespace L2
open PySem PySem.Spec PyProof.Rows
noncomputable abbrev TO:=St→Hp→(Option Int→Hp→Prop)→Prop
noncomputable def PO (X:Cx) (e:Option Expr) (t:TO):Prop:=
 ∀ (pins:List (Addr × Obj)) (s:Shared) (σ:St) (H:Hp) (Q:Option Int→Hp→Prop),Inv X pins σ H s→t σ H Q→
  wpAny (model X.prog X.w) X.A (evalPart e X.env) (fun u s'=>∃ o H',Inv X pins σ H' s'∧IsPart u o∧Q o H') X.xe s
noncomputable def tNoPart:TO:=fun _ H Q=>Q none H
noncomputable def tPart (t:TE):TO:=fun σ H Q=>t σ H fun x H1=>∃ i,x=.int i∧Q (some i) H1
section
variable {X:Cx} {e:Expr} {te:TE} {lo hi:Option Expr} {tl th:TO} {pos p2:Pos}
theorem po_none:PO X none tNoPart:=by
 intro pins s σ H Q I h
 rw [evalPart_none]
 exact wpAny_pure ⟨none,H,I,.none,h⟩
theorem po_some (h:PE X e te):PO X (some e) (tPart te):=by
 intro pins s σ H Q I hw
 rw [evalPart_some]
 refine thn (h pins s σ H _ I hw) fun u s1 zq=>?_
 obtain ⟨x,H1,I1,r1,q1⟩:=zq
 obtain ⟨i,rfl,q⟩:=q1
 obtain ⟨t,rfl⟩:=r1
 exact ⟨some i,H1,I1,.int i t,q⟩
noncomputable def SlR (X:Cx) (r:V→Option Int→Option Int→Hp→VK→Prop):Prop:=
 ∀ (pins:List (Addr × Obj)) (s:Shared) (σ:St) (H:Hp) (x:V) (v vl vu:Value) (lo hi:Option Int) (sl:Addr) (Q:VK),Inv X pins σ H s→RelV x v→s.heap.IsSliceOf sl vl vu .none→IsPart vl lo→IsPart vu hi→r x lo hi H Q→
  ∃ T id,typeLookup (.type T) "__getitem__" = pure (some (.builtin id))∧s.TypeIs v T∧wpAny (model X.prog X.w) X.A (getItem v (.ref sl)) (EP X pins σ Q) X.xe s
noncomputable def tSl (r:V→Option Int→Option Int→Hp→VK→Prop) (te:TE) (tl th:TO):TE:=fun σ H Q=>te σ H fun x H1=>tl σ H1 fun l H2=>th σ H2 fun u H3=>r x l u H3 Q
theorem pe_slice {r:V→Option Int→Option Int→Hp→VK→Prop} (hr:SlR X r) (he:PE X e te) (hl:PO X lo tl) (hu:PO X hi th):PE X (.Subscript e (.Slice lo hi none p2) pos) (tSl r te tl th):=by
 intro pins s σ H Q I h
 refine Subscript_ (thn (he pins s σ H _ I h) fun v s1 zq=>?_)
 obtain ⟨x,H1,I1,r1,q1⟩:=zq
 refine wpAny_Slice (thn (hl pins s1 σ H1 _ I1 q1) fun vl s2 zq=>ex5 zq fun l H2 I2 pl q2=>thn (hu pins s2 σ H2 _ I2 q2) fun vu s3 zq=>?_)
 obtain ⟨u,H3,I3,pu,q3⟩:=zq
 rw [evalPart_none]
 refine wpAny_pure ?_
 have I4:Inv X pins σ H3 { s3 with heap:=s3.heap.push { cls:=.type "slice",data:=.fields #[vl,vu,.none] } }:=I3.kept (t':=s3.toks) fun b ob q=>Heap.get?_push_of_some _ q
 obtain ⟨T,id,hT,ht,hg⟩:=hr pins { s3 with heap:=s3.heap.push { cls:=.type "slice",data:=.fields #[vl,vu,.none] } } σ H3 x v vl vu l u s3.heap.objs.size Q I4 r1 (Heap.IsSliceOf.new ..) pl pu q3
 show wpAny (model X.prog X.w) X.A (subscriptTail e (.Slice lo hi none p2) v (.ref s3.heap.objs.size)) (EP X pins σ Q) X.xe { s3 with heap:=s3.heap.push { cls:=.type "slice",data:=.fields #[vl,vu,.none] } }
 exact tail_any (ops:=[.ref s3.heap.objs.size,v]) ht hT hg (by with_unfolding_all rfl)
noncomputable def cutV (xs:List V) (lo hi:Option Int):List V:=(xs.drop (HT.sIx xs.length 0 lo)).take (HT.sIx xs.length xs.length hi - HT.sIx xs.length 0 lo)
theorem cutV_length (xs:List V) (lo hi:Option Int):(cutV xs lo hi).length≤xs.length:=by
 unfold cutV
 rw [List.length_take,List.length_drop]
 omega
noncomputable def rSlT (K:PySem.W.Frag):V→Option Int→Option Int→Hp→VK→Prop:=fun x lo hi H Q=>∃ a xs,x=.ref a∧SqT K H a xs∧
 ¬ (HT.sIx xs.length 0 lo=0∧HT.sIx xs.length xs.length hi=xs.length)∧∀ p,H p=none→Q (.ref p) (upd H p (.tup (cutV xs lo hi)))
theorem sl_tup:SlR X (rSlT X.K):=by
 intro pins s σ H x v vl vu lo hi sl Q I rx hs pl pu h
 obtain ⟨a,xs,rfl,hx,hw,q⟩:=h
 cases rx
 obtain ⟨its,r,ht,hz⟩:=I.tuple hx
 have hlen:its.toArray.size=xs.length:=by rw [List.size_toArray]; exact r.length.symm
 refine ⟨"tuple",_,PyProof.Rows.slot_tuple_getitem.lookup,ht.typeIs,?_⟩
 refine HT.getItem_tuple_cut ht hs pl pu (by rw [hlen]; exact hw) ?_ (by rw [hlen]; exact hz)
 rw [hlen]
 refine ⟨.ref s.heap.objs.size,_,I.laid (t':=s.toks) (o:=.tup (cutV xs lo hi)) (fun b ob q=>Heap.get?_push_of_some _ q) (Nat.le_refl _) ?_,rfl,q _ (I.hok.fresh (Nat.le_refl _))⟩
 exact ⟨Nat.le_trans (cutV_length xs lo hi) hz,_,(r.drop (HT.sIx xs.length 0 lo)).take (HT.sIx xs.length xs.length hi - HT.sIx xs.length 0 lo),IsTup.new _ _⟩
noncomputable def rCatT (K:PySem.W.Frag):R2:=fun x y H Q=>∃ a b xs ys,x=.ref a∧y=.ref b∧SqT K H a xs∧SqT K H b ys∧xs ≠ []∧xs.length + ys.length≤sizeLine∧
 (ys=[]→Q (.ref a) H)∧(ys ≠ []→∀ p,H p=none→Q (.ref p) (upd H p (.tup (xs ++ ys))))
theorem Vals.nil_iff {xs:List V} {us:List Value} (r:Vals xs us):us=[]↔xs=[]:=by
 cases r with
 | nil=>simp
 | cons _ _=>simp
theorem op_catT:OpR X (binaryOp .Add) (rCatT X.K):=by
 intro pins s σ H x y v u Q I rx ry h
 obtain ⟨a,b,xs,ys,rfl,rfl,ha,hb,hx,hz,q1,q2⟩:=h
 cases rx
 cases ry
 obtain ⟨its,r1,p1,_⟩:=I.tuple ha
 obtain ⟨its2,r2,p2,_⟩:=I.tuple hb
 refine HT.cat_tup p1 p2 (fun z=>hx (r1.nil_iff.mp z)) (fun z=>⟨.ref a,H,I,rfl,q1 (r2.nil_iff.mp z)⟩) (fun z=>?_) (by rw [← r1.length,← r2.length]; exact hz)
 refine ⟨.ref s.heap.objs.size,_,I.laid (t':=s.toks) (o:=.tup (xs ++ ys)) (fun b ob q=>Heap.get?_push_of_some _ q) (Nat.le_refl _) ?_,rfl,q2 (fun w=>z (r2.nil_iff.mpr w)) _ (I.hok.fresh (Nat.le_refl _))⟩
 exact ⟨by rw [List.length_append]; exact hz,_,r1.append r2,IsTup.new _ _⟩
end
end L2
namespace L2
open PySem PySem.Spec PyProof.Rows
noncomputable def ixN (n:Nat) (i:Int):Option Nat:=if 0≤i then (if i < n then some i.toNat else none) else if -(n:Int)≤i then some (i + n).toNat else none
noncomputable def atI {α:Type} (xs:List α) (i:Int):Option α:=(ixN xs.length i).bind fun j=>xs[j]?
theorem ixN_seq {n:Nat} {i:Int} {j:Nat} (h:ixN n i=some j):seqIndex? i n=some j∧j < n∧-(n:Int)≤i∧i < n:=by
 unfold ixN at h
 by_cases h0:0≤i
 ·rw [if_pos h0] at h
  by_cases h1:i < n
  ·rw [if_pos h1] at h
   have e:i.toNat=j:=Option.some.inj h
   exact ⟨by rw [seqIndex_of h0 h1,e],by omega,by omega,h1⟩
  ·rw [if_neg h1] at h; cases h
 ·rw [if_neg h0] at h
  by_cases h1:-(n:Int)≤i
  ·rw [if_pos h1] at h
   have e:(i + n).toNat=j:=Option.some.inj h
   exact ⟨by rw [seqIndex_neg (by omega) h1,e],by omega,h1,by omega⟩
  ·rw [if_neg h1] at h; cases h
theorem atI_get {α:Type} {xs:List α} {i:Int} {v:α} (h:atI xs i=some v):∃ j,seqIndex? i xs.length=some j∧xs[j]?=some v∧j < xs.length∧-(xs.length:Int)≤i∧i < xs.length:=by
 unfold atI at h
 cases e:ixN xs.length i with
 | none=>rw [e] at h; cases h
 | some j=>
  rw [e] at h
  obtain ⟨h1,h2,h3,h4⟩:=ixN_seq e
  exact ⟨j,h1,h,h2,h3,h4⟩
noncomputable def PlainIx (b:Expr):Prop:=∀ o i,subscripted b false o i=operate [o,i] (getItem o i)
noncomputable def IxR (X:Cx) (r:R2):Prop:=
 ∀ (value slice:Expr) (pins:List (Addr × Obj)) (s:Shared) (σ:St) (H:Hp) (x y:V) (v u:Value) (Q:VK),Inv X pins σ H s→RelV x v→RelV y u→r x y H Q→
  subscripted slice false v u=operate [v,u] (getItem v u)→wpAny (model X.prog X.w) X.A (subscriptTail value slice v u) (EP X pins σ Q) X.xe s
noncomputable def MtR (X:Cx) (id:String) (r:V→List V→Hp→VK→Prop):Prop:=
 ∀ (pins:List (Addr × Obj)) (s:Shared) (σ:St) (H:Hp) (x:V) (xs:List V) (v:Value) (us:List Value) (Q:VK),Inv X pins σ H s→RelV x v→Vals xs us→r x xs H Q→
  wpAny (model X.prog X.w) X.A (call (.builtin id) (v :: us)) (EP X pins σ Q) X.xe s
section
variable {X:Cx} {a b:Expr} {ta tb:TE} {pos:Pos}
theorem IxR.or {r r':R2} (h:IxR X r) (h':IxR X r'):IxR X (fun x y H Q=>r x y H Q ∨ r' x y H Q):=by
 intro value slice pins s σ H x y v u Q I rx ry q hs
 rcases q with q | q
 ·exact h value slice pins s σ H x y v u Q I rx ry q hs
 ·exact h' value slice pins s σ H x y v u Q I rx ry q hs
theorem pe_ix {r:R2} (hr:IxR X r) (ha:PE X a ta) (hb:PE X b tb) (hs:PlainIx b):PE X (.Subscript a b pos) (tOp r ta tb):=by
 intro pins s σ H Q I h
 exact Subscript_ (binT ha hb I h fun v u s2 x y H2 I2 rx ry q=>hr a b pins s2 σ H2 x y v u Q I2 rx ry q (hs _ _))
noncomputable def rIxL (K:PySem.W.Frag):R2:=fun x y H Q=>∃ p xs i v,x=.ref p∧y=.int i∧SqL K H p xs∧atI xs i=some v∧Q v H
noncomputable def rIxT (K:PySem.W.Frag):R2:=fun x y H Q=>∃ p xs i v,x=.ref p∧y=.int i∧SqT K H p xs∧atI xs i=some v∧Q v H
noncomputable def rIxS:R2:=fun x y H Q=>∃ z i c,x=.str z∧y=.int i∧z.length≤sizeLine∧atI z.cps.toList i=some c∧Q (.str ⟨#[c]⟩) H
theorem ix_list:IxR X (rIxL X.K):=by
 intro value slice pins s σ H x y v u Q I rx ry h hs
 obtain ⟨p,xs,i,z,rfl,rfl,hq,he,q⟩:=h
 cases rx
 obtain ⟨t,rfl⟩:=ry
 obtain ⟨its,r,pl,hz⟩:=I.list hq
 obtain ⟨j,h1,h2,h3,h4,h5⟩:=atI_get he
 obtain ⟨w,ew,rw'⟩:=r.get h2
 have hl:=r.length
 have hn:=line63
 have fin:EP X pins σ Q w s:=⟨z,H,I,rw',q⟩
 by_cases h0:0≤i
 ·have hj:i.toNat=j:=by
   rw [seqIndex_of h0 h5] at h1
   exact Option.some.inj h1
  exact item_listR pl.isList h0 (by omega) (by rw [hj]; simpa using ew) fin hs
 ·have hj:(i + (its.toArray.size:Int)).toNat=j:=by
   rw [seqIndex_neg (by omega) h4] at h1
   rw [List.size_toArray,← hl]
   exact Option.some.inj h1
  exact subscriptTail_builtinR (x:=w) pl.isList.typeIs slot_list_getitem.lookup
   (wpAny_getItem_list_neg (Q:=fun r s'=>r=w∧EP X pins σ Q r s') pl.isList (by omega) (by rw [List.size_toArray] <;> omega) (by omega) (by rw [hj]; simpa using ew) ⟨rfl,fin⟩) hs
theorem ix_tup:IxR X (rIxT X.K):=by
 intro value slice pins s σ H x y v u Q I rx ry h hs
 obtain ⟨p,xs,i,z,rfl,rfl,hq,he,q⟩:=h
 cases rx
 obtain ⟨t,rfl⟩:=ry
 obtain ⟨its,r,pl,hz⟩:=I.tuple hq
 obtain ⟨j,h1,h2,h3,h4,h5⟩:=atI_get he
 obtain ⟨w,ew,rw'⟩:=r.get h2
 have hl:=r.length
 have hn:=line63
 have fin:EP X pins σ Q w s:=⟨z,H,I,rw',q⟩
 exact subscriptTail_builtinR (x:=w) pl.typeIs slot_tuple_getitem.lookup
  (getItem_tuple (j:=j) (Q:=fun r s'=>r=w∧EP X pins σ Q r s') pl (by omega) (by omega) (by rw [List.size_toArray,← hl]; exact h1) (by simpa using ew) ⟨rfl,fin⟩) hs
theorem ix_str:IxR X rIxS:=by
 intro value slice pins s σ H x y v u Q I rx ry h hs
 obtain ⟨z,i,c,rfl,rfl,hz,he,q⟩:=h
 obtain ⟨t,rfl⟩:=rx
 obtain ⟨t',rfl⟩:=ry
 obtain ⟨j,h1,h2,h3,h4,h5⟩:=atI_get he
 have hl:z.cps.toList.length=z.length:=by simp [Str.length]
 rw [hl] at h1 h4 h5
 have hn:=line63
 exact tail_any (typeIs_str s z t) slot_str_getitem.lookup (getItem_str (c:=c) (by
  have e1:decide (i < -(2 ^ 63:Int))=false:=decide_eq_false (by omega)
  have e2:decide (i ≥ 2 ^ 63)=false:=decide_eq_false (by omega)
  rw [e1,e2,Bool.or_false]) (by rw [h1]; simpa using h2) ⟨.str ⟨#[c]⟩,H,I.tok _,⟨_,rfl⟩,q⟩) hs
noncomputable def rIx (K:PySem.W.Frag):R2:=fun x y H Q=>rIxL K x y H Q ∨ rIxT K x y H Q ∨ rIxS x y H Q
theorem ix_seq:IxR X (rIx X.K):=ix_list.or (ix_tup.or ix_str)
theorem mapSeq_set (its:List Value) (n j:Nat) (u:Value):Obj.mapSeq (·.setIfInBounds j u) { cls:=.type "list",data:=.seq its.toArray n }={ cls:=.type "list",data:=.seq (its.set j u).toArray n }:=by
 simp [Obj.mapSeq]
theorem Inv.lst {pins:List (Addr × Obj)} {σ:St} {H:Hp} {s:Shared} {p:Addr} {xs:List V} (I:Inv X pins σ H s) (h:H p=some (.lst xs)):
  ∃ (its:List Value) (n:Nat),Vals xs its∧s.heap.get? p=some { cls:=.type "list",data:=.seq its.toArray n }∧xs.length≤sizeLine:=by
 obtain ⟨z,its,n,r,e⟩:=I.hok p _ h
 exact ⟨its,n,r,e,z⟩
theorem Inv.lstUpd {pins:List (Addr × Obj)} {σ:St} {H:Hp} {s:Shared} {p:Addr} {xs ys:List V} {its its':List Value} {n n':Nat} {f:Obj→Obj} (I:Inv X pins σ H s) (h:H p=some (.lst xs))
  (ho:s.heap.get? p=some { cls:=.type "list",data:=.seq its.toArray n }) (hf:f { cls:=.type "list",data:=.seq its.toArray n }={ cls:=.type "list",data:=.seq its'.toArray n' }) (r:Vals ys its') (hz:ys.length≤sizeLine) (t:Nat):
  Inv X pins σ (upd H p (.lst ys)) { s with heap:=s.heap.update p f,toks:=t }:=by
 have e:(s.heap.update p f).get? p=some { cls:=.type "list",data:=.seq its'.toArray n' }:=by
  rw [Heap.get?_update_self f ho (by rw [hf] <;> rfl),hf]
 refine I.write (x:=p) (e:=p) (by rw [h]; trivial) (.inl rfl) (fun b u hb q=>(Heap.get?_update_other _ _ (Ne.symm hb)).trans q) ⟨_,e⟩ ?_
 exact ⟨hz,its',n',r,e⟩
noncomputable def rSetL:V→V→V→Hp→(Hp→Prop)→Prop:=fun o i v H Q=>∃ p xs k j,o=.ref p∧i=.int k∧H p=some (.lst xs)∧ixN xs.length k=some j∧Q (upd H p (.lst (xs.set j v)))
theorem set_list:PSet X rSetL:=by
 intro pins s σ H o i v ov iv u Q I ro ri rv h
 obtain ⟨p,xs,k,j,rfl,rfl,hp,hj,q⟩:=h
 cases ro
 obtain ⟨t,rfl⟩:=ri
 obtain ⟨its,n,r,ho,hz⟩:=I.lst hp
 obtain ⟨h1,h2,h3,h4⟩:=ixN_seq hj
 have hl:=r.length
 have hn:=line63
 have I':Inv X pins σ (upd H p (.lst (xs.set j v))) { s with heap:=s.heap.update p (Obj.mapSeq (·.setIfInBounds j u)) }:=
  I.lstUpd hp ho (mapSeq_set its n j u) (r.set rv j) (by rw [List.length_set]; exact hz) s.toks
 by_cases h0:0≤k
 ·have hk:k.toNat=j:=by
   rw [seqIndex_of h0 h4] at h1
   exact Option.some.inj h1
  exact PySem.W.ki_setAt ho h0 (by omega) (by rw [List.size_toArray,← hl]; exact h4) (by rw [hk]; exact ⟨_,I',q⟩)
 ·have hk:(k + (its.toArray.size:Int)).toNat=j:=by
   rw [seqIndex_neg (by omega) h3] at h1
   rw [List.size_toArray,← hl]
   exact Option.some.inj h1
  exact PySem.W.ki_setBack ho (by omega) (by rw [List.size_toArray,← hl]; exact h3) (by omega) (by rw [hk]; exact ⟨_,I',q⟩)
theorem slice_bounds (lo hi:Option Int) (n:Nat):(sliceBounds lo hi none n).1=((HT.sIx n 0 lo:Nat):Int)∧(sliceBounds lo hi none n).2.1=((HT.sIx n n hi:Nat):Int)∧(sliceBounds lo hi none n).2.2=1:=by
 refine ⟨?_,?_,rfl⟩
 ·cases lo with
  | none=>simp [sliceBounds,HT.sIx]
  | some i=>
   simp only [sliceBounds,HT.sIx,Option.getD_none,show (1:Int) > 0 by decide,if_true]
   by_cases h:i < 0
   ·simp only [h,if_true] <;> omega
   ·simp only [h,if_false] <;> omega
 ·cases hi with
  | none=>simp [sliceBounds,HT.sIx]
  | some i=>
   simp only [sliceBounds,HT.sIx,Option.getD_none,show (1:Int) > 0 by decide,if_true]
   by_cases h:i < 0
   ·simp only [h,if_true] <;> omega
   ·simp only [h,if_false] <;> omega
theorem slicePick_cut (its:List Value) (lo hi:Option Int):slicePick its.toArray lo hi none=((its.drop (HT.sIx its.length 0 lo)).take (HT.sIx its.length its.length hi - HT.sIx its.length 0 lo)).toArray:=by
 obtain ⟨h1,h2,h3⟩:=slice_bounds lo hi its.toArray.size
 unfold slicePick
 rw [h1,h2,h3]
 simp only [sliceRange_one,pick_run,List.size_toArray] <;> rfl
noncomputable def rSlL (K:PySem.W.Frag):V→Option Int→Option Int→Hp→VK→Prop:=fun x lo hi H Q=>∃ a xs,x=.ref a∧SqL K H a xs∧∀ p,H p=none→Q (.ref p) (upd H p (.lst (cutV xs lo hi)))
theorem sl_list:SlR X (rSlL X.K):=by
 intro pins s σ H x v vl vu lo hi sl Q I rx hs pl pu h
 obtain ⟨a,xs,rfl,hx,q⟩:=h
 cases rx
 obtain ⟨its,r,ht,hz⟩:=I.list hx
 have hlen:=r.length
 refine ⟨"list",_,slot_list_getitem.lookup,ht.isList.typeIs,?_⟩
 refine wpAny_getItem_list_slice ht.isList hs pl pu .none (by simp) ?_ (by rw [List.size_toArray] <;> omega)
 rw [slicePick_cut,← hlen]
 refine ⟨.ref s.heap.objs.size,_,I.laid (t':=s.toks) (o:=.lst (cutV xs lo hi)) (fun b ob q=>Heap.get?_push_of_some _ q) (Nat.le_refl _) ?_,rfl,q _ (I.hok.fresh (Nat.le_refl _))⟩
 exact ⟨Nat.le_trans (cutV_length xs lo hi) hz,_,0,(r.drop (HT.sIx xs.length 0 lo)).take (HT.sIx xs.length xs.length hi - HT.sIx xs.length 0 lo),Heap.get?_push_size _ rfl⟩
noncomputable def flatV:V→Bool
 | .non=>true
 | .bl _=>true
 | .int _=>true
 | .str _=>true
 | _=>false
noncomputable def eqV:V→V→Bool
 | .non,.non=>true
 | .bl a,.bl b=>a == b
 | .bl a,.int b=>(if a then 1 else 0) == b
 | .int a,.bl b=>a == (if b then 1 else 0)
 | .int a,.int b=>a == b
 | .str a,.str b=>a == b
 | _,_=>false
theorem eqAt_V {A:Around} {s:Shared} {y x:V} {u v:Value} (ry:RelV y u) (rx:RelV x v) (fy:flatV y=true) (fx:flatV x=true):SeqAt.EqAt A s u v (eqV y x):=by
 cases y with
 | non=>
  cases ry
  cases x with
  | non=>cases rx; exact SeqAt.EqAt.same _
  | bl b=>cases rx; exact SeqAt.EqAt.none_bool b
  | int b=>obtain ⟨t,rfl⟩:=rx; exact SeqAt.EqAt.none_int b t
  | str b=>obtain ⟨t,rfl⟩:=rx; exact SeqAt.EqAt.none_str b t
  | _=>exact absurd (show false=true from fx) Bool.false_ne_true
 | bl a=>
  cases ry
  cases x with
  | non=>cases rx; exact SeqAt.EqAt.bool_none a
  | bl b=>cases rx; exact SeqAt.EqAt.bool_bool a b
  | int b=>obtain ⟨t,rfl⟩:=rx; exact SeqAt.EqAt.bool_int a b t
  | str b=>obtain ⟨t,rfl⟩:=rx; exact SeqAt.EqAt.bool_str a b t
  | _=>exact absurd (show false=true from fx) Bool.false_ne_true
 | int a=>
  obtain ⟨t',rfl⟩:=ry
  cases x with
  | non=>cases rx; exact SeqAt.EqAt.int_none a t'
  | bl b=>cases rx; exact SeqAt.EqAt.int_bool a t' b
  | int b=>obtain ⟨t,rfl⟩:=rx; exact SeqAt.EqAt.int_int a t' b t
  | str b=>obtain ⟨t,rfl⟩:=rx; exact SeqAt.EqAt.int_str a t' b t
  | _=>exact absurd (show false=true from fx) Bool.false_ne_true
 | str a=>
  obtain ⟨t',rfl⟩:=ry
  cases x with
  | non=>cases rx; exact SeqAt.EqAt.str_none a t'
  | bl b=>cases rx; exact SeqAt.EqAt.str_bool a t' b
  | int b=>obtain ⟨t,rfl⟩:=rx; exact SeqAt.EqAt.str_int a t' b t
  | str b=>obtain ⟨t,rfl⟩:=rx; exact SeqAt.EqAt.str_str a t' b t
  | _=>exact absurd (show false=true from fx) Bool.false_ne_true
 | _=>exact absurd (show false=true from fy) Bool.false_ne_true
noncomputable def eqU (x:V) (u:Value):Bool:=match u with
 | .none=>eqV .non x
 | .bool b=>eqV (.bl b) x
 | .int i _=>eqV (.int i) x
 | .str z _=>eqV (.str z) x
 | _=>false
theorem eqU_of {x y:V} {u:Value} (r:RelV y u) (f:flatV y=true):eqU x u=eqV y x:=by
 cases y with
 | non=>cases r; rfl
 | bl b=>cases r; rfl
 | int i=>obtain ⟨t,rfl⟩:=r; rfl
 | str z=>obtain ⟨t,rfl⟩:=r; rfl
 | _=>exact absurd (show false=true from f) Bool.false_ne_true
theorem any_eqU {x:V}:∀ {xs:List V} {us:List Value},Vals xs us→xs.all flatV=true→us.any (eqU x)=xs.any fun y=>eqV y x
 | _,_,.nil,_=>rfl
 | y :: xs,u :: us,.cons r t,f=>by
  rw [List.all_cons,Bool.and_eq_true] at f
  rw [List.any_cons,List.any_cons,eqU_of r f.1,any_eqU t f.2]
theorem mem_eqAt {A:Around} {s:Shared} {x:V} {v:Value} (rx:RelV x v) (fx:flatV x=true):∀ {xs:List V} {us:List Value},Vals xs us→xs.all flatV=true→∀ u ∈ us,SeqAt.EqAt A s u v (eqU x u)
 | _,_,.nil,_=>fun u hu=>by cases hu
 | y :: xs,u :: us,.cons r t,f=>fun u' hu=>by
  rw [List.all_cons,Bool.and_eq_true] at f
  rcases List.mem_cons.mp hu with rfl | hu
  ·rw [eqU_of r f.1]; exact eqAt_V r rx f.1 fx
  ·exact mem_eqAt rx fx t f.2 u' hu
noncomputable def inV (x:V) (xs:List V):Bool:=xs.any fun y=>eqV y x
noncomputable def rIn (K:PySem.W.Frag) (neg:Bool):R2:=fun x y H Q=>∃ p xs,y=.ref p∧(SqL K H p xs ∨ SqT K H p xs)∧flatV x=true∧xs.all flatV=true∧Q (.bl (if neg then !inV x xs else inV x xs)) H
theorem op_in_seq:OpR X (compareOp .In) (rIn X.K false):=by
 intro pins s σ H x y v u Q I rx ry h
 obtain ⟨p,xs,rfl,hq,fx,fs,q⟩:=h
 cases ry
 rcases hq with hq | hq
 ·obtain ⟨its,r,pl,hz⟩:=I.list hq
  refine SeqAt.in_listAt (eqU x) pl.isList (fun w hw=>mem_eqAt rx fx r fs w (by simpa using hw)) ⟨.bl _,H,I,rfl,?_⟩
  rw [show its.toArray.any (eqU x)=its.any (eqU x) by simp,any_eqU r fs]
  exact q
 ·obtain ⟨its,r,pl,hz⟩:=I.tuple hq
  refine SeqAt.in_tupleAt (eqU x) pl (fun w hw=>mem_eqAt rx fx r fs w (by simpa using hw)) ⟨.bl _,H,I,rfl,?_⟩
  rw [show its.toArray.any (eqU x)=its.any (eqU x) by simp,any_eqU r fs]
  exact q
theorem call_len_seq:CallR X (.builtin "len") (fun xs H Q=>∃ p ys,xs=[.ref p]∧(SqL X.K H p ys ∨ SqT X.K H p ys)∧Q (.int ys.length) H):=by
 intro pins s σ H xs us Q I r h
 obtain ⟨p,ys,rfl,hq,q⟩:=h
 obtain ⟨u,rfl,rx⟩:=vals1 r
 cases rx
 have hn:=line63
 rcases hq with hq | hq
 ·obtain ⟨its,r',pl,hz⟩:=I.list hq
  have hlen:=r'.length
  exact Calls.call_len_list pl.isList (by simp only [List.size_toArray] <;> omega) ⟨.int ys.length,H,I.tok _,⟨s.toks + 1,by rw [List.size_toArray,hlen]⟩,q⟩
 ·obtain ⟨its,r',pl,hz⟩:=I.tuple hq
  have hlen:=r'.length
  exact len_tuple pl (by simp only [List.size_toArray] <;> omega) ⟨.int ys.length,H,I.tok _,⟨s.toks + 1,by rw [List.size_toArray,hlen]⟩,q⟩
theorem call_len_str:CallR X (.builtin "len") (fun xs H Q=>∃ z,xs=[.str z]∧z.length≤sizeLine∧Q (.int z.length) H):=by
 intro pins s σ H xs us Q I r h
 obtain ⟨z,rfl,hz,q⟩:=h
 obtain ⟨u,rfl,t,rfl⟩:=vals1 r
 have hn:=line63
 exact len_str (by omega) ⟨.int z.length,H,I.tok _,⟨_,rfl⟩,q⟩
noncomputable def tyV (K:PySem.W.Frag) (T:String) (x:V) (H:Hp):Prop:=match x with
 | .str _=>T = "str"
 | .int _=>T = "int"
 | .ref p=>(T = "list"∧∃ xs,SqL K H p xs) ∨ (T = "tuple"∧∃ o,K.lookup p=some o∧o.cls=.type "tuple"∧o.dict=none) ∨
   (T = "dict"∧((∃ kvs,H p=some (.dK kvs)) ∨ ∃ kvs,H p=some (.dT kvs))) ∨ (T = "set"∧∃ S n,H p=some (.set S n))
 | _=>False
theorem tyV_is {pins:List (Addr × Obj)} {σ:St} {H:Hp} {s:Shared} {T:String} {x:V} {v:Value} (I:Inv X pins σ H s) (r:RelV x v) (ty:tyV X.K T x H):
  s.TypeIs v T∧∀ a,v=.ref a→∃ ob,s.heap.get? a=some ob∧ob.dict=none:=by
 cases x with
 | str z=>
  obtain ⟨t,rfl⟩:=r
  cases (show T = "str" from ty)
  exact ⟨typeIs_str s z t,fun _ e=>nomatch e⟩
 | int i=>
  obtain ⟨t,rfl⟩:=r
  cases (show T = "int" from ty)
  exact ⟨typeIs_int s i t,fun _ e=>nomatch e⟩
 | ref p=>
  cases r
  rcases ty with ⟨rfl,xs,hq⟩ | ⟨rfl,o,hk,hc,hd⟩ | ⟨rfl,hk⟩ | ⟨rfl,S,n,hk⟩
  ·obtain ⟨its,_,pl,_⟩:=I.list hq
   refine ⟨pl.isList.typeIs,fun a e=>?_⟩
   cases e
   obtain ⟨o,n,e,c,hd,_⟩:=pl
   exact ⟨o,e,hd⟩
  ·refine ⟨⟨o,I.kIn p o hk,hc⟩,fun a e=>?_⟩
   cases e
   exact ⟨o,I.kIn _ o hk,hd⟩
  ·have z:∃ o,s.heap.get? p=some o∧o.ExactDict:=by
    rcases hk with ⟨kvs,hk⟩ | ⟨kvs,hk⟩
    ·obtain ⟨_,_,_,_,o,_,_,e,ex,_⟩:=I.hok p _ hk
     exact ⟨o,e,ex⟩
    ·obtain ⟨_,_,_,_,o,_,_,e,ex,_⟩:=I.hok p _ hk
     exact ⟨o,e,ex⟩
   obtain ⟨o,e,ex⟩:=z
   refine ⟨⟨o,e,ex.1⟩,fun a e2=>?_⟩
   cases e2
   exact ⟨o,e,ex.2.1⟩
  ·obtain ⟨o,_,_,_,e,ex,_⟩:=I.hok p _ hk
   refine ⟨⟨o,e,ex.1⟩,fun a e2=>?_⟩
   cases e2
   exact ⟨o,e,ex.2.1⟩
 | _=>exact False.elim ty
noncomputable def tBM0 (K:PySem.W.Frag) (T:String) (r:V→List V→Hp→VK→Prop) (to:TE):TE:=fun σ H Q=>to σ H fun x H1=>tyV K T x H1∧r x [] H1 Q
noncomputable def tBM (K:PySem.W.Frag) (T:String) (r:V→List V→Hp→VK→Prop) (to:TE) (t:TA):TE:=fun σ H Q=>to σ H fun x H1=>tyV K T x H1∧t σ H1 fun xs H2=>r x xs H2 Q
variable {o e:Expr} {es:List Expr} {to:TE} {t:TA} {name:Str} {apos cpos:Pos} {T id:String} {r:V→List V→Hp→VK→Prop}
theorem pe_bm0 (pa:PlainAttrs T) (slot:Slot T name id) (hty:typeOf (.builtin id)=pure (.type "method_descriptor")) (hm:MtR X id r) (ho:PE X o to)
  (hbase:autoParam (attributeBase o name X.env (eval o X.env)=eval o X.env) Au.h1._auto_1) (hline:autoParam ((apos.endLine == cpos.line)=true) Au.h1._auto_1):PE X (.Call (.Attribute o name apos) [] [] cpos) (tBM0 X.K T r to):=by
 intro pins s σ H Q I h
 refine wpAny_Call_method0_late hbase hline (thn (ho pins s σ H _ I h) fun v s1 zq=>?_)
 obtain ⟨x,H1,I1,r1,ty,q1⟩:=zq
 obtain ⟨h1,h2⟩:=tyV_is I1 r1 ty
 exact ⟨T,id,pa,slot,hty,h1,h2,Calls.callWith_builtin rfl (PySem.evalArgs_none (hm pins s1 σ H1 x [] v [] Q I1 r1 .nil q1))⟩
theorem pe_bm (pa:PlainAttrs T) (slot:Slot T name id) (hty:typeOf (.builtin id)=pure (.type "method_descriptor")) (hm:MtR X id r) (ho:PE X o to) (ha:PA X (e :: es) t)
  (hbase:autoParam (attributeBase o name X.env (eval o X.env)=eval o X.env) Au.h1._auto_1)
  (hfew:autoParam (((backTo cpos (starEach (e :: es) X.env)).all (fun x=>!x.1) && (backToKw cpos (keywordEach [] X.env)).all (fun x=>x.1.isSome)
   && decide ((e :: es).length + ([]:List Keyword).length + (if ([]:List Keyword).isEmpty then 0 else 1) < 30))=true) Au.h1._auto_1)
  (hline:autoParam ((apos.endLine == cpos.line)=true) Au.h1._auto_1) (hs:autoParam (starEach (e :: es) X.env=(false,eval e X.env) :: starEach es X.env) Au.h1._auto_1) (hplain:autoParam ((backTo cpos (starEach es X.env)).any (·.1)=false) Au.h1._auto_1):
  PE X (.Call (.Attribute o name apos) (e :: es) [] cpos) (tBM X.K T r to t):=by
 intro pins s σ H Q I h
 refine wpAny_Call_method_late hbase hfew hline rfl (thn (ho pins s σ H _ I h) fun v s1 zq=>?_)
 obtain ⟨x,H1,I1,r1,ty,q1⟩:=zq
 obtain ⟨h1,h2⟩:=tyV_is I1 r1 ty
 refine ⟨T,id,pa,slot,hty,h1,h2,?_⟩
 have hA:=ha cpos pins s1 σ H1 _ I1 q1
 rw [hs] at hA ⊢
 refine Calls.callWith_builtin (by show (false || (backTo cpos (starEach es X.env)).any (·.1))=false; rw [hplain] <;> rfl) (Calls.evalArgs_plain ?_)
 exact thn hA fun us s2 zq=>ex5 zq fun vs H2 I2 r2 q2=>hm pins s2 σ H2 x vs v us Q I2 r1 r2 q2
end
end L2
namespace L2
open PySem PySem.Spec PyProof.Rows
noncomputable def MtM (X:Cx) (id:String) (r:V→List V→Hp→VK→Prop):Prop:=
 ∀ (pins:List (Addr × Obj)) (s:Shared) (σ:St) (H:Hp) (x:V) (xs:List V) (v:Value) (us:List Value) (Q:VK),Inv X pins σ H s→RelV x v→Vals xs us→r x xs H Q→
  wpAny (model X.prog X.w) X.A (call (.builtin id) (v :: us)) (EP X pins σ Q) X.xe s
theorem Vals.one:∀ {x:V} {us:List Value},Vals [x] us→∃ u,us=[u]∧RelV x u
 | _,_,.cons r .nil=>⟨_,rfl,r⟩
theorem Vals.zero:∀ {us:List Value},Vals [] us→us=[]
 | _,.nil=>rfl
theorem Vals.dropLast {xs:List V} {us:List Value} (h:Vals xs us):Vals xs.dropLast us.dropLast:=by
 induction h with
 | nil=>exact .nil
 | cons r t ih=>
  cases t with
  | nil=>exact .nil
  | cons q t'=>exact .cons r ih
theorem Vals.rep {xs:List V} {us:List Value} (h:Vals xs us):∀ k:Nat,Vals (List.replicate k xs).flatten (List.replicate k us).flatten
 | 0=>.nil
 | k + 1=>by
  rw [List.replicate_succ,List.replicate_succ,List.flatten_cons,List.flatten_cons]
  exact Vals.append h (Vals.rep h k)
theorem erase_last {α:Type} (l:List α):l.eraseIdx (l.length - 1)=l.dropLast:=by
 induction l with
 | nil=>rfl
 | cons a r ih=>
  cases r with
  | nil=>rfl
  | cons b r=>
   have e:(a :: b :: r).length - 1=((b :: r).length - 1) + 1:=by
    have h1:(a :: b :: r).length=r.length + 2:=rfl
    have h2:(b :: r).length=r.length + 1:=rfl
    omega
   rw [e,List.eraseIdx_cons_succ,ih]
   all_goals rfl
theorem foldl_rep (its:List Value):∀ (k:Nat) (acc:List Value),
  List.foldl (fun x1 x2=>x1 ++ x2) acc.toArray (List.replicate k its.toArray)=(acc ++ (List.replicate k its).flatten).toArray
 | 0,acc=>by simp
 | k + 1,acc=>by
  have e:acc.toArray ++ its.toArray=(acc ++ its).toArray:=by simp
  have e2:(acc ++ its) ++ (List.replicate k its).flatten=acc ++ (List.replicate (k + 1) its).flatten:=by
   rw [List.replicate_succ,List.flatten_cons,List.append_assoc]
  rw [← e2,← foldl_rep its k (acc ++ its),← e,List.replicate_succ,List.foldl_cons]
section
variable {X:Cx} {pins:List (Addr × Obj)} {σ:St} {H:Hp} {s:Shared} {l b:Addr} {xs ys zs:List V}
theorem Inv.lset {its its':List Value} {n:Nat} {f:Array Value→Array Value} {t':Nat} (I:Inv X pins σ H s) (hH:H l=some (.lst xs))
  (e:s.heap.get? l=some { cls:=.type "list",data:=.seq its.toArray n }) (hf:f its.toArray=its'.toArray) (hv:Vals ys its') (hz:ys.length≤sizeLine):
  Inv X pins σ (upd H l (.lst ys)) { s with heap:=s.heap.update l (Obj.mapSeq f),toks:=t' }:=by
 have q:=PySem.IsL.update e f
 rw [hf] at q
 refine I.write (x:=l) (e:=l) (by rw [hH]; exact trivial) (.inl rfl) (fun b' u hb hu=>(Heap.get?_update_other s.heap (Obj.mapSeq f) (Ne.symm hb)).trans hu) ⟨_,q⟩ ?_
 exact ⟨hz,its',_,hv,q⟩
theorem Inv.lnew {its:List Value} {t':Nat} (I:Inv X pins σ H s) (hv:Vals ys its) (hz:ys.length≤sizeLine):
  Inv X pins σ (upd H s.heap.objs.size (.lst ys)) { s with heap:=s.heap.push { cls:=.type "list",data:=.seq its.toArray },toks:=t' }:=
 I.laid (fun _ _ q=>Heap.get?_push_of_some _ q) (Nat.le_refl _) ⟨hz,its,0,hv,Heap.get?_push_size _ rfl⟩
theorem Inv.fresh (I:Inv X pins σ H s):H s.heap.objs.size=none:=I.hok.fresh (Nat.le_refl _)
theorem Inv.lstM (I:Inv X pins σ H s) (hH:H l=some (.lst xs)):xs.length≤sizeLine∧∃ (its:List Value) (n:Nat),Vals xs its∧xs.length=its.length∧s.heap.get? l=some { cls:=.type "list",data:=.seq its.toArray n }:=by
 obtain ⟨z,its,n,r,e⟩:=I.hok l _ hH
 exact ⟨z,its,n,r,r.length,e⟩
theorem notLongL {n:Nat} (h:n≤sizeLine):Builtin.List.listTooLong n=false:=by
 unfold Builtin.List.listTooLong
 exact decide_eq_false (by omega)
end
section
variable {X:Cx}
noncomputable def rAppend:V→List V→Hp→VK→Prop:=fun x vs H Q=>∃ l xs y,x=.ref l∧vs=[y]∧H l=some (.lst xs)∧xs.length < sizeLine∧Q .non (upd H l (.lst (xs ++ [y])))
theorem mt_append:MtM X "list.append" rAppend:=by
 intro pins s σ H x vs v us Q I rx rv h
 obtain ⟨l,xs,y,rfl,rfl,hH,hz,q⟩:=h
 cases rx
 obtain ⟨u,rfl,ru⟩:=rv.one
 obtain ⟨z,its,n,r,hl,e⟩:=I.lstM hH
 refine call_meets F.slot_list_append ⟨_,e,rfl⟩ F.entry_list_append (F.args_list_append_2 _ _) (PySem.list_append l its.toArray n u (by rw [List.size_toArray]; omega)) ⟨e,?_⟩
 refine ⟨.non,_,I.lset (its':=its ++ [u]) hH e (by simp) (r.append (.cons ru .nil)) ?_,rfl,q⟩
 rw [List.length_append,List.length_singleton]
 omega
noncomputable def rPop:V→List V→Hp→VK→Prop:=fun x vs H Q=>∃ l xs y,x=.ref l∧vs=[]∧H l=some (.lst xs)∧xs[xs.length - 1]?=some y∧Q y (upd H l (.lst xs.dropLast))
theorem mt_pop:MtM X "list.pop" rPop:=by
 intro pins s σ H x vs v us Q I rx rv h
 obtain ⟨l,xs,y,rfl,rfl,hH,hy,q⟩:=h
 cases rx
 have hus:=rv.zero
 subst hus
 obtain ⟨z,its,n,r,hl,e⟩:=I.lstM hH
 obtain ⟨u,hu,ru⟩:=r.get hy
 have hy':its.toArray[its.toArray.size - 1]?=some u:=by
  show its.toArray[its.length - 1]?=some u
  rw [← Array.getElem?_toList,← hl]
  exact hu
 refine call_meets F.slot_list_pop ⟨_,e,rfl⟩ F.entry_list_pop (F.args_list_pop_1 _) (MeetsSeq.list_pop_last l its.toArray n u hy' (by rw [List.size_toArray]; omega)) ⟨e,?_⟩
 refine ⟨y,_,I.lset (its':=its.dropLast) hH e ?_ r.dropLast ?_,ru,q⟩
 ·show its.toArray.eraseIdxIfInBounds (its.toArray.size - 1)=its.dropLast.toArray
  rw [List.size_toArray,List.eraseIdxIfInBounds_toArray,erase_last]
 ·rw [List.length_dropLast]
  omega
noncomputable def rCat:R2:=fun x y H Q=>∃ l b xs zs,x=.ref l∧y=.ref b∧H l=some (.lst xs)∧H b=some (.lst zs)∧xs.length + zs.length≤sizeLine∧∀ p,H p=none→Q (.ref p) (upd H p (.lst (xs ++ zs)))
theorem op_cat:OpR X (binaryOp .Add) rCat:=by
 intro pins s σ H x y v u Q I rx ry h
 obtain ⟨l,b,xs,zs,rfl,rfl,hH,hB,hz,q⟩:=h
 cases rx
 cases ry
 obtain ⟨z,its,n,r,hl,e⟩:=I.lstM hH
 obtain ⟨z2,its2,n2,r2,hl2,e2⟩:=I.lstM hB
 refine PySem.P.add_list e e2 ?_ (by rw [List.size_toArray,List.size_toArray]; omega)
 have ea:its.toArray ++ its2.toArray=(its ++ its2).toArray:=by simp
 rw [ea]
 exact ⟨.ref _,_,I.lnew (t':=s.toks) (r.append r2) (by rw [List.length_append]; omega),rfl,q _ I.fresh⟩
noncomputable def rRep:R2:=fun x y H Q=>∃ l k xs,x=.ref l∧y=.int k∧H l=some (.lst xs)∧-(2 ^ 63)≤k∧k < 2 ^ 63∧xs.length * k.toNat≤sizeLine∧
 ∀ p,H p=none→Q (.ref p) (upd H p (.lst (List.replicate k.toNat xs).flatten))
theorem len_rep {α:Type} (xs:List α) (k:Nat):(List.replicate k xs).flatten.length=k * xs.length:=by
 induction k with
 | zero=>simp
 | succ k ih=>rw [List.replicate_succ,List.flatten_cons,List.length_append,ih,Nat.succ_mul,Nat.add_comm]
theorem op_rep:OpR X (binaryOp .Mult) rRep:=by
 intro pins s σ H x y v u Q I rx ry h
 obtain ⟨l,k,xs,rfl,rfl,hH,h1,h2,hz,q⟩:=h
 cases rx
 obtain ⟨t,rfl⟩:=ry
 obtain ⟨z,its,n,r,hl,e⟩:=I.lstM hH
 have hlen:its.toArray.size * k.toNat≤sizeLine:=by rw [List.size_toArray,← hl]; exact hz
 have hcap:¬ its.toArray.size * k.toNat > (2 ^ 63 - 1) / 8:=by
  have:(sizeLine:Nat)≤(2 ^ 63 - 1) / 8:=by decide
  omega
 have hfit:¬ (!Builtin.List.listFitsIndex k)=true:=by
  rw [fitsIndex_both h1 h2]
  exact Bool.false_ne_true
 have hlong:¬ Builtin.List.listTooLong (its.toArray.size * k.toNat)=true:=by
  rw [notLongL hlen]
  exact Bool.false_ne_true
 have hnew:List.foldl (fun x1 x2=>x1 ++ x2) #[] (List.replicate (if its.toArray.isEmpty=true then 0 else k.toNat) its.toArray)=(List.replicate k.toNat its).flatten.toArray:=by
  have f0:∀ m:Nat,List.foldl (fun x1 x2=>x1 ++ x2) #[] (List.replicate m its.toArray)=(List.replicate m its).flatten.toArray:=fun m=>by
   have:=foldl_rep its m []
   rw [List.nil_append] at this
   exact this
  rw [f0]
  cases its with
  | nil=>simp
  | cons a r'=>rw [if_neg (by simp)]
 refine wpAny_binaryOp_repeat_ref (T:="list") (U:="int") (by decide) ⟨_,e,rfl⟩ (fun s'=>typeIs_int s' k t) noFill_list_mul F.fills_int_mul F.slot_int_rmul repeat_list F.slot_int_index.lookup
  (call_meets F.slot_int_rmul (typeIs_int s k t) F.entry_int_rmul (F.args_int_rmul_2 _ _) (int___rmul___int_list k t l its.toArray n)
   ⟨e,rfl,⟨_,e,rfl⟩,call_meets F.slot_list_mul ⟨_,e,rfl⟩ F.entry_list_mul (F.args_list_mul_2 _ _) (AutoListH.list___mul___list_int_3 l its.toArray n k t hfit hcap hlong) ⟨e,?_⟩⟩)
 rw [hnew]
 exact ⟨.ref _,_,I.lnew (t':=s.toks) (r.rep k.toNat) (by rw [len_rep,Nat.mul_comm]; exact hz),rfl,q _ I.fresh⟩
end
section
variable {prog:Program} {w:World} {A:Around} {E:Value→Shared→Prop} {s:Shared}
end
section
variable {X:Cx}
end
end L2
namespace L2
open PySem PySem.Spec PyProof.Rows
section
variable {κ:Type} [DecidableEq κ]
noncomputable def valV (kvs:List (κ × V)) (k:κ):Option V:=(kvs.find? fun kv=>decide (kv.1=k)).map (·.2)
noncomputable def putK (kvs:List (κ × V)) (k:κ) (v:V):List (κ × V):=
 if (kvs.any fun kv=>decide (kv.1=k))=true then kvs.map (fun kv=>if kv.1=k then (kv.1,v) else kv) else kvs ++ [(k,v)]
theorem valV_pos {p:κ × V} {r:List (κ × V)} {k:κ} (e:p.1=k):valV (p :: r) k=some p.2:=by simp [valV,List.find?_cons,e]
theorem valV_neg {p:κ × V} {r:List (κ × V)} {k:κ} (e:¬ p.1=k):valV (p :: r) k=valV r k:=by simp [valV,List.find?_cons,e]
theorem valV_any (k:κ):∀ kvs:List (κ × V),(kvs.any fun kv=>decide (kv.1=k))=(valV kvs k).isSome
 | []=>rfl
 | p :: r=>by
  rw [List.any_cons]
  by_cases e:p.1=k
  ·simp only [valV_pos e,decide_eq_true e,Bool.true_or,Option.isSome_some]
  ·rw [valV_neg e,decide_eq_false e,Bool.false_or]; exact valV_any k r
theorem length_putK (kvs:List (κ × V)) (k:κ) (v:V):(putK kvs k v).length≤kvs.length + 1:=by
 unfold putK
 split
 ·rw [List.length_map]; omega
 ·rw [List.length_append,List.length_cons,List.length_nil]; omega
theorem RelO.isSome_eq {o:Option V} {u:Option Value} (r:RelO o u):o.isSome=u.isSome:=by
 cases o with
 | none=>cases u with
  | none=>rfl
  | some _=>exact (show False from r).elim
 | some _=>cases u with
  | none=>exact (show False from r).elim
  | some _=>rfl
theorem RelO.getD {o:Option V} {u:Option Value} {d:V} {d':Value} (r:RelO o u) (rd:RelV d d'):RelV (o.getD d) (u.getD d'):=by
 cases o with
 | none=>cases u with
  | none=>exact rd
  | some _=>exact (show False from r).elim
 | some _=>cases u with
  | none=>exact (show False from r).elim
  | some _=>exact r
theorem KV.val {kvs:List (κ × V)} {vs:List (κ × Value)} (r:KV kvs vs) (k:κ):RelO (valV kvs k) (valueAt vs k):=by
 unfold KV at r
 induction r with
 | nil=>exact True.intro
 | @cons p q ps qs h t ih=>
  obtain ⟨h1,h2⟩:=h
  by_cases e:p.1=k
  ·have e':q.1=k:=h1.symm.trans e
   have b:valueAt (q :: qs) k=some q.2:=by simp [valueAt,List.find?_cons,e']
   rw [valV_pos e,b]; exact h2
  ·have e':¬ q.1=k:=fun z=>e (h1.trans z)
   have b:valueAt (q :: qs) k=valueAt qs k:=by simp [valueAt,List.find?_cons,e']
   rw [valV_neg e,b]; exact ih
theorem KV.any {kvs:List (κ × V)} {vs:List (κ × Value)} (r:KV kvs vs) (k:κ):(kvs.any fun kv=>decide (kv.1=k))=vs.any fun kv=>decide (kv.1=k):=by
 unfold KV at r
 induction r with
 | nil=>rfl
 | cons h t ih=>rw [List.any_cons,List.any_cons,ih,h.1]
theorem KV.repl {kvs:List (κ × V)} {vs:List (κ × Value)} (r:KV kvs vs) (k:κ) {y:V} {u:Value} (ry:RelV y u):
  KV (kvs.map fun kv=>if kv.1=k then (kv.1,y) else kv) (vs.map fun kv=>if kv.1=k then (kv.1,u) else kv):=by
 unfold KV at r ⊢
 induction r with
 | nil=>exact .nil
 | @cons p q ps qs h t ih=>
  rw [List.map_cons,List.map_cons]
  refine .cons ?_ ih
  obtain ⟨h1,h2⟩:=h
  by_cases e:p.1=k
  ·rw [if_pos e,if_pos (h1.symm.trans e)]; exact ⟨h1,ry⟩
  ·rw [if_neg e,if_neg (fun z=>e (h1.trans z))]; exact ⟨h1,h2⟩
theorem KV.put {kvs:List (κ × V)} {vs:List (κ × Value)} (r:KV kvs vs) (k:κ) {y:V} {u:Value} (ry:RelV y u):KV (putK kvs k y) (stored vs k u):=by
 unfold putK stored
 rw [r.any k]
 by_cases e:(vs.any fun kv=>decide (kv.1=k))=true
 ·rw [if_pos e,if_pos e]; exact r.repl k ry
 ·rw [if_neg e,if_neg e]; exact Paired.snoc r ⟨rfl,ry⟩
theorem KV.length {kvs:List (κ × V)} {vs:List (κ × Value)} (r:KV kvs vs):kvs.length=vs.length:=Paired.length r
end
theorem kV_is {P:Program} {w:World} {k:Key} {u:Value} (r:RelV (kV k) u):(mixKind P w).is k u=true:=by
 cases k with
 | inl i=>obtain ⟨t,e⟩:=(show ∃ t,u=Value.int i t from r); subst e; exact mixKind_int P w i t
 | inr x=>obtain ⟨t,e⟩:=(show ∃ t,u=Value.str x t from r); subst e; exact mixKind_str P w x t
theorem items_are {P:Program} {w:World}:∀ {ks:List Key} {us:List Value},Vals (ks.map kV) us→ItemsAre (mixKind P w) ks us
 | [],_,r=>by rw [List.map_nil] at r; cases r; exact .nil
 | k :: ks,_,r=>by
  rw [List.map_cons] at r
  cases r with
  | cons h t=>exact .cons (kV_is h) (items_are t)
noncomputable abbrev KT (H:Hp):List (List Key × V)→List (List Key × Addr × Value)→Prop:=Paired fun p q=>p.1=q.1∧H q.2.1=some (.tup (p.1.map kV))∧RelV p.2 q.2.2
theorem KT.val {H:Hp} {kvs:List (List Key × V)} {xs:List (List Key × Addr × Value)} (r:KT H kvs xs) (k:List Key):RelO (valV kvs k) ((atKey xs k).map (·.2)):=by
 induction r with
 | nil=>exact True.intro
 | @cons p q ps qs h t ih=>
  obtain ⟨h1,_,h2⟩:=h
  by_cases e:p.1=k
  ·have e':q.1=k:=h1.symm.trans e
   have b:atKey (q :: qs) k=some q.2:=by simp [atKey,List.find?_cons,e']
   rw [valV_pos e,b]; exact h2
  ·have e':¬ q.1=k:=fun z=>e (h1.trans z)
   have b:atKey (q :: qs) k=atKey qs k:=by simp [atKey,List.find?_cons,e']
   rw [valV_neg e,b]; exact ih
theorem KT.repl {H:Hp} {kvs:List (List Key × V)} {xs:List (List Key × Addr × Value)} (r:KT H kvs xs) (k:List Key) {y:V} {u:Value} (ry:RelV y u):
  KT H (kvs.map fun kv=>if kv.1=k then (kv.1,y) else kv) (xs.map (putAt k u)):=by
 induction r with
 | nil=>exact .nil
 | @cons p q ps qs h t ih=>
  rw [List.map_cons,List.map_cons]
  refine .cons ?_ ih
  obtain ⟨h1,h2,h3⟩:=h
  unfold putAt
  by_cases e:p.1=k
  ·rw [if_pos e,if_pos (h1.symm.trans e)]; exact ⟨h1,h2,ry⟩
  ·rw [if_neg e,if_neg (fun z=>e (h1.trans z))]; exact ⟨h1,h2,h3⟩
theorem KT.put {H:Hp} {kvs:List (List Key × V)} {xs:List (List Key × Addr × Value)} (r:KT H kvs xs) (k:List Key) {b:Addr} {y:V} {u:Value} (hb:H b=some (.tup (k.map kV))) (ry:RelV y u):
  KT H (putK kvs k y) (storedH xs k b u):=by
 have e:(kvs.any fun kv=>decide (kv.1=k))=(atKey xs k).isSome:=by
  rw [valV_any,(r.val k).isSome_eq,Option.isSome_map]
 unfold putK storedH
 rw [e]
 by_cases q:(atKey xs k).isSome=true
 ·rw [if_pos q,if_pos q]; exact r.repl k ry
 ·rw [if_neg q,if_neg q]; exact Paired.snoc r ⟨rfl,hb,ry⟩
theorem KT.keeps {H H':Hp} {kvs:List (List Key × V)} {xs:List (List Key × Addr × Value)} (r:KT H kvs xs) (ht:∀ b ys,H b=some (.tup ys)→H' b=some (.tup ys)):KT H' kvs xs:=
 Paired.mapP r fun _ _ z=>⟨z.1,ht _ _ z.2.1,z.2.2⟩
section
variable {P:Program} {w:World} {H:Hp} {h:Heap} {a:Addr}
theorem rd_of {u:HO} (ok:HOk P w H h) (e:Rd H a u):ObjOk P w H h a u:=e.ok ok
theorem dk_rd {kvs:List (Key × V)} (ok:HOk P w H h) (e:Rd H a (.dK kvs)):kvs.length≤sizeLine∧(a == sysModules)=false∧∃ vs,KV kvs vs∧h.DictOf (mixKind P w) a vs:=
 show ObjOk P w H h a (.dK kvs) from rd_of ok e
theorem dk_of {kvs:List (Key × V)} (ok:HOk P w H h) (e:H a=some (.dK kvs)):kvs.length≤sizeLine∧(a == sysModules)=false∧∃ vs,KV kvs vs∧h.DictOf (mixKind P w) a vs:=dk_rd ok (.inl e)
theorem key_of {ks:List Key} (ok:HOk P w H h) (e:H a=some (.tup (ks.map kV))):(tupleKind (mixKind P w)).is h ks a:=by
 obtain ⟨_,its,r,o,h1,h2,n,h3⟩:=(show ObjOk P w H h a (.tup (ks.map kV)) from ok a _ e)
 exact ⟨o,its.toArray,n,h1,h2,h3,by simpa using items_are r⟩
theorem dt_rd {kvs:List (List Key × V)} (ok:HOk P w H h) (e:Rd H a (.dT kvs)):kvs.length≤sizeLine∧(a == sysModules)=false∧
  ∃ xs,KT H kvs xs∧h.DictOfH (tupleKind (mixKind P w)) a xs:=by
 obtain ⟨z,y,xs,r,o,es,ep,h1,h2,h3,h4,h5⟩:=(show ObjOk P w H h a (.dT kvs) from rd_of ok e)
 refine ⟨z,y,xs,r,o,es,ep,h1,h2,h3,h4,fun x hx=>?_,h5⟩
 have all:∀ {l:List (List Key × V)} {m:List (List Key × Addr × Value)},KT H l m→∀ x ∈ m,(tupleKind (mixKind P w)).is h x.1 x.2.1:=by
  intro l m q
  induction q with
  | nil=>intro x hx; exact nomatch hx
  | @cons p q ps qs hq t ih=>
   intro x hx
   rcases List.mem_cons.mp hx with e | hx
   ·subst e
    exact key_of ok (by rw [← hq.1]; exact hq.2.1)
   ·exact ih x hx
 exact all r x hx
theorem dt_of {kvs:List (List Key × V)} (ok:HOk P w H h) (e:H a=some (.dT kvs)):kvs.length≤sizeLine∧(a == sysModules)=false∧
  ∃ xs,KT H kvs xs∧h.DictOfH (tupleKind (mixKind P w)) a xs:=dt_rd ok (.inl e)
end
noncomputable def DGet (H:Hp) (a:Addr) (y:V) (r:Option V):Prop:=
 (∃ kvs k,Rd H a (.dK kvs)∧y=kV k∧r=valV kvs k) ∨ ∃ kvs k b,Rd H a (.dT kvs)∧y=.ref b∧H b=some (.tup (k.map kV))∧r=valV kvs k
noncomputable def DPut (H:Hp) (a:Addr) (y v:V) (H':Hp):Prop:=
 (∃ kvs k,H a=some (.dK kvs)∧y=kV k∧kvs.length < sizeLine∧H'=upd H a (.dK (putK kvs k v))) ∨
 ∃ kvs k b,H a=some (.dT kvs)∧y=.ref b∧H b=some (.tup (k.map kV))∧kvs.length < sizeLine∧H'=upd H a (.dT (putK kvs k v))
theorem DPut.k {H:Hp} {a:Addr} {kvs:List (Key × V)} {k:Key} {v:V} (e:H a=some (.dK kvs)) (hl:kvs.length < sizeLine):DPut H a (kV k) v (upd H a (.dK (putK kvs k v))):=.inl ⟨kvs,k,e,rfl,hl,rfl⟩
section
variable {X:Cx} {pins:List (Addr × Obj)} {σ:St} {H:Hp} {s:Shared} {a:Addr} {y v:V} {u r:Value} {o:Option V} {A:Around} {E:Value→Shared→Prop}
theorem Inv.big (I:Inv X pins σ H s):sysModules < s.heap.objs.size:=by
 have h:mainGlobals < s.heap.objs.size:=(I.mod.glob.keeps I.bk).lt
 exact Nat.lt_trans (by decide) h
theorem d_getItem {Q:Value→Shared→Prop} (hu:A.units + 1 < cLine) (I:Inv X pins σ H s) (g:DGet H a y (some v)) (ry:RelV y u) (h:∀ w' s',Inv X pins σ H s'→RelV v w'→Q w' s'):
  wpAny (model X.prog X.w) A (getItem (.ref a) u) Q E s:=by
 rcases g with ⟨kvs,k,e,ey,l⟩ | ⟨kvs,k,b,e,ey,eb,l⟩
 ·subst ey
  obtain ⟨z,hd,vs,rel,dd⟩:=dk_rd I.hok e
  obtain ⟨w',hw,rw'⟩:=RelO.some_of (v:=v) (o:=valueAt vs k) (by rw [l]; exact rel.val k)
  exact wpAny_getItem_of (kV_is ry) dd.mapOf hw (h w' _ (I.tok _) rw')
 ·subst ey
  cases (show u=Value.ref b from ry)
  obtain ⟨z,hd,xs,rel,dd⟩:=dt_rd I.hok e
  obtain ⟨w',hw,rw'⟩:=RelO.some_of (v:=v) (o:=(atKey xs k).map (·.2)) (by rw [l]; exact rel.val k)
  obtain ⟨p,hp,hp2⟩:=Option.map_eq_some_iff.mp hw
  refine wpAny_getItem_heap (tupleKind_room_in1 hu) (key_of I.hok eb) dd hp ?_
  rw [hp2]
  exact h w' _ (I.tok _) rw'
theorem d_in {Q:Value→Shared→Prop} (hu:A.units + 1 < cLine) (I:Inv X pins σ H s) (g:DGet H a y o) (ry:RelV y u) (h:∀ s',Inv X pins σ H s'→Q (.bool o.isSome) s'):
  wpAny (model X.prog X.w) A (compareOp .In u (.ref a)) Q E s:=by
 rcases g with ⟨kvs,k,e,ey,l⟩ | ⟨kvs,k,b,e,ey,eb,l⟩
 ·subst ey
  obtain ⟨z,hd,vs,rel,dd⟩:=dk_rd I.hok e
  refine wpAny_in_of (kV_is ry) hd dd.mapOf ?_
  rw [← (rel.val k).isSome_eq,← l]
  exact h _ (I.tok _)
 ·subst ey
  cases (show u=Value.ref b from ry)
  obtain ⟨z,hd,xs,rel,dd⟩:=dt_rd I.hok e
  refine wpAny_in_heap (tupleKind_room_in1 hu) (key_of I.hok eb) hd dd ?_
  have q:=(rel.val k).isSome_eq
  rw [Option.isSome_map] at q
  rw [← q,← l]
  exact h _ (I.tok _)
theorem d_write {h':Heap} {t':Nat} {ob:HO} (I:Inv X pins σ H s) (mu:Mut (H a)) (hs:Heap.SameBut a s.heap h') (he:∃ q,h'.get? a=some q) (new:ObjOk X.prog X.w (upd H a ob) h' a ob):
  Inv X pins σ (upd H a ob) { s with heap:=h',toks:=t' }:=
 I.write (x:=a) (e:=a) mu (.inl rfl) (fun b q hb z=>(hs.2 b hb).trans z) he new
theorem dk_new {P:Program} {w:World} {H':Hp} {h':Heap} {kvs:List (Key × V)} {vs:List (Key × Value)} (z:kvs.length≤sizeLine) (hd:(a == sysModules)=false) (rel:KV kvs vs) (dd:h'.DictOf (mixKind P w) a vs):
  ObjOk P w H' h' a (.dK kvs):=⟨z,hd,vs,rel,dd⟩
theorem d_setItem {H':Hp} {Q:Unit→Shared→Prop} (hu:A.units + 1 < cLine) (I:Inv X pins σ H s) (g:DPut H a y v H') (ry:RelV y u) (rv:RelV v r) (h:∀ s',Inv X pins σ H' s'→Q () s'):
  wpAny (model X.prog X.w) A (setItem (.ref a) u r) Q E s:=by
 rcases g with ⟨kvs,k,e,ey,l,eH⟩ | ⟨kvs,k,b,e,ey,eb,l,eH⟩
 ·subst ey eH
  obtain ⟨z,hd,vs,rel,dd⟩:=dk_of I.hok e
  have hz:vs.length≤sizeLine:=by rw [← rel.length]; exact z
  have hl:(putK kvs k v).length≤sizeLine:=by have:=length_putK kvs k v; omega
  refine wpAny_setItem_pairs (hsz:=hz) (kV_is ry) dd fun h' dd' hs=>h _ ?_
  have he:∃ q,h'.get? a=some q:=let ⟨q,_,_,hq,_⟩:=dd'; ⟨q,hq⟩
  exact d_write I (by rw [e]; exact True.intro) hs he (dk_new hl hd (rel.put k rv) dd')
 ·subst ey eH
  cases (show u=Value.ref b from ry)
  obtain ⟨z,hd,xs,rel,dd⟩:=dt_of I.hok e
  have hz:xs.length≤sizeLine:=by rw [← Paired.length rel]; exact z
  have hl:(putK kvs k v).length≤sizeLine:=by have:=length_putK kvs k v; omega
  refine wpAny_setItem_heap (hsz:=hz) (tupleKind_room_in1 hu) (key_of I.hok eb) dd fun h' dd' hs=>h _ ?_
  obtain ⟨q,es,ep,hq,h2,h3,h4,_,h5⟩:=dd'
  refine d_write I (by rw [e]; exact True.intro) hs ⟨q,hq⟩ ⟨hl,hd,_,(rel.put k eb rv).keeps fun c ys ec=>?_,q,es,ep,hq,h2,h3,h4,h5⟩
  rw [upd_ne (ne_of ec e (fun z=>nomatch z))]
  exact ec
end
section
variable {X:Cx} {pins:List (Addr × Obj)} {σ:St} {H:Hp} {s:Shared} {a:Addr} {kvs:List (Key × V)} {k:Key} {u:Value} {A:Around} {E:Value→Shared→Prop}
theorem d_len {Q:Value→Shared→Prop} (I:Inv X pins σ H s) (e:Rd H a (.dK kvs)) (h:∀ t s',Inv X pins σ H s'→Q (.int kvs.length t) s'):wpAny (model X.prog X.w) A (call (.builtin "len") [.ref a]) Q E s:=by
 obtain ⟨z,hd,vs,rel,dd⟩:=dk_rd I.hok e
 refine call_len_dict hd dd (by rw [← rel.length]; rw [sizeLine_eq] at z; omega) ?_
 rw [← rel.length]
 exact h _ _ (I.tok _)
end
theorem dict_typeIs {X:Cx} {pins:List (Addr × Obj)} {σ:St} {H:Hp} {s:Shared} {a:Addr} {y:V} {o:Option V} (I:Inv X pins σ H s) (g:DGet H a y o):s.TypeIs (.ref a) "dict":=by
 rcases g with ⟨kvs,k,e,_,_⟩ | ⟨kvs,k,b,e,_,_,_⟩
 ·obtain ⟨_,_,vs,_,dd⟩:=dk_rd I.hok e
  exact dd.typeIs
 ·obtain ⟨_,_,xs,_,dd⟩:=dt_rd I.hok e
  exact dd.typeIs
section
variable {X:Cx} {o i e value:Expr} {pos pos' tpos:Pos} {td ty tv:TE}
end
theorem dk_empty {P:Program} {w:World} {H:Hp} (h:Heap) (hb:sysModules < h.objs.size):ObjOk P w H (h.push { cls:=.type "dict",data:=.dict #[] }) h.objs.size (.dK []):=
 ⟨Nat.zero_le _,beq_eq_false_iff_ne.mpr (Ne.symm (Nat.ne_of_lt hb)),[],.nil,Heap.DictOf.new h⟩
noncomputable def tDNewK:TE:=fun _ H Q=>∀ p,H p=none→Q (.ref p) (upd H p (.dK []))
section
variable {X:Cx} {pos:Pos}
theorem pe_dnewK:PE X (.Dict [] [] pos) tDNewK:=fun pins s σ H Q I h=>
 wpAny_Dict_empty ⟨.ref s.heap.objs.size,_,I.laid (a:=s.heap.objs.size) (o:=.dK []) (t':=s.toks) (fun _ _ q=>Heap.get?_push_of_some _ q) (Nat.le_refl _) (dk_empty s.heap I.big),rfl,h _ (I.hok.fresh (Nat.le_refl _))⟩
end
noncomputable def tPairs:List (TE × TE)→St→Hp→(List (V × V)→Hp→Prop)→Prop
 | [],_,H,Q=>Q [] H
 | (tk,tv) :: r,σ,H,Q=>tk σ H fun x H1=>tv σ H1 fun y H2=>tPairs r σ H2 fun ps H3=>Q ((x,y) :: ps) H3
noncomputable abbrev VV:List (V × V)→List (Value × Value)→Prop:=Paired fun p q=>RelV p.1 q.1∧RelV p.2 q.2
noncomputable def PPs (X:Cx) (pos:Pos) (keys:List (Option Expr)) (values:List Expr) (trs:List (TE × TE)):Prop:=
 ∀ (pins:List (Addr × Obj)) (s:Shared) (σ:St) (H:Hp) (Q:List (V × V)→Hp→Prop),Inv X pins σ H s→tPairs trs σ H Q→
  wpAny (model X.prog X.w) X.A (evalPairs (pairTrees keys values X.env pos)) (fun vs s'=>∃ ps H',Inv X pins σ H' s'∧VV ps vs∧Q ps H') X.xe s
theorem pps_nil {X:Cx} {pos:Pos}:PPs X pos [] [] []:=fun pins s σ H Q I h=>pairTrees_nil_walk ⟨[],H,I,.nil,h⟩
theorem pps_cons {X:Cx} {pos:Pos} {k v:Expr} {ks:List (Option Expr)} {vs:List Expr} {tk tv:TE} {trs:List (TE × TE)} (hk:PE X k tk) (hv:PE X v tv) (hr:PPs X pos ks vs trs):
  PPs X pos (some k :: ks) (v :: vs) ((tk,tv) :: trs):=fun pins s σ H Q I h=>
 pairTrees_cons_walk (thn (hk pins s σ H _ I h) fun u s1 zq=>ex5 zq fun x H1 I1 rx q1=>thn (hv pins s1 σ H1 _ I1 q1) fun w2 s2 zq=>ex5 zq fun y H2 I2 ry q2=>
  thn (hr pins s2 σ H2 _ I2 q2) fun ws s3 zq=>ex5 zq fun ps H3 I3 rel q3=>⟨(x,y) :: ps,H3,I3,.cons ⟨rx,ry⟩ rel,q3⟩)
noncomputable def mergeK (kvs more:List (Key × V)):List (Key × V):=more.foldl (fun acc kv=>putK acc kv.1 kv.2) kvs
theorem KV.merge:∀ {more:List (Key × V)} {rs:List (Key × Value)} {kvs:List (Key × V)} {vs:List (Key × Value)},KV more rs→KV kvs vs→KV (mergeK kvs more) (merged vs rs):=by
 intro more rs kvs vs r
 unfold KV at r
 induction r generalizing kvs vs with
 | nil=>intro q; exact q
 | @cons p q ps qs h t ih=>
  intro r0
  have e:KV (putK kvs p.1 p.2) (stored vs q.1 q.2):=by
   have:=r0.put p.1 h.2
   rw [← h.1]; exact this
  exact ih e
theorem length_mergeK:∀ (more kvs:List (Key × V)),(mergeK kvs more).length≤kvs.length + more.length
 | [],kvs=>by show kvs.length≤kvs.length + 0; omega
 | p :: r,kvs=>by
  have h1:=length_mergeK r (putK kvs p.1 p.2)
  have h2:=length_putK kvs p.1 p.2
  show (mergeK (putK kvs p.1 p.2) r).length≤_
  rw [List.length_cons]; omega
theorem carries_of {P:Program} {w:World}:∀ {kvs:List (Key × V)} {ws:List (Value × Value)},VV (kvs.map fun kv=>(kV kv.1,kv.2)) ws→∃ rs,Carries (mixKind P w) ws rs∧KV kvs rs
 | [],_,r=>by rw [List.map_nil] at r; cases r; exact ⟨[],True.intro,.nil⟩
 | p :: kvs,_,r=>by
  rw [List.map_cons] at r
  cases r with
  | @cons a b as bs h t=>
   obtain ⟨rs,c,q⟩:=carries_of (P:=P) (w:=w) t
   obtain ⟨b1,b2⟩:=b
   exact ⟨(p.1,b2) :: rs,⟨kV_is h.1,rfl,c⟩,.cons ⟨rfl,h.2⟩ q⟩
noncomputable def tDisp (trs:List (TE × TE)):TE:=fun σ H Q=>∀ p,H p=none→tPairs trs σ (upd H p (.dK [])) fun ps H2=>H2 p=some (.dK [])∧∃ kvs:List (Key × V),ps=kvs.map (fun kv=>(kV kv.1,kv.2))∧kvs.length≤15∧Q (.ref p) (upd H2 p (.dK (mergeK [] kvs)))
theorem pe_disp {X:Cx} {pos:Pos} {keys:List (Option Expr)} {values:List Expr} {trs:List (TE × TE)} (h:PPs X pos keys values trs) (hall:keys.all (·.isSome)=true) (hl:keys.length=values.length) (h0:keys ≠ [])
  (h15:keys.length≤15):PE X (.Dict keys values pos) (tDisp trs):=by
 intro pins s σ H Q I q
 have hn:=I.hok.fresh (Nat.le_refl s.heap.objs.size)
 have I1:=I.laid (a:=s.heap.objs.size) (o:=.dK []) (h':=s.heap.push { cls:=.type "dict",data:=.dict #[] }) (t':=s.toks) (fun _ _ q=>Heap.get?_push_of_some _ q) (Nat.le_refl _) (dk_empty s.heap I.big)
 refine wpAny_Dict_walk (knd:=mixKind X.prog X.w) hall hl h0 h15 (thn (h pins _ σ _ _ I1 (q _ hn)) fun ws s2 zq=>?_)
 obtain ⟨ps,H2,I2,rel,e,kvs,ep,lk,q2⟩:=zq
 subst ep
 obtain ⟨rs,c,rk⟩:=carries_of (P:=X.prog) (w:=X.w) rel
 obtain ⟨z,hd,vs0,r0,dd⟩:=dk_of I2.hok e
 cases r0
 refine ⟨rs,c,dd,fun h' dd' hs=>⟨.ref s.heap.objs.size,_,?_,rfl,q2⟩⟩
 have hz:(mergeK [] kvs).length≤sizeLine:=by
  have h1:=length_mergeK kvs []
  rw [List.length_nil] at h1
  rw [sizeLine_eq]; omega
 have he:∃ q,h'.get? s.heap.objs.size=some q:=let ⟨q,_,_,hq,_⟩:=dd'; ⟨q,hq⟩
 exact d_write I2 (by rw [e]; exact True.intro) hs he (dk_new hz hd (rk.merge .nil) dd')
structure M2 (X:Cx) (o:Expr) (m:Str) (apos:Pos) (e f:Expr) (cpos:Pos):Prop where
 base:attributeBase o m X.env (eval o X.env)=eval o X.env
 few:((backTo cpos (starEach [e,f] X.env)).all (fun x=>!x.1) && (backToKw cpos (keywordEach [] X.env)).all (fun x=>x.1.isSome)
  && decide (([e,f]:List Expr).length + ([]:List Keyword).length + (if ([]:List Keyword).isEmpty then 0 else 1) < 30))=true
 line:(apos.endLine == cpos.line)=true
 trees:backTo cpos (starEach [e,f] X.env)=[(false,eval e X.env),(false,eval f X.env)]
noncomputable def IsD (H:Hp) (a:Addr):Prop:=(∃ kvs,Rd H a (.dK kvs)) ∨ ∃ kvs,Rd H a (.dT kvs)
theorem isD_at {X:Cx} {pins:List (Addr × Obj)} {σ:St} {H:Hp} {s:Shared} {a:Addr} (I:Inv X pins σ H s) (d:IsD H a):
  s.TypeIs (.ref a) "dict"∧(∀ b,Value.ref a=.ref b→∃ ob,s.heap.get? b=some ob∧ob.dict=none)∧(a == sysModules)=false:=by
 rcases d with ⟨kvs,e⟩ | ⟨kvs,e⟩
 ·obtain ⟨_,hd,vs,_,dd⟩:=dk_rd I.hok e
  refine ⟨dd.typeIs,fun b q=>?_,hd⟩
  cases q
  obtain ⟨ob,_,_,h1,h2,_⟩:=dd
  exact ⟨ob,h1,h2.2.1⟩
 ·obtain ⟨_,hd,xs,_,dd⟩:=dt_rd I.hok e
  refine ⟨dd.typeIs,fun b q=>?_,hd⟩
  cases q
  obtain ⟨ob,_,_,h1,h2,_⟩:=dd
  exact ⟨ob,h1,h2.2.1⟩
section
variable {X:Cx} {pins:List (Addr × Obj)} {σ:St} {H:Hp} {s:Shared} {a:Addr} {y d:V} {u r:Value} {o:Option V} {A:Around} {E:Value→Shared→Prop}
theorem d_get2 {Q:Value→Shared→Prop} (hu:A.units + 1 < cLine) (I:Inv X pins σ H s) (g:DGet H a y o) (ry:RelV y u) (rd:RelV d r) (h:∀ w' s',Inv X pins σ H s'→RelV (o.getD d) w'→Q w' s'):
  wpAny (model X.prog X.w) A (call (.builtin "dict.get") [.ref a,u,r]) Q E s:=by
 rcases g with ⟨kvs,k,e,ey,l⟩ | ⟨kvs,k,b,e,ey,eb,l⟩
 ·subst ey
  obtain ⟨z,hd,vs,rel,dd⟩:=dk_rd I.hok e
  refine call_meetsIn PySem.F.slot_dict_get dd.typeIs PySem.F.entry_dict_get (PySem.F.args_dict_get_3 _ _ _) (meets_dict_get_default (mixKind X.prog X.w) a (kV_is ry) hd r) ⟨_,dd.mapOf,h _ _ (I.tok _) ?_⟩
  rw [l]
  exact (rel.val k).getD rd
 ·subst ey
  cases (show u=Value.ref b from ry)
  obtain ⟨z,hd,xs,rel,dd⟩:=dt_rd I.hok e
  refine call_meetsIn PySem.F.slot_dict_get dd.typeIs PySem.F.entry_dict_get (PySem.F.args_dict_get_3 _ _ _) (meetsH_dict_get_default (tupleKind (mixKind X.prog X.w)) a b hd r) ⟨tupleKind_room_in1 hu,k,xs,key_of I.hok eb,dd,h _ _ (I.tok _) ?_⟩
  rw [l]
  exact (rel.val k).getD rd
end
noncomputable def tDGet2 (td ty tx:TE):TE:=fun σ H Q=>td σ H fun x H1=>∃ a,x=.ref a∧IsD H1 a∧ty σ H1 fun y H2=>tx σ H2 fun z H3=>∃ o,DGet H3 a y o∧Q (o.getD z) H3
section
variable {X:Cx} {o e f:Expr} {apos cpos:Pos} {td ty tx:TE}
theorem pe_dget2 (hu:X.A.units + 1 < cLine) (ho:PE X o td) (he:PE X e ty) (hf:PE X f tx) (m:M2 X o "get" apos e f cpos):PE X (.Call (.Attribute o "get" apos) [e,f] [] cpos) (tDGet2 td ty tx):=by
 intro pins s σ H Q I h
 refine wpAny_Call_method m.base m.few m.line PySem.F.plainAttrs_dict PySem.F.slot_dict_get PySem.F.type_dict_get (thn (ho pins s σ H _ I h) fun u s1 zq=>?_)
 obtain ⟨x,H1,I1,rx,a,ex,d,q1⟩:=zq
 subst ex
 obtain rfl:u=Value.ref a:=rx
 obtain ⟨t1,t2,_⟩:=isD_at I1 d
 refine ⟨t1,t2,?_⟩
 rw [m.trees]
 refine Calls.callWith_builtin rfl (Calls.evalArgs_plain (Calls.spliced_cons (thn (he pins s1 σ H1 _ I1 q1) fun iv s2 zq=>ex5 zq fun y H2 I2 ry q2=>
  Calls.spliced_cons (thn (hf pins s2 σ H2 _ I2 q2) fun fv s3 ⟨z,H3,I3,rz,ov,g,q3⟩=>Calls.spliced_nil ?_))))
 exact d_get2 hu I3 g ry rz fun w' s4 I4 rw'=>⟨_,H3,I4,rw',q3⟩
end
section
variable {X:Cx} {pins:List (Addr × Obj)} {σ:St} {H:Hp} {s:Shared} {a:Addr} {kvs:List (Key × V)} {A:Around} {E:Value→Shared→Prop}
end
section
variable {X:Cx} {pins:List (Addr × Obj)} {σ:St} {H:Hp} {s:Shared} {a:Addr} {y:V} {u:Value} {A:Around} {E:Value→Shared→Prop}
end
end L2
namespace Att
open PySem PySem.W PySem.Calls PyProof.Rows
theorem ints_of_wellAll {P:Params} {h:Heap}:∀ (ns:List Int) (vs:List Value),WellAll P h vs (ns.map WData.int)→IntsAre vs ns:=by
 intro ns
 induction ns with
 | nil=>
  intro vs w
  rw [List.map_nil] at w
  cases w
  exact .nil
 | cons n ns ih=>
  intro vs w
  rw [List.map_cons] at w
  cases w with
  | cons a b=>
   cases a
   exact .cons _ _ (ih _ b)
theorem script_of {l:OpenLaw} {n:Nat} (hn:l.most=some n) {P:Params} {h:Heap} {args:List WData} {vals:List Value}
  (hpre:l.row.toRowW.claim.pre args=true) (hwl:WellAll P h vals args):
  ∃ a vs ns,vals=[Value.ref a]∧args=[WData.list (ns.map WData.int)]∧h.get? a=some { cls:=.type "list",data:=.seq vs.toArray }∧IntsAre vs ns∧ns.length≤n:=by
 have hsh:WShape.hasAll [] args [.list .int]=true:=(pre_splitW hpre).1
 have hc:l.pre.holds [] { args:=args }=true:=(pre_splitW hpre).2
 obtain ⟨d,r,rfl,h1,h2⟩:=hasAllW_cons hsh
 obtain rfl:=hasAllW_nil h2
 obtain ⟨xs,rfl,h3⟩:=hasW_list h1
 obtain ⟨ns,rfl⟩:=items_int h3
 have hlen:ns.length≤n:=by
  unfold OpenLaw.pre at hc
  have h4:(WTm.not (.lt (.lit (.int (n:Int))) (.len (.arg 0)))).holds [] { args:=[.list (ns.map .int)] }=true:=by
   have h4:=(holds_andW hc).1
   rw [hn] at h4
   exact h4
  have h5:=condW_of h4 (w_not (w_lt w_lit (w_len_list (w_arg rfl))))
  rw [List.length_map] at h5
  refine Nat.le_of_not_lt fun q=>?_
  have q':(n:Int) < ((ns.length:Nat):Int):=by omega
  first
   | (rw [decide_eq_true q'] at h5; exact absurd h5 (by decide))
   | (simp at h5; omega)
 cases hwl with
 | cons w1 w2=>
  cases w2
  cases w1 with
  | list ho hall=>exact ⟨_,_,ns,rfl,rfl,ho,ints_of_wellAll ns _ hall,hlen⟩
theorem post_true (l:OpenLaw) (args:List WData):l.row.toRowW.claim.post args (.bool true) args=true:=
 postW_of (r:=l.row.toRowW) (X:=(true == true))
  (show WShape.has [] (.bool true) .bool=true by first | rfl | decide | simp [WShape.has,WShape.arms,WShape.armsAll])
  (show (WTm.eq .res (.lit (.bool true))).value [] { args:=args,res:=some (.bool true),after:=args }=some (.bool (true == true)) from w_eq_bool (w_res rfl) w_lit) rfl
theorem attach_call {l:OpenLaw} {n:Nat} {q:Program} {loose:List Str} {XP:(Str→Option Value)→Heap→Prop} {YP:World→Heap→Prop} {d:DefRec}
  (hn:l.most=some n) (hdf:d.params.defaults=[])
  (call:∀ (w:World) (s₀ s₁:Shared) (mg mb:Str→Option Value) (fa:Addr) (o:Obj) (pm cd doc:Value) (a:Addr) (vs:List Value) (ns:List Int),
   Ground q loose [] XP w s₀ mg mb s₁.heap→YP w s₁.heap→
   s₁.heap.get? fa=some o→o.data=.func (docDef d.name d.params d.body d.scope pm cd doc)→s₁.heap.CodeRec cd d.name→mg d.name=some (.ref fa)→
   s₁.heap.get? a=some { cls:=.type "list",data:=.seq vs.toArray }→IntsAre vs ns→ns.length≤n→s₁.gens = #[]→
   codeAny (model l.prog w) callerA (.call (.ref fa) ⟨[.ref a],[]⟩) (fun r s'=>r=.ok (.ret (.bool true))∧OldK s₁.heap s'.heap∧s'.os=s₁.os∧AllBare s'.gens) s₁):
  WalkO q loose XP YP l.row.toRowW d [] (fun f vs=>PySem.call f vs):=by
 intro w s₀ s₁ mg mb G Y fa o pm cd doc dV kV ho hd hcd hD hmg hg args vals as hpre hlay hrd hwl hlo
 obtain rfl:dV=.none:=Dflts.none hD hdf
 obtain rfl:kV=.none:=Dflts.noKw hD
 obtain ⟨a,vs,ns,rfl,rfl,hobj,hints,hlen⟩:=script_of hn hpre hwl
 refine enter_call (codeAny_mono (call w s₀ s₁ mg mb fa o pm cd doc a vs ns G Y ho (fd_plain hd) hcd hmg hobj hints hlen hg) fun r s' hq=>?_)
 obtain ⟨rfl,h2,h3,h4⟩:=hq
 exact ⟨.inl ⟨.bool true,.bool true,[],rfl,fun _=>rfl,.bool true,post_true l _,fun _=>⟨List.Pairwise.nil,fun _ hm=>(nomatch hm)⟩⟩,h2,h3,h4⟩
section
variable {prog:Program} {w:World} {A:Around} {E:Value→Shared→Prop} {s:Shared} {K:Frag}
end
end Att
namespace L2
open PySem PySem.Spec PyProof.Rows
theorem vals_ints:∀ {vs:List Value} {ns:List Int},IntsAre vs ns→Vals (ns.map V.int) vs
 | _,_,.nil=>.nil
 | _,_,.cons n t h=>.cons ⟨t,rfl⟩ (vals_ints h)
noncomputable def Only (H:Hp):Prop:=∀ b,H b=none ∨ ∃ o xs,H b=some (.frz o (.lst xs))
theorem law_call {P:Program} {w:World} {K:PySem.W.Frag} {mg mb:Str→Option Value} {CX:CXT} {k:Nat} {fa a:Addr} {fd:FuncData} {x:Str} {sp:Sp} {s₁:Shared} {vs:List Value} {ns:List Int}
  (KX:K.In s₁.heap) (hns:s₁.heap.Ns mainGlobals mg) (hb:s₁.heap.Ns builtinsNs mb) (hbb:∀ x:Str,x ≠ "__name__"→mb x=bootBuiltins x) (hlim:s₁.heap.NoLimit) (hg:s₁.gens = #[])
  (ha:s₁.heap.get? a=some { cls:=.type "list",data:=.seq vs.toArray }) (hi:IntsAre vs ns) (hl:ns.length≤sizeLine) (hr:Room k callerA)
  (F:∀ base:Heap,K.In base→base.Ns mainGlobals mg→FnOk P w K mg base CX k fa fd [x] sp) (hbind:∀ (s:Shared) (u:Value),BindsTo s fd ⟨[u],[]⟩ [(x,u)])
  (hsp:∀ H:Hp,Only H→SqL K H a (ns.map V.int)→sp [.ref a] H (fun v _=>v=.bl true) fun _ _ _=>False)
  (hCX:∀ H e s',CX [] H s₁ (fun _ _ _=>False) e s'→False):
  codeAny (model P w) callerA (.call (.ref fa) ⟨[.ref a],[]⟩) (fun r s'=>r=.ok (.ret (.bool true))∧OldK s₁.heap s'.heap∧s'.os=s₁.os∧AllBare s'.gens) s₁:=by
 have rv:=vals_ints hi
 have lenV:=hi.length
 -- from an abstract heap in which nothing but the script may be tracked
 have core:∀ H:Hp,Only H→SqL K H a (ns.map V.int)→HOk P w H s₁.heap→(∀ b,H b ≠ none→b=a)→(H a ≠ none→K.lookup a=none)→
   codeAny (model P w) callerA (.call (.ref fa) ⟨[.ref a],[]⟩) (fun r s'=>r=.ok (.ret (.bool true))∧OldK s₁.heap s'.heap∧s'.os=s₁.os∧AllBare s'.gens) s₁:=by
  intro H hO hS hok hA hK
  have base_of:∀ {b:Addr} {o:Obj},s₁.heap.get? b=some o→H b=none→(hidT s₁.heap H).get? b=some o:=fun e n=>hidT_get e n
  have noA:∀ {b:Addr} {o:Obj} {es:Array DictEntry} {ep:Nat},s₁.heap.get? b=some o→o.data=.dict es ep→H b=none:=fun {b o es ep} e d=>by
   cases q:H b with
   | none=>rfl
   | some u=>
    have e':b=a:=hA b (by rw [q]; simp)
    subst e'
    rw [ha] at e; cases e
    have d':Data.seq vs.toArray _=Data.dict es ep:=d
    cases d'
  have nsK:∀ {b:Addr} {m:Str→Option Value},s₁.heap.Ns b m→(hidT s₁.heap H).Ns b m:=fun {b m} ⟨o,es,ep,e,d,r⟩=>⟨o,es,ep,base_of e (noA e d),d,r⟩
  have hKb:K.In (hidT s₁.heap H):=fun b o e=>base_of (KX b o e) (by
   cases q:H b with
   | none=>rfl
   | some u=>
    have e':b=a:=hA b (by rw [q]; simp)
    subst e'
    rw [hK (by rw [q]; simp)] at e; cases e)
  have hM:Mod K mg (hidT s₁.heap H):=⟨hKb,nsK hns,⟨mb,nsK hb,hbb⟩,let ⟨mc,h1,h2⟩:=hlim; ⟨mc,nsK h1,h2⟩⟩
  have e0:Env0 P w K mg (hidT s₁.heap H) callerA [] s₁ H:=⟨rfl,hM,fun b o e=>of_hidT e,Nat.le_of_eq (hidT_size _ _),trivial,fun b hb=>absurd (show b ∈ ([]:List Addr) from hb) (by simp),hok,.of_eq hg⟩
  refine codeAny_mono ((F _ hKb (nsK hns)).run callerA [] s₁ H ⟨[.ref a],[]⟩ [.ref a] [.ref a] _ _ hr e0 (hbind s₁ (.ref a)) (.cons rfl .nil) (hsp H hO hS)) fun r s' h=>?_
  cases r with
  | error e=>exact (hCX H e s' h).elim
  | ok fl=>
   cases fl with
   | next=>exact False.elim h
   | brk=>exact False.elim h
   | cont=>exact False.elim h
   | ret u=>
    obtain ⟨v,H',os,bare,un,hok',r',q⟩:=h
    have q':v=.bl true:=q
    subst q'
    obtain rfl:u=Value.bool true:=r'
    refine ⟨rfl,OldK.of_keep fun b o e=>?_,os,bare⟩
    cases q:H b with
    | none=>exact un.keep b o e q (by intro z; exact absurd (show b ∈ ([]:List Addr) from z) (by simp)) (by simp)
    | some u=>
     rcases hO b with z | ⟨ob,xs,z⟩
     ·rw [q] at z; cases z
     ·have z2:=un.frzs b ob _ z
      obtain ⟨e1,_⟩:=hok b _ z
      obtain ⟨e2,_⟩:=hok' b _ z2
      rw [e] at e1; cases e1
      exact e2
 cases hk:K.lookup a with
 | some o=>
  -- the script is one of the module's own objects
  have e:=KX a o hk
  rw [ha] at e
  cases e
  refine core (fun _=>none) (fun _=>.inl rfl) (.inr ⟨_,vs.toArray,_,hk,rfl,rfl,rfl,by rw [List.size_toArray,lenV]; exact hl,by simpa using rv⟩) (fun b u z=>by have z':(none:Option HO)=some u:=z; cases z') (fun b z=>absurd rfl z) fun z=>absurd rfl z
 | none=>
  refine core (fun b=>if b=a then some (.frz { cls:=.type "list",data:=.seq vs.toArray } (.lst (ns.map V.int))) else none) (fun b=>?_) (.inl (.inr ⟨{ cls:=.type "list",data:=.seq vs.toArray },if_pos rfl⟩)) (fun b u z=>?_) (fun b z=>?_) fun _=>hk
  ·by_cases hb:b=a
   ·exact .inr ⟨_,_,if_pos hb⟩
   ·exact .inl (if_neg hb)
  ·by_cases hb:b=a
   ·have z':=(if_pos hb).symm.trans z
    cases z'
    subst hb
    exact ⟨ha,by rw [List.length_map]; exact hl,vs,_,rv,ha⟩
   ·have z':=(if_neg hb).symm.trans z
    cases z'
  ·by_cases hb:b=a
   ·exact hb
   ·exact absurd (if_neg hb) z
end L2
namespace L2
open PySem PySem.Spec PyProof.Rows
theorem walk_of {l:PySem.W.OpenLaw} {n k:Nat} {q:Program} {loose:List Str} {XP:(Str→Option Value)→Heap→Prop} {YP:World→Heap→Prop} {d:DefRec} {K:Params→PySem.W.Frag} {CX:World→CXT} {sp:World→Sp} {x:Str}
  (hn:l.most=some n) (hn2:n≤sizeLine) (hdf:d.params.defaults=[]) (hr:Room k callerA)
  (hY:∀ (w:World) (h:Heap),YP w h→(K w.params).In h)
  (F:∀ (w:World) (mg:Str→Option Value) (fa:Addr) (h:Heap),(K w.params).In h→h.Ns mainGlobals mg→mg d.name=some (.ref fa)→
   ∃ fd:FuncData,(∀ (s:Shared) (u:Value),BindsTo s fd ⟨[u],[]⟩ [(x,u)])∧
    ∀ base:Heap,(K w.params).In base→base.Ns mainGlobals mg→FnOk l.prog w (K w.params) mg base (CX w) k fa fd [x] (sp w))
  (hsp:∀ (w:World) (H:Hp) (a:Addr) (ns:List Int),ns.length≤n→Only H→SqL (K w.params) H a (ns.map V.int)→sp w [.ref a] H (fun v _=>v=.bl true) fun _ _ _=>False)
  (hCX:∀ (w:World) (H:Hp) (s:Shared) (e:Value) (s':Shared),CX w [] H s (fun _ _ _=>False) e s'→False):
  PySem.W.WalkO q loose XP YP l.row.toRowW d [] (fun f vs=>PySem.call f vs):=by
 refine Att.attach_call hn hdf fun w s₀ s₁ mg mb fa o pm cd doc a vs ns G Y ho hd hcd hmg hobj hints hlen hg=>?_
 have KX:=hY w _ Y
 obtain ⟨fd,hb,hF⟩:=F w mg fa _ KX G.T.g hmg
 exact law_call KX G.T.g G.T.b G.T.builtins G.T.nolimit hg hobj hints (Nat.le_trans hlen hn2) hr hF hb (fun H hO hS=>hsp w H a ns hlen hO hS) fun H e s'=>hCX w H s₁ e s'
end L2
namespace L2
open PySem PySem.Spec PyProof.Rows
noncomputable def inClass (s:Stmt) (j:Nat):Stmt:=match s with
 | .ClassDef _ _ _ body _ _ _ _ _ _ _=>body.getD j (.Pass ⟨0,0,0,0⟩)
 | _=>.Pass ⟨0,0,0,0⟩
noncomputable def defArgs (s:Stmt):Arguments:=match s with
 | .FunctionDef _ a _ _ _ _ _ _ _ _=>a
 | _=>{ posonlyargs:=[],args:=[],vararg:=none,kwonlyargs:=[],kw_defaults:=[],kwarg:=none,defaults:=[] }
noncomputable def defBody (s:Stmt):List Stmt:=match s with
 | .FunctionDef _ _ b _ _ _ _ _ _ _=>b
 | _=>[]
noncomputable def defScope (s:Stmt):Scope:=match s with
 | .FunctionDef _ _ _ _ _ _ sc _ _ _=>sc
 | _=>{ kind:=.function,names:=[],isGenerator:=false,isCoroutine:=false }
noncomputable abbrev E0:XK:=fun _ _ _=>False
structure Fun (K:PySem.W.Frag) (x qual:Str) (st:Stmt) (f:Addr) (fd:FuncData):Prop where
 ex:∃ (oc:Value) (od:Option Addr) (kV doc pm:Value) (an:Option Addr) (cdv ct:Value) (osl:Array (Option Value)),
  fd=PySem.W.fnOf x qual (defArgs st) (defBody st) (defScope st) .none kV doc pm an cdv ct∧K.lookup f=some ⟨oc,od,.func fd,osl⟩∧PySem.W.codeIn K cdv qual=true
 kp:PySem.W.keepIn K (.ref f)=true
section
variable {P:Program} {w:World} {K:PySem.W.Frag} {mg:Str→Option Value} {base:Heap}
theorem Fun.binds {x qual:Str} {st:Stmt} {f:Addr} {fd:FuncData} {ps:List Str} (F:Fun K x qual st f fd)
  (h:∀ (kV doc pm:Value) (an:Option Addr) (cdv ct:Value) (us:List Value),us.length=ps.length→bindArgs (PySem.W.fnOf x qual (defArgs st) (defBody st) (defScope st) .none kV doc pm an cdv ct) ⟨us,[]⟩=pure (ps.zip us)):Binds K fd ps []:=by
 obtain ⟨oc,od,kV,doc,pm,an,cdv,ct,osl,rfl,lk,hcd⟩:=F.ex
 exact .all (h kV doc pm an cdv ct)
theorem fun_mk {x qual:Str} {st:Stmt} {f:Addr} {oc:Value} {od an:Option Addr} {osl:Array (Option Value)} {kV doc pm cdv ct:Value} (l:K.lookup f=some ⟨oc,od,.func (PySem.W.fnOf x qual (defArgs st) (defBody st) (defScope st) .none kV doc pm an cdv ct),osl⟩)
  (c:PySem.W.codeIn K cdv qual=true) (k:PySem.W.keepIn K (.ref f)=true):Fun K x qual st f (PySem.W.fnOf x qual (defArgs st) (defBody st) (defScope st) .none kV doc pm an cdv ct):=⟨⟨oc,od,kV,doc,pm,an,cdv,ct,osl,rfl,l,c⟩,k⟩
end
section
variable {X:Cx}
theorem pv (i:Nat) {x:Str} {pos:Pos} (hN:autoParam (X.N[i]?=some x) Au.h1._auto_1) (hv:Vis X.env.scope x) (hd:autoParam ((x == ("__debug__":Str))=false) Au.h2._auto_1)
  (hcd:autoParam ((x == ("__classdict__":Str))=false) Au.h2._auto_1):PE X (.Name x pos) (tVar i):=pe_var hN hv hd hcd
end
theorem iteF {A B:Prop} (h:B):if false=true then A else B:=by
 rw [if_neg Bool.false_ne_true]
 exact h
theorem iteT {A B:Prop} (h:A):if true=true then A else B:=by
 rw [if_pos rfl]
 exact h
end L2
namespace L2
open PySem PySem.Spec PyProof.Rows
section
variable {X:Cx}
theorem call_lenD:CallR X (.builtin "len") (fun xs H Q=>∃ a kvs,xs=[V.ref a]∧H a=some (.dK kvs)∧Q (.int kvs.length) H):=by
 intro pins s σ H xs us Q I r h
 obtain ⟨a,kvs,rfl,ha,q⟩:=h
 obtain ⟨u,rfl,ru⟩:=vals1 r
 cases ru
 exact d_len I (.inl ha) fun t s' I'=>⟨.int kvs.length,H,I',⟨t,rfl⟩,q⟩
end
section
variable {κ:Type} [DecidableEq κ]
end
end L2
end
set_option autoImplicit false
namespace PD
open PySem
inductive D where
 | non | bl (b:Bool) | int (i:Int) | str (x:Str)
 | tup (xs:List D) | lst (xs:List D) | fz (xs:List D) | dic (kvs:List (Sum Int Str × D)) | ref (n:Nat) | ty (n:String)
 /-- a caught exception of an own class; an own class -/
 | exc (c:Str) | cls (c:Str)
 deriving Inhabited
inductive SO where
 | lst (xs:List D) | dic (kvs:List (Sum Int Str × D)) | ins (c:Str) (fs:List (Str × D))
 /-- a dict that has been walked: read,changed no more -/
 | fdic (kvs:List (Sum Int Str × D))
 /-- a list that has been walked: read,changed no more -/
 | flst (xs:List D)
 deriving Inhabited
noncomputable abbrev Sto:=List SO
set_option genInjectivity false in
structure XD where
 cls:Str
 arg:D
 deriving Inhabited
inductive R (A:Type) where
 | ok (a:A) (S:Sto) | err (x:XD) (S:Sto) | bad
noncomputable def R.bind {A B:Type} (r:R A) (f:A→Sto→R B):R B:=match r with
 | .ok a S=>f a S | .err x S=>.err x S | .bad=>.bad
theorem R.bind_ok {A B:Type} (a:A) (S:Sto) (f:A→Sto→R B):(R.ok a S).bind f=f a S:=rfl
theorem R.bind_err {A B:Type} (x:XD) (S:Sto) (f:A→Sto→R B):(R.err (A:=A) x S).bind f=.err x S:=rfl
theorem R.bind_bad {A B:Type} (f:A→Sto→R B):(R.bad (A:=A)).bind f=.bad:=rfl
noncomputable def R.of {A:Type} (S:Sto):Option A→R A
 | some a=>.ok a S | none=>.bad
theorem R.of_some {A:Type} (S:Sto) (a:A):R.of S (some a)=.ok a S:=rfl
noncomputable abbrev Rho:=List (Option D)
noncomputable abbrev EM:=Rho→Sto→R D
noncomputable abbrev TM:=Rho→Sto→R Bool
noncomputable abbrev AM:=Rho→Sto→R (List D)
set_option genInjectivity false in
inductive F where
 | nx (r:Rho) | rt (d:D) | bk (r:Rho) | ct (r:Rho)
noncomputable abbrev SM:=Rho→Sto→R F
noncomputable abbrev FM:=List D→Sto→R D
noncomputable def eVar (i:Nat):EM:=fun r S=>match r[i]? with
 | some (some d)=>.ok d S
 | _=>.bad
noncomputable def eC (d:D):EM:=fun _ S=>.ok d S
noncomputable def eUn (f:Sto→D→Option D) (a:EM):EM:=fun r S=>(a r S).bind fun x S1=>R.of S1 (f S1 x)
noncomputable def eOp (f:Sto→D→D→Option D) (a b:EM):EM:=fun r S=>(a r S).bind fun x S1=>(b r S1).bind fun y S2=>R.of S2 (f S2 x y)
noncomputable def eChain (f g:Sto→D→D→Option D) (a b c:EM):EM:=fun r S=>(a r S).bind fun x S1=>(b r S1).bind fun y S2=>match f S2 x y with
 | some (.bl true)=>(c r S2).bind fun z S3=>R.of S3 (g S3 y z)
 | some (.bl false)=>.ok (.bl false) S2
 | _=>.bad
noncomputable def eAnd (a b:EM):EM:=fun r S=>(a r S).bind fun x S1=>match x with
 | .bl true=>b r S1
 | .bl false=>.ok (.bl false) S1
 | _=>.bad
noncomputable def eOr (a b:EM):EM:=fun r S=>(a r S).bind fun x S1=>match x with
 | .bl true=>.ok (.bl true) S1
 | .bl false=>b r S1
 | _=>.bad
noncomputable def eNot (a:EM):EM:=fun r S=>(a r S).bind fun x S1=>match x with
 | .bl b=>.ok (.bl (!b)) S1
 | _=>.bad
noncomputable def eIf (t:TM) (a b:EM):EM:=fun r S=>(t r S).bind fun c S1=>if c=true then a r S1 else b r S1
noncomputable def aNil:AM:=fun _ S=>.ok [] S
noncomputable def aCons (a:EM) (t:AM):AM:=fun r S=>(a r S).bind fun x S1=>(t r S1).bind fun xs S2=>.ok (x :: xs) S2
noncomputable def eTup (t:AM):EM:=fun r S=>(t r S).bind fun xs S1=>if xs.length≤sizeLine then .ok (.tup xs) S1 else .bad
noncomputable def eLst (t:AM):EM:=fun r S=>(t r S).bind fun xs S1=>if xs.length≤sizeLine then .ok (.lst xs) S1 else .bad
noncomputable def eNew (t:AM):EM:=fun r S=>(t r S).bind fun xs S1=>if xs.length≤sizeLine then .ok (.ref S1.length) (S1 ++ [.lst xs]) else .bad
noncomputable def eCall (f:FM) (t:AM):EM:=fun r S=>(t r S).bind fun xs S1=>f xs S1
noncomputable def eB (f:Sto→List D→Option D) (t:AM):EM:=fun r S=>(t r S).bind fun xs S1=>R.of S1 (f S1 xs)
noncomputable def eBN (f:Sto→List D→Option SO) (t:AM):EM:=fun r S=>(t r S).bind fun xs S1=>match f S1 xs with
 | some o=>.ok (.ref S1.length) (S1 ++ [o])
 | none=>.bad
noncomputable def tV (a:EM):TM:=fun r S=>(a r S).bind fun x S1=>match x with
 | .bl b=>.ok b S1
 | _=>.bad
noncomputable def tAnd (a b:TM):TM:=fun r S=>(a r S).bind fun c S1=>if c=true then b r S1 else .ok false S1
noncomputable def tOr (a b:TM):TM:=fun r S=>(a r S).bind fun c S1=>if c=true then .ok true S1 else b r S1
noncomputable def tNot (a:TM):TM:=fun r S=>(a r S).bind fun c S1=>.ok (!c) S1
noncomputable def R.nx {A:Type}:R A→R A
 | .err _ _=>.bad
 | r=>r
noncomputable def eNx (a:EM):EM:=fun r S=>(a r S).nx
noncomputable def tNx (a:TM):TM:=fun r S=>(a r S).nx
noncomputable def aNx (a:AM):AM:=fun r S=>(a r S).nx
noncomputable def sSkip:SM:=fun r S=>.ok (.nx r) S
noncomputable def sBad:SM:=fun _ _=>.bad
noncomputable def sSeq (a b:SM):SM:=fun r S=>(a r S).bind fun f S1=>match f with
 | .nx r1=>b r1 S1
 | g=>.ok g S1
noncomputable def sRet (a:EM):SM:=fun r S=>(a r S).bind fun x S1=>.ok (.rt x) S1
noncomputable def sRetN:SM:=fun _ S=>.ok (.rt .non) S
noncomputable def sDrop (a:EM):SM:=fun r S=>(a r S).bind fun _ S1=>.ok (.nx r) S1
noncomputable def sIf (t:TM) (a b:SM):SM:=fun r S=>(t r S).bind fun c S1=>if c=true then a r S1 else b r S1
noncomputable def sBreak:SM:=fun r S=>.ok (.bk r) S
noncomputable def sCont:SM:=fun r S=>.ok (.ct r) S
set_option genInjectivity false in
inductive G where
 | nm (i:Nat) | tp (gs:List G)
mutual
noncomputable def G.put:G→D→Rho→Option Rho
 | .nm i,d,r=>some (r.set i (some d))
 | .tp gs,d,r=>match d with
  | .tup xs=>G.puts gs xs r
  | _=>none
noncomputable def G.puts:List G→List D→Rho→Option Rho
 | [],[],r=>some r
 | g :: gs,x :: xs,r=>match G.put g x r with
  | some r1=>G.puts gs xs r1
  | none=>none
 | _,_,_=>none
end
noncomputable def sSet (i:Nat) (a:EM):SM:=fun r S=>(a r S).bind fun x S1=>.ok (.nx (r.set i (some x))) S1
noncomputable def sAsg (g:G) (a:EM):SM:=fun r S=>(a r S).bind fun x S1=>match g.put x r with
 | some r1=>.ok (.nx r1) S1
 | none=>.bad
noncomputable def sPar (i j:Nat) (t:AM):SM:=fun r S=>(t r S).bind fun xs S1=>match xs with
 | [x,y]=>.ok (.nx ((r.set i (some x)).set j (some y))) S1
 | _=>.bad
noncomputable def sPut (f:Sto→D→D→D→Option Sto) (e o i:EM):SM:=fun r S=>(e r S).bind fun v S1=>(o r S1).bind fun x S2=>(i r S2).bind fun y S3=>match f S3 x y v with
 | some S4=>.ok (.nx r) S4
 | none=>.bad
noncomputable def sMut (f:Sto→D→List D→Option Sto) (o:EM) (t:AM):SM:=fun r S=>(o r S).bind fun x S1=>(t r S1).bind fun ys S2=>match f S2 x ys with
 | some S3=>.ok (.nx r) S3
 | none=>.bad
noncomputable def sNx (a:SM):SM:=fun r S=>(a r S).nx
noncomputable def sRaise (c:Str) (t:AM):SM:=fun r S=>(t r S).bind fun xs S1=>if xs.length≤sizeLine then .err ⟨c,.tup xs⟩ S1 else .bad
noncomputable def sTry (cs:List Str) (i n:Nat) (b h:SM):SM:=fun r S=>match b r S with
 | .err x S1=>if cs.contains x.cls=true then (h ((List.replicate n none).set i (some (.exc x.cls))) S1).nx.bind fun f S2=>match f with
   | .rt d=>.ok (.rt d) S2
   | _=>.bad
  else .bad
 | .ok f S1=>.ok f S1
 | .bad=>.bad
noncomputable def forL (g:G) (b:SM):List D→SM
 | []=>fun r S=>.ok (.nx r) S
 | x :: xs=>fun r S=>match g.put x r with
  | none=>.bad
  | some r1=>(b r1 S).bind fun f S1=>match f with
   | .nx r2=>forL g b xs r2 S1
   | .ct r2=>forL g b xs r2 S1
   | .bk r2=>.ok (.nx r2) S1
   | .rt d=>.ok (.rt d) S1
noncomputable def sFor (it:AM) (g:G) (b:SM):SM:=fun r S=>(it r S).bind fun xs S1=>forL g b xs r S1
noncomputable def whileL (t:TM) (b:SM):Nat→SM
 | 0=>fun _ _=>.bad
 | n + 1=>fun r S=>(t r S).bind fun c S1=>if c=true then (b r S1).bind fun f S2=>match f with
   | .nx r2=>whileL t b n r2 S2
   | .ct r2=>whileL t b n r2 S2
   | .bk r2=>.ok (.nx r2) S2
   | .rt d=>.ok (.rt d) S2
  else .ok (.nx r) S1
noncomputable def capOf (k:Nat) (caps:List Nat) (r:Rho):Rho:=List.replicate k none ++ caps.map fun i=>(r[i]?).join
noncomputable def compL (g:G) (t:TM) (e:EM):List D→Rho→Sto→R (List D)
 | [],_,S=>.ok [] S
 | x :: xs,r,S=>match g.put x r with
  | none=>.bad
  | some r1=>(t r1 S).bind fun c S1=>if c=true then (e r1 S1).bind fun y S2=>(compL g t e xs r1 S2).bind fun ys S3=>.ok (y :: ys) S3
    else compL g t e xs r1 S1
noncomputable def eComp (it:AM) (k:Nat) (caps:List Nat) (g:G) (t:TM) (e:EM):EM:=fun r S=>(it r S).bind fun xs S1=>
 if xs.length≤sizeLine then (compL g t e xs (capOf k caps r) S1).bind fun ys S2=>.ok (.lst ys) S2 else .bad
noncomputable def tTrue:TM:=fun _ S=>.ok true S
noncomputable def fnM (n:Nat) (b:SM):FM:=fun ds S=>(b (ds.map some ++ List.replicate (n - ds.length) none) S).bind fun f S1=>match f with
 | .rt d=>.ok d S1
 | .nx _=>.ok .non S1
 | _=>.bad
end PD
namespace PD
open PySem PySem.Spec PyProof.Rows L2
set_option genInjectivity false in
structure Wd where
 st:List Addr
 hid:List Addr
noncomputable def Wd.no (w:Wd) (a:Addr):Prop:=a ∉ w.st∧a ∉ w.hid
noncomputable def Wd.add (w:Wd) (p:Addr):Wd:=⟨w.st ++ [p],w.hid⟩
noncomputable def Wd.hide (w:Wd) (p:Addr):Wd:=⟨w.st,p :: w.hid⟩
noncomputable def At (w:Wd) (H:Hp) (a:Addr) (o:HO):Prop:=H a=some o∧w.no a
noncomputable def KTup (K:PySem.W.Frag) (a:Addr) (vs:List V):Prop:=
 ∃ (o:Obj) (its:Array Value) (n:Nat),K.lookup a=some o∧o.cls=.type "tuple"∧o.data=.seq its n∧its.size≤sizeLine∧Vals vs its.toList
noncomputable def KLst (K:PySem.W.Frag) (a:Addr) (vs:List V):Prop:=
 ∃ (o:Obj) (its:Array Value) (n:Nat),K.lookup a=some o∧o.cls=.type "list"∧o.dict=none∧o.data=.seq its n∧its.size≤sizeLine∧Vals vs its.toList
noncomputable def FzAt (K:PySem.W.Frag) (w:Wd) (H:Hp) (a:Addr) (vs:List V):Prop:=(∃ o,At w H a (.frz o (.lst vs))) ∨ KLst K a vs
theorem FzAt.sq {K:PySem.W.Frag} {w:Wd} {H:Hp} {a:Addr} {vs:List V} (h:FzAt K w H a vs):SqL K H a vs:=h.elim (fun ⟨o,z⟩=>.inl (.inr ⟨o,z.1⟩)) .inr
noncomputable def ExcAt (a:Addr) (C:Value):Heap→Prop:=fun h=>∃ o,h.get? a=some o∧o.cls=C
mutual
noncomputable def RD (K:PySem.W.Frag) (w:Wd) (H:Hp):D→V→Prop
 | .non,v=>v=.non
 | .bl b,v=>v=.bl b
 | .int i,v=>v=.int i
 | .str x,v=>v=.str x
 | .tup ds,v=>∃ a vs,v=.ref a∧(At w H a (.tup vs) ∨ KTup K a vs)∧RDs K w H ds vs
 | .lst ds,v=>∃ a vs,v=.ref a∧At w H a (.lst vs)∧RDs K w H ds vs
 | .fz ds,v=>∃ a vs,v=.ref a∧FzAt K w H a vs∧RDs K w H ds vs
 | .dic kvs,v=>∃ a us,v=.ref a∧At w H a (.dK us)∧RDk K w H kvs us
 | .ref n,v=>∃ a,v=.ref a∧w.st[n]?=some a
 | .ty n,v=>v=.ty n
 | .exc c,v=>∃ a C o,v=.ref a∧PySem.W.nsIn K mainGlobals c=some (some C)∧At w H a (.frz o (.ext (ExcAt a C)))
 | .cls c,v=>∃ C,PySem.W.nsIn K mainGlobals c=some (some (.ref C))∧v=.ref C
noncomputable def RDs (K:PySem.W.Frag) (w:Wd) (H:Hp):List D→List V→Prop
 | [],vs=>vs=[]
 | d :: ds,vs=>∃ v r,vs=v :: r∧RD K w H d v∧RDs K w H ds r
noncomputable def RDk (K:PySem.W.Frag) (w:Wd) (H:Hp):List (Sum Int Str × D)→List (Key × V)→Prop
 | [],us=>us=[]
 | (k,d) :: ds,us=>∃ v r,us=(k,v) :: r∧RD K w H d v∧RDk K w H ds r
end
structure Ext (w:Wd) (H:Hp) (w':Wd) (H':Hp):Prop where
 keep:∀ a o,H a=some o→a ∉ w.st→H' a=some o
 sub:∃ l,w'.st=w.st ++ l∧∀ a ∈ l,H a=none
 hid:∀ a,a ∈ w.hid→a ∈ w'.hid
 hnew:∀ a,a ∈ w'.hid→a ∈ w.hid ∨ H a=none
 frz:∀ a o u,H a=some (.frz o u)→H' a=some (.frz o u)
theorem Ext.refl (w:Wd) (H:Hp):Ext w H w H:=⟨fun _ _ h _=>h,⟨[],by simp,fun _ h=>nomatch h⟩,fun _ h=>h,fun _ h=>.inl h,fun _ _ _ h=>h⟩
theorem Ext.out {w w':Wd} {H H':Hp} (x:Ext w H w' H') {a:Addr} {o:HO} (h:H a=some o) (n:a ∉ w.st):a ∉ w'.st:=by
 obtain ⟨l,e,f⟩:=x.sub
 rw [e]
 intro z
 rcases List.mem_append.mp z with z | z
 ·exact n z
 ·rw [f a z] at h; cases h
theorem Ext.at {w w':Wd} {H H':Hp} (x:Ext w H w' H') {a:Addr} {o:HO} (h:At w H a o):At w' H' a o:=⟨x.keep a o h.1 h.2.1,x.out h.1 h.2.1,fun z=>(x.hnew a z).elim h.2.2 fun e=>by rw [h.1] at e; cases e⟩
theorem Ext.get {w w':Wd} {H H':Hp} (x:Ext w H w' H') {n:Nat} {a:Addr} (h:w.st[n]?=some a):w'.st[n]?=some a:=by
 obtain ⟨l,e,f⟩:=x.sub
 rw [e,List.getElem?_append_left (List.getElem?_eq_some_iff.mp h).1]
 exact h
theorem Ext.trans {w w1 w2:Wd} {H H1 H2:Hp} (x:Ext w H w1 H1) (y:Ext w1 H1 w2 H2) (fr:∀ a ∈ w.st,∃ o,H a=some o∧∃ o',H1 a=some o'):Ext w H w2 H2:=by
 have hno:∀ a,H1 a=none→H a=none:=fun a z=>by
  cases e:H a with
  | none=>rfl
  | some o=>
   by_cases hw:a ∈ w.st
   ·obtain ⟨_,_,o',e'⟩:=fr a hw
    rw [z] at e'; cases e'
   ·have:=x.keep a o e hw
    rw [z] at this; cases this
 refine ⟨fun a o h n=>y.keep a o (x.keep a o h n) (x.out h n),?_,fun a h=>y.hid a (x.hid a h),fun a h=>(y.hnew a h).elim (x.hnew a) fun z=>.inr (hno a z),fun a o u h=>y.frz a o u (x.frz a o u h)⟩
 obtain ⟨l,e1,f⟩:=x.sub
 obtain ⟨l2,e2,f2⟩:=y.sub
 refine ⟨l ++ l2,by rw [e2,e1]; simp,fun a ha=>?_⟩
 rcases List.mem_append.mp ha with z | z
 ·exact f a z
 ·exact hno a (f2 a z)
section
variable {K:PySem.W.Frag} {w w':Wd} {H H':Hp}
mutual
theorem RD.ext (x:Ext w H w' H'):∀ (d:D) (v:V),RD K w H d v→RD K w' H' d v
 | .non,_,h=>h
 | .bl _,_,h=>h
 | .int _,_,h=>h
 | .str _,_,h=>h
 | .tup ds,v,h=>by
  unfold RD at h ⊢
  obtain ⟨a,vs,e,p,r⟩:=h
  exact ⟨a,vs,e,p.imp x.at id,RDs.ext x ds vs r⟩
 | .lst ds,v,h=>by
  unfold RD at h ⊢
  obtain ⟨a,vs,e,p,r⟩:=h
  exact ⟨a,vs,e,x.at p,RDs.ext x ds vs r⟩
 | .fz ds,v,h=>by
  unfold RD at h ⊢
  obtain ⟨a,vs,e,p,r⟩:=h
  exact ⟨a,vs,e,p.imp (fun ⟨o,z⟩=>⟨o,x.at z⟩) id,RDs.ext x ds vs r⟩
 | .dic kvs,v,h=>by
  unfold RD at h ⊢
  obtain ⟨a,us,e,p,r⟩:=h
  exact ⟨a,us,e,x.at p,RDk.ext x kvs us r⟩
 | .ref n,v,h=>by
  unfold RD at h ⊢
  obtain ⟨a,e,p⟩:=h
  exact ⟨a,e,x.get p⟩
 | .ty _,_,h=>h
 | .exc c,v,h=>by
  unfold RD at h ⊢
  obtain ⟨a,C,o,e,q,p⟩:=h
  exact ⟨a,C,o,e,q,x.at p⟩
 | .cls _,_,h=>h
theorem RDs.ext (x:Ext w H w' H'):∀ (ds:List D) (vs:List V),RDs K w H ds vs→RDs K w' H' ds vs
 | [],_,h=>h
 | d :: ds,vs,h=>by
  unfold RDs at h ⊢
  obtain ⟨v,r,e,p,q⟩:=h
  exact ⟨v,r,e,RD.ext x d v p,RDs.ext x ds r q⟩
theorem RDk.ext (x:Ext w H w' H'):∀ (ds:List (Sum Int Str × D)) (vs:List (Key × V)),RDk K w H ds vs→RDk K w' H' ds vs
 | [],_,h=>h
 | (k,d) :: ds,vs,h=>by
  unfold RDk at h ⊢
  obtain ⟨v,r,e,p,q⟩:=h
  exact ⟨v,r,e,RD.ext x d v p,RDk.ext x ds r q⟩
end
end
noncomputable def RDf (K:PySem.W.Frag) (w:Wd) (H:Hp) (fs:List (Str × D)) (us:List (Str × V)):Prop:=fs.map (·.1)=us.map (·.1)∧RDs K w H (fs.map (·.2)) (us.map (·.2))
noncomputable def RO (K:PySem.W.Frag) (w:Wd) (H:Hp) (a:Addr):SO→Prop
 | .lst ds=>∃ vs,H a=some (.lst vs)∧RDs K w H ds vs
 | .dic kvs=>∃ us,H a=some (.dK us)∧RDk K w H kvs us
 | .fdic kvs=>∃ o us,H a=some (.frz o (.dK us))∧RDk K w H kvs us
 | .ins c fs=>∃ C dx us,PySem.W.nsIn K mainGlobals c=some (some (.ref C))∧H a=some (.ins C dx us)∧RDf K w H fs us
 | .flst ds=>∃ o vs,H a=some (.frz o (.lst vs))∧RDs K w H ds vs
structure RS (K:PySem.W.Frag) (w:Wd) (H:Hp) (S:Sto):Prop where
 nd:w.st.Nodup
 len:w.st.length=S.length
 obj:∀ (n:Nat) (o:SO),S[n]?=some o→∃ a:Addr,w.st[n]?=some a∧RO K w H a o
 hid:∀ a ∈ w.hid,a ∉ w.st∧∃ o,H a=some o
section
variable {K:PySem.W.Frag} {w w':Wd} {H H':Hp} {S:Sto}
theorem RS.there (s:RS K w H S) {a:Addr} (ha:a ∈ w.st):∃ o,H a=some o:=by
 obtain ⟨n,hn⟩:=List.mem_iff_getElem?.mp ha
 have hl:n < S.length:=by rw [← s.len]; exact (List.getElem?_eq_some_iff.mp hn).1
 obtain ⟨b,hb,r⟩:=s.obj n S[n] (List.getElem?_eq_getElem hl)
 rw [hn] at hb; cases hb
 revert r
 cases S[n] with
 | lst ds=>rintro ⟨vs,e,_⟩; exact ⟨_,e⟩
 | dic kvs=>rintro ⟨vs,e,_⟩; exact ⟨_,e⟩
 | fdic kvs=>rintro ⟨o,vs,e,_⟩; exact ⟨_,e⟩
 | ins c fs=>rintro ⟨C,dx,us,_,e,_⟩; exact ⟨_,e⟩
 | flst ds=>rintro ⟨o,vs,e,_⟩; exact ⟨_,e⟩
theorem RS.freshS (s:RS K w H S) {a:Addr} (h:H a=none):a ∉ w.st:=fun z=>by
 obtain ⟨o,e⟩:=s.there z
 rw [h] at e; cases e
theorem RS.fresh (s:RS K w H S) {a:Addr} (h:H a=none):w.no a:=⟨s.freshS h,fun z=>by
 obtain ⟨_,o,e⟩:=s.hid a z
 rw [h] at e; cases e⟩
theorem Ext.trans' {w1 w2:Wd} {H1 H2:Hp} {S1:Sto} (x:Ext w H w1 H1) (y:Ext w1 H1 w2 H2) (s:RS K w H S) (s1:RS K w1 H1 S1):Ext w H w2 H2:=
 x.trans y fun a ha=>by
  obtain ⟨o,e⟩:=s.there ha
  obtain ⟨l,el,_⟩:=x.sub
  obtain ⟨o',e'⟩:=s1.there (a:=a) (by rw [el]; exact List.mem_append_left _ ha)
  exact ⟨o,e,o',e'⟩
theorem Ext.new {p:Addr} {o:HO} (hp:H p=none):Ext w H w (upd H p o):=
 ⟨fun a u e _=>by rw [upd_ne (ne_of_none e hp)]; exact e,⟨[],by simp,fun _ z=>nomatch z⟩,fun _ h=>h,fun _ h=>.inl h,fun a o u e=>by rw [upd_ne (ne_of_none e hp)]; exact e⟩
theorem RO.ext (x:Ext w H w' H') {a:Addr} {o:SO} (hk:∀ u,H a=some u→H' a=some u) (r:RO K w H a o):RO K w' H' a o:=by
 cases o with
 | lst ds=>obtain ⟨vs,e,q⟩:=r; exact ⟨vs,hk _ e,RDs.ext x _ _ q⟩
 | dic kvs=>obtain ⟨vs,e,q⟩:=r; exact ⟨vs,hk _ e,RDk.ext x _ _ q⟩
 | fdic kvs=>obtain ⟨o,vs,e,q⟩:=r; exact ⟨o,vs,hk _ e,RDk.ext x _ _ q⟩
 | ins c fs=>obtain ⟨C,dx,us,n,e,q1,q2⟩:=r; exact ⟨C,dx,us,n,hk _ e,q1,RDs.ext x _ _ q2⟩
 | flst ds=>obtain ⟨o,vs,e,q⟩:=r; exact ⟨o,vs,hk _ e,RDs.ext x _ _ q⟩
theorem RS.new {p:Addr} {o:HO} (s:RS K w H S) (hp:H p=none):RS K w (upd H p o) S:=
  ⟨s.nd,s.len,fun n so e=>by
    obtain ⟨a,ha,r⟩:=s.obj n so e
    exact ⟨a,ha,r.ext (Ext.new hp) fun u q=>by rw [upd_ne (ne_of_none q hp)]; exact q⟩,
   fun a ha=>by
    obtain ⟨h1,u,e⟩:=s.hid a ha
    exact ⟨h1,u,by rw [upd_ne (ne_of_none e hp)]; exact e⟩⟩
theorem Ext.alloc {p:Addr} {o:HO} (hp:H p=none):Ext w H (w.add p) (upd H p o):=
 ⟨fun a u e _=>by rw [upd_ne (ne_of_none e hp)]; exact e,⟨[p],rfl,fun a ha=>by
  have:a=p:=by simpa using ha
  subst this; exact hp⟩,fun _ h=>h,fun _ h=>.inl h,fun a o u e=>by rw [upd_ne (ne_of_none e hp)]; exact e⟩
theorem RS.alloc {p:Addr} {o:HO} {so:SO} (s:RS K w H S) (hp:H p=none) (r:RO K (w.add p) (upd H p o) p so):RS K (w.add p) (upd H p o) (S ++ [so]):=by
 have np:=s.freshS hp
 refine ⟨?_,by simp [Wd.add,s.len],fun n so' e=>?_,fun a ha=>?_⟩
 ·show (w.st ++ [p]).Nodup
  rw [List.nodup_append]
  exact ⟨s.nd,by simp,fun a ha b hb=>by
   have:b=p:=by simpa using hb
   subst this
   rintro rfl
   exact np ha⟩
 ·by_cases hn:n < S.length
  ·rw [List.getElem?_append_left hn] at e
   obtain ⟨a,ha,q⟩:=s.obj n so' e
   exact ⟨a,(Ext.alloc (o:=o) hp).get ha,q.ext (Ext.alloc hp) fun u z=>by rw [upd_ne (ne_of_none z hp)]; exact z⟩
  ·have hn':n=S.length:=by
    have:=(List.getElem?_eq_some_iff.mp e).1
    simp at this; omega
   subst hn'
   simp at e; subst e
   exact ⟨p,by show (w.st ++ [p])[S.length]?=some p; rw [← s.len]; simp,r⟩
 ·obtain ⟨h1,u,e⟩:=s.hid a ha
  refine ⟨?_,u,by rw [upd_ne (ne_of_none e hp)]; exact e⟩
  show a ∉ w.st ++ [p]
  intro z
  rcases List.mem_append.mp z with z | z
  ·exact h1 z
  ·have:a=p:=by simpa using z
   subst this
   rw [hp] at e; cases e
theorem Ext.mut {p:Addr} {o u0:HO} (hp:p ∈ w.st) (h0:H p=some u0) (hu:autoParam (∀ o u,u0 ≠ .frz o u) Au.h8._auto_1):Ext w H w (upd H p o):=
 ⟨fun a u e n=>by rw [upd_ne (fun z:a=p=>n (z ▸ hp))]; exact e,⟨[],by simp,fun _ z=>nomatch z⟩,fun _ h=>h,fun _ h=>.inl h,fun a o u e=>by
  rw [upd_ne (fun z:a=p=>by rw [z,h0] at e; exact hu o u (Option.some.inj e))]; exact e⟩
theorem RS.mut {p:Addr} {o:HO} {so:SO} {n:Nat} (s:RS K w H S) (hp:w.st[n]?=some p) {u0:HO} (h0:H p=some u0) (r:RO K w (upd H p o) p so) (hu:autoParam (∀ o u,u0 ≠ .frz o u) Au.h8._auto_1):RS K w (upd H p o) (S.set n so):=by
 have hm:p ∈ w.st:=List.mem_of_getElem? hp
 refine ⟨s.nd,by simp [s.len],fun m so' e=>?_,fun a ha=>?_⟩
 ·by_cases hn:m=n
  ·subst hn
   have hl:m < S.length:=by rw [← s.len]; exact (List.getElem?_eq_some_iff.mp hp).1
   rw [List.getElem?_set_self hl] at e
   cases e
   exact ⟨p,hp,r⟩
  ·rw [List.getElem?_set_ne (Ne.symm hn)] at e
   obtain ⟨a,ha,q⟩:=s.obj m so' e
   refine ⟨a,ha,q.ext (Ext.mut hm h0 hu) fun u z=>?_⟩
   have:a ≠ p:=fun z=>by
    subst z
    obtain ⟨h1,e1⟩:=List.getElem?_eq_some_iff.mp ha
    obtain ⟨h2,e2⟩:=List.getElem?_eq_some_iff.mp hp
    exact hn ((List.getElem_inj s.nd).mp (e1.trans e2.symm))
   rw [upd_ne this]; exact z
 ·obtain ⟨h1,u,e⟩:=s.hid a ha
  exact ⟨h1,u,by rw [upd_ne (fun z:a=p=>h1 (z ▸ hm))]; exact e⟩
end
noncomputable def RSt (K:PySem.W.Frag) (w:Wd) (H:Hp) (r:Rho) (s:L2.St):Prop:=
 s.length=r.length∧∀ (i:Nat) (d:D),r[i]?=some (some d)→∃ v,s[i]?=some (some v)∧RD K w H d v
theorem RSt.ext {K:PySem.W.Frag} {w w':Wd} {H H':Hp} {r:Rho} {s:L2.St} (h:RSt K w H r s) (x:Ext w H w' H'):RSt K w' H' r s:=
 ⟨h.1,fun i d e=>let ⟨v,e1,q⟩:=h.2 i d e; ⟨v,e1,RD.ext x d v q⟩⟩
theorem RSt.set {K:PySem.W.Frag} {w:Wd} {H:Hp} {r:Rho} {s:L2.St} (h:RSt K w H r s) (i:Nat) {d:D} {v:V} (q:RD K w H d v):RSt K w H (r.set i (some d)) (s.set i (some v)):=by
 refine ⟨by simp [h.1],fun j d' e=>?_⟩
 by_cases hj:j=i
 ·subst hj
  have hl:j < r.length:=by
   have:=(List.getElem?_eq_some_iff.mp e).1
   simpa using this
  rw [List.getElem?_set_self hl] at e
  cases e
  exact ⟨v,List.getElem?_set_self (by rw [h.1]; exact hl),q⟩
 ·rw [List.getElem?_set_ne (Ne.symm hj)] at e
  obtain ⟨v',e',q'⟩:=h.2 j d' e
  exact ⟨v',by rw [List.getElem?_set_ne (Ne.symm hj)]; exact e',q'⟩
section
variable {K:PySem.W.Frag} {w:Wd} {H:Hp}
theorem RDs.nil:RDs K w H [] []:=by unfold RDs; rfl
theorem RDs.cons {d:D} {v:V} {ds:List D} {vs:List V} (r:RD K w H d v) (q:RDs K w H ds vs):RDs K w H (d :: ds) (v :: vs):=by unfold RDs; exact ⟨v,vs,rfl,r,q⟩
theorem RDs.nil_inv {vs:List V} (h:RDs K w H [] vs):vs=[]:=by unfold RDs at h; exact h
theorem RDs.cons_inv {d:D} {ds:List D} {vs:List V} (h:RDs K w H (d :: ds) vs):∃ v r,vs=v :: r∧RD K w H d v∧RDs K w H ds r:=by unfold RDs at h; exact h
theorem RDs.one_inv {d:D} {vs:List V} (h:RDs K w H [d] vs):∃ v,vs=[v]∧RD K w H d v:=by
 obtain ⟨v,r,rfl,h1,h2⟩:=h.cons_inv
 rw [h2.nil_inv]
 exact ⟨v,rfl,h1⟩
theorem RDs.two_inv {d e:D} {vs:List V} (h:RDs K w H [d,e] vs):∃ v u,vs=[v,u]∧RD K w H d v∧RD K w H e u:=by
 obtain ⟨v,r,rfl,h1,h2⟩:=h.cons_inv
 obtain ⟨u,rfl,h3⟩:=h2.one_inv
 exact ⟨v,u,rfl,h1,h3⟩
theorem RDs.length:∀ {ds:List D} {vs:List V},RDs K w H ds vs→vs.length=ds.length
 | [],_,h=>by rw [h.nil_inv]; rfl
 | _ :: _,_,h=>by
  obtain ⟨v,r,rfl,_,q⟩:=h.cons_inv
  simp [q.length]
theorem RDs.get:∀ {ds:List D} {vs:List V} {i:Nat} {d:D},RDs K w H ds vs→ds[i]?=some d→∃ v,vs[i]?=some v∧RD K w H d v
 | [],_,_,_,_,e=>by simp at e
 | _ :: _,_,0,_,h,e=>by
  obtain ⟨v,r,rfl,p,_⟩:=h.cons_inv
  simp at e; subst e
  exact ⟨v,rfl,p⟩
 | _ :: ds,_,i + 1,d,h,e=>by
  obtain ⟨v,r,rfl,_,q⟩:=h.cons_inv
  obtain ⟨u,e1,q1⟩:=q.get (i:=i) (d:=d) (by simpa using e)
  exact ⟨u,by simpa using e1,q1⟩
theorem RDs.append:∀ {ds es:List D} {vs us:List V},RDs K w H ds vs→RDs K w H es us→RDs K w H (ds ++ es) (vs ++ us)
 | [],_,_,_,h,q=>by rw [h.nil_inv]; exact q
 | _ :: _,_,_,_,h,q=>by
  obtain ⟨v,r,rfl,p,t⟩:=h.cons_inv
  exact .cons p (t.append q)
theorem RDs.take:∀ {ds:List D} {vs:List V} (n:Nat),RDs K w H ds vs→RDs K w H (ds.take n) (vs.take n)
 | _,_,0,_=>by simp; exact .nil
 | [],_,_ + 1,h=>by rw [h.nil_inv]; simp; exact .nil
 | _ :: _,_,n + 1,h=>by
  obtain ⟨v,r,rfl,p,t⟩:=h.cons_inv
  exact .cons p (t.take n)
theorem RDs.drop:∀ {ds:List D} {vs:List V} (n:Nat),RDs K w H ds vs→RDs K w H (ds.drop n) (vs.drop n)
 | _,_,0,h=>h
 | [],_,_ + 1,h=>by rw [h.nil_inv]; simp; exact .nil
 | _ :: _,_,n + 1,h=>by
  obtain ⟨v,r,rfl,_,t⟩:=h.cons_inv
  exact t.drop n
theorem RDs.set {d:D} {v:V} (r:RD K w H d v):∀ {ds:List D} {vs:List V} (i:Nat),RDs K w H ds vs→RDs K w H (ds.set i d) (vs.set i v)
 | [],_,_,h=>by rw [h.nil_inv]; exact .nil
 | _ :: _,_,0,h=>by
  obtain ⟨_,_,rfl,_,t⟩:=h.cons_inv
  exact .cons r t
 | _ :: _,_,i + 1,h=>by
  obtain ⟨_,_,rfl,p,t⟩:=h.cons_inv
  exact .cons p (RDs.set r i t)
end
end PD
namespace PD
open PySem PySem.Spec PyProof.Rows L2
noncomputable def RX (K:PySem.W.Frag) (w:Wd) (H:Hp) (x:XD) (c:Value) (da:Option Addr):Prop:=PySem.W.nsIn K mainGlobals x.cls=some (some c)
noncomputable def Post {A B:Type} (K:PySem.W.Frag) (E:XK) (rel:Wd→Hp→A→B→Prop) (w:Wd) (H:Hp) (r:R A) (Q:B→Hp→Prop):Prop:=match r with
 | .ok a S'=>∀ w' H' b,Ext w H w' H'→rel w' H' a b→RS K w' H' S'→Q b H'
 | .err x S'=>∀ w' H' c da,Ext w H w' H'→RS K w' H' S'→RX K w' H' x c da→E c da H'
 | .bad=>False
section
variable {A B A2 B2:Type} {K:PySem.W.Frag} {E:XK} {rel:Wd→Hp→A→B→Prop} {rel2:Wd→Hp→A2→B2→Prop} {w w1:Wd} {H H1:Hp} {S S1:Sto}
theorem Post.ext {r:R A} {Q:B→Hp→Prop} (h:Post K E rel w H r Q) (x:Ext w H w1 H1) (s:RS K w H S) (s1:RS K w1 H1 S1):Post K E rel w1 H1 r Q:=by
 cases r with
 | ok a S'=>exact fun w' H' b y q t=>h w' H' b (x.trans' y s s1) q t
 | err e S'=>exact fun w' H' c da y t q=>h w' H' c da (x.trans' y s s1) t q
 | bad=>exact h
theorem Post.bind {r:R A} {f:A→Sto→R A2} {Q':B→Hp→Prop} {Q:B2→Hp→Prop} (h:Post K E rel2 w H (r.bind f) Q) (s:RS K w H S)
  (k:∀ a S1 w1 H1 b,Ext w H w1 H1→rel w1 H1 a b→RS K w1 H1 S1→Post K E rel2 w1 H1 (f a S1) Q→Q' b H1):Post K E rel w H r Q':=by
 cases r with
 | ok a S'=>exact fun w1 H1 b x q s1=>k a S' w1 H1 b x q s1 (Post.ext (r:=f a S') h x s s1)
 | err e S'=>exact h
 | bad=>exact h
theorem Post.bindAt {w0:Wd} {H0:Hp} {S0:Sto} {r:R A} {f:A→Sto→R A2} {Q':B→Hp→Prop} {Q:B2→Hp→Prop} (h:Post K E rel2 w0 H0 (r.bind f) Q) (x:Ext w0 H0 w H) (s0:RS K w0 H0 S0) (s:RS K w H S)
  (k:∀ a S1 w1 H1 b,Ext w H w1 H1→rel w1 H1 a b→RS K w1 H1 S1→Post K E rel2 w0 H0 (f a S1) Q→Q' b H1):Post K E rel w H r Q':=by
 cases r with
 | ok a S'=>exact fun w1 H1 b y q s1=>k a S' w1 H1 b y q s1 h
 | err e S'=>exact fun w' H' c da y t q=>h w' H' c da (x.trans' y s0 s) t q
 | bad=>exact h
theorem Post.ret {a:A} {b:B} {Q:B→Hp→Prop} (h:Post K E rel w H (.ok a S) Q) (q:rel w H a b) (s:RS K w H S):Q b H:=h w H b (Ext.refl w H) q s
theorem Post.at {a:A} {b:B} {Q:B→Hp→Prop} (h:Post K E rel w H (.ok a S) Q) (x:Ext w H w1 H1) (q:rel w1 H1 a b) (s:RS K w1 H1 S):Q b H1:=h w1 H1 b x q s
theorem Post.of {o:Option A} {Q:B→Hp→Prop} (h:Post K E rel w H (R.of S o) Q):∃ a,o=some a∧Post K E rel w H (.ok a S) Q:=by
 cases o with
 | some a=>exact ⟨a,rfl,h⟩
 | none=>exact h.elim
end
set_option genInjectivity false in
inductive FV where
 | nx (s:L2.St) | rt (v:V) | bk (s:L2.St) | ct (s:L2.St)
noncomputable def FV.to (D:Ends):FV→Hp→Prop
 | .nx s,H=>D.nx s H
 | .rt v,H=>D.rt v H
 | .bk s,H=>D.bk s H
 | .ct s,H=>D.ct s H
noncomputable def RF (K:PySem.W.Frag) (w:Wd) (H:Hp):F→FV→Prop
 | .nx r,f=>∃ s,f=.nx s∧RSt K w H r s
 | .rt d,f=>∃ v,f=.rt v∧RD K w H d v
 | .bk r,f=>∃ s,f=.bk s∧RSt K w H r s
 | .ct r,f=>∃ s,f=.ct s∧RSt K w H r s
noncomputable def RB (w:Wd) (H:Hp) (a b:Bool):Prop:=b=a
noncomputable def uE (K:PySem.W.Frag) (E:XK) (m:EM):TE:=fun s H Q=>∃ w r S,RSt K w H r s∧RS K w H S∧Post K E (RD K) w H (m r S) Q
noncomputable def uT (K:PySem.W.Frag) (E:XK) (m:TM):TT:=fun s H Q=>∃ w r S,RSt K w H r s∧RS K w H S∧Post K E RB w H (m r S) Q
noncomputable def uA (K:PySem.W.Frag) (E:XK) (m:AM):TA:=fun s H Q=>∃ w r S,RSt K w H r s∧RS K w H S∧Post K E (RDs K) w H (m r S) Q
noncomputable def uS (K:PySem.W.Frag) (E:XK) (m:SM):TS:=fun D s H=>∃ w r S,RSt K w H r s∧RS K w H S∧Post K E (RF K) w H (m r S) (FV.to D)
theorem ex6 {K:PySem.W.Frag} {H:Hp} {s:L2.St} {c:Wd→Rho→Sto→Prop} {P:Prop} (z:∃ w r S,RSt K w H r s∧RS K w H S∧c w r S) (f:∀ w r S,RSt K w H r s→RS K w H S→c w r S→P):P:=by
 obtain ⟨w,r,S,x,y,z⟩:=z
 exact f w r S x y z
theorem ex8.{u} {α:Type u} {a:Wd→Rho→Prop} {b:Wd→Rho→α→Rho→Prop} {c:Wd→Rho→α→Rho→Prop} {d:Wd→Rho→α→Rho→Prop} {P:Prop} (z:∃ w r e r',a w r∧b w r e r'∧c w r e r'∧d w r e r') (f:∀ w r e r',a w r→b w r e r'→c w r e r'→d w r e r'→P):P:=by
 obtain ⟨w,r,e,r',x,y,z,t⟩:=z
 exact f w r e r' x y z t
structure Bx (p:Prop):Prop where
 out:p
noncomputable abbrev SE (X:Cx) (E:XK) (e:Expr) (m:EM):Prop:=Bx (PE X e (uE X.K E m))
noncomputable abbrev ST (X:Cx) (E:XK) (e:Expr) (m:TM):Prop:=Bx (PT X e (uT X.K E m))
noncomputable abbrev SW (X:Cx) (E:XK) (e:Expr) (m:TM):Prop:=Bx (PW X e (uT X.K E m))
noncomputable abbrev SA (X:Cx) (E:XK) (es:List Expr) (m:AM):Prop:=Bx (PA X es (uA X.K E m))
noncomputable abbrev SS (X:Cx) (E:XK) (st:Stmt) (m:SM):Prop:=Bx (PS X st (uS X.K E m))
noncomputable abbrev SSs (X:Cx) (E:XK) (st:List Stmt) (m:SM):Prop:=Bx (PSs X st (uS X.K E m))
theorem pe_weak {X:Cx} {e:Expr} {t t':TE} (h:PE X e t) (k:∀ s H Q,t' s H Q→t s H Q):PE X e t':=fun pins s σ H Q I q=>h pins s σ H Q I (k σ H Q q)
theorem pt_weak {X:Cx} {e:Expr} {t t':TT} (h:PT X e t) (k:∀ s H Q,t' s H Q→t s H Q):PT X e t':=fun pins s σ H Q I q=>h pins s σ H Q I (k σ H Q q)
theorem pw_weak {X:Cx} {e:Expr} {t t':TT} (h:PW X e t) (k:∀ s H Q,t' s H Q→t s H Q):PW X e t':=fun wh pins s σ H Q I q=>h wh pins s σ H Q I (k σ H Q q)
theorem pa_weak {X:Cx} {e:List Expr} {t t':TA} (h:PA X e t) (k:∀ s H Q,t' s H Q→t s H Q):PA X e t':=fun p pins s σ H Q I q=>h p pins s σ H Q I (k σ H Q q)
theorem ps_weak {X:Cx} {e:Stmt} {t t':TS} (h:PS X e t) (k:∀ D s H,t' D s H→t D s H):PS X e t':=fun pins s σ H Q I q=>h pins s σ H Q I (k Q σ H q)
theorem pss_weak {X:Cx} {e:List Stmt} {t t':TS} (h:PSs X e t) (k:∀ D s H,t' D s H→t D s H):PSs X e t':=fun pins s σ H Q I q=>h pins s σ H Q I (k Q σ H q)
section
variable {X:Cx} {E:XK} {a b c:Expr} {ma mb mc:EM} {pos:Pos}
theorem se_var (i:Nat) {x:Str} {pos:Pos} (hN:autoParam (X.N[i]?=some x) Au.h0._auto_1) (hv:Vis X.env.scope x) (hd:autoParam ((x == ("__debug__":Str))=false) Au.h3._auto_1)
  (hcd:autoParam ((x == ("__classdict__":Str))=false) Au.h3._auto_1):SE X E (.Name x pos) (eVar i):=⟨
 pe_weak (pv i hN hv hd hcd) fun s H Q zq=>ex6 zq fun w r S hr hS hp=>by
  unfold eVar at hp
  split at hp
  ·rename_i d e
   obtain ⟨v,e',q⟩:=hr.2 i d e
   exact ⟨v,e',hp.ret q hS⟩
  ·exact hp.elim⟩
theorem se_c {e:Expr} {v:V} {d:D} (h:PE X e (tC v)) (q:∀ w H,RD X.K w H d v):SE X E e (eC d):=⟨
 pe_weak h fun s H Q zq=>ex6 zq fun w r S hr hS hp=>hp.ret (q w H) hS⟩
theorem se_int {i j pos}:SE X E (.Constant (.int i) j pos) (eC (.int i)):=se_c pe_int fun _ _=>by unfold RD; rfl
theorem se_bl {i j pos}:SE X E (.Constant (.bool i) j pos) (eC (.bl i)):=se_c pe_bl fun _ _=>by unfold RD; rfl
theorem se_gint {x:Str} {i:Int} {t:Tok} {pos:Pos} (hg:Gl X x) (hm:X.mg x=some (.int i t)) (hd:autoParam ((x == ("__debug__":Str))=false) Au.h3._auto_1):SE X E (.Name x pos) (eC (.int i)):=
 se_c (pe_glob hg hm (v:=.int i) ⟨t,rfl⟩ hd) fun _ _=>by unfold RD; rfl
theorem se_ty {x:Str} {T:String} {pos:Pos} (hg:Gl X x) (hm:X.mg x=none) (hv:bootBuiltins x=some (.type T)) (hn:autoParam (x ≠ "__name__") Au.h3._auto_1) (hd:autoParam ((x == ("__debug__":Str))=false) Au.h3._auto_1):SE X E (.Name x pos) (eC (.ty T)):=
 se_c (pe_bltn hg hm hv (v:=.ty T) rfl hn hd) fun _ _=>by unfold RD; rfl
noncomputable def xO (K:PySem.W.Frag) (E:XK) (f:Sto→D→D→Option D):R2:=fun x y H Q=>∃ w S d e,RS K w H S∧RD K w H d x∧RD K w H e y∧Post K E (RD K) w H (R.of S (f S d e)) Q
noncomputable def xU (K:PySem.W.Frag) (E:XK) (f:Sto→D→Option D):V→Hp→VK→Prop:=fun x H Q=>∃ w S d,RS K w H S∧RD K w H d x∧Post K E (RD K) w H (R.of S (f S d)) Q
noncomputable def xC (K:PySem.W.Frag) (E:XK) (f:Sto→List D→Option D):List V→Hp→VK→Prop:=fun xs H Q=>∃ w S ds,RS K w H S∧RDs K w H ds xs∧Post K E (RD K) w H (R.of S (f S ds)) Q
theorem se_op {op:Operator} {f:Sto→D→D→Option D} (ho:OpR X (binaryOp op) (xO X.K E f)) (ha:SE X E a ma) (hb:SE X E b mb):SE X E (.BinOp a op b pos) (eOp f ma mb):=⟨
 pe_weak (pe_op ho ha.out hb.out) fun s H Q zq=>ex6 zq fun w r S hr hS hp=>⟨w,r,S,hr,hS,hp.bind hS fun d S1 w1 H1 v x1 q1 s1 p1=>
  ⟨w1,r,S1,hr.ext x1,s1,p1.bind s1 fun e S2 w2 H2 u x2 q2 s2 p2=>⟨w2,S2,d,e,s2,RD.ext x2 d v q1,q2,p2⟩⟩⟩⟩
theorem se_un {op:UnaryOp} {f:Sto→D→Option D} (ho:UnR X (unaryOp op) (xU X.K E f)) (ha:SE X E a ma):SE X E (.UnaryOp op a pos) (eUn f ma):=⟨
 pe_weak (pe_un ho ha.out) fun s H Q zq=>ex6 zq fun w r S hr hS hp=>⟨w,r,S,hr,hS,hp.bind hS fun d S1 w1 H1 v x1 q1 s1 p1=>⟨w1,S1,d,s1,q1,p1⟩⟩⟩
theorem se_cmp {op:CmpOp} {f:Sto→D→D→Option D} (ho:OpR X (compareOp op) (xO X.K E f)) (ha:SE X E a ma) (hb:SE X E b mb) (hm:autoParam (behindInMarks op b=false) Au.h9._auto_1):
  SE X E (.Compare a [op] [b] pos) (eOp f ma mb):=⟨
 pe_weak (pe_cmpR ho ha.out hb.out hm) fun s H Q zq=>ex6 zq fun w r S hr hS hp=>⟨w,r,S,hr,hS,hp.bind hS fun d S1 w1 H1 v x1 q1 s1 p1=>
  ⟨w1,r,S1,hr.ext x1,s1,p1.bind s1 fun e S2 w2 H2 u x2 q2 s2 p2=>⟨w2,S2,d,e,s2,RD.ext x2 d v q1,q2,p2⟩⟩⟩⟩
theorem se_one {op} (h:SE X E a ma):SE X E (.BoolOp op [a] pos) ma:=⟨pe_one h.out⟩
theorem se_and {rest:List Expr} (ha:SE X E a ma) (hb:SE X E (.BoolOp .And (b :: rest) pos) mb):SE X E (.BoolOp .And (a :: b :: rest) pos) (eAnd ma mb):=⟨
 pe_weak (pe_and ha.out hb.out) fun s H Q zq=>ex6 zq fun w r S hr hS hp=>⟨w,r,S,hr,hS,hp.bind hS fun d S1 w1 H1 v x1 q1 s1 p1=>by
  cases d with
  | bl k=>
   unfold RD at q1
   subst q1
   refine ⟨k,rfl,?_⟩
   cases k with
   | true=>exact iteT ⟨w1,r,S1,hr.ext x1,s1,p1⟩
   | false=>exact iteF (Post.ret p1 (by unfold RD; rfl) s1)
  | _=>exact p1.elim⟩⟩
theorem se_not (ha:SE X E a ma):SE X E (.UnaryOp .Not a pos) (eNot ma):=⟨
 pe_weak (pe_not ha.out) fun s H Q zq=>ex6 zq fun w r S hr hS hp=>⟨w,r,S,hr,hS,hp.bind hS fun d S1 w1 H1 v x1 q1 s1 p1=>by
  cases d with
  | bl k=>
   unfold RD at q1
   subst q1
   exact ⟨k,rfl,Post.ret p1 (by unfold RD; rfl) s1⟩
  | _=>exact p1.elim⟩⟩
theorem uT_of {s:L2.St} {H:Hp} {Q:Bool→Hp→Prop} (h:uT X.K E (tV ma) s H Q):uE X.K E ma s H fun x H1=>∃ k,x=.bl k∧Q k H1:=by
 obtain ⟨w,r,S,hr,hS,hp⟩:=h
 exact ⟨w,r,S,hr,hS,hp.bind hS fun d S1 w1 H1 v x1 q1 s1 p1=>by
  cases d with
  | bl k=>
   unfold RD at q1
   exact ⟨k,q1,Post.ret p1 rfl s1⟩
  | _=>exact p1.elim⟩
theorem st_val (h:SE X E a ma) (he:autoParam (∀ whole,isTrue a X.env whole=(do let v ← whole; standAt a.pos; holding [v] (truthy v))) Au.h4._auto_1):ST X E a (tV ma):=⟨
 pt_weak (pt_val h.out he) fun s H Q q=>uT_of q⟩
theorem st_cmp {op:CmpOp} {f:Sto→D→D→Option D} (ho:OpR X (compareOp op) (xO X.K E f)) (ha:SE X E a ma) (hb:SE X E b mb) (hm:autoParam (behindInMarks op b=false) Au.h9._auto_1):
  ST X E (.Compare a [op] [b] pos) (tV (eOp f ma mb)):=⟨
 pt_weak (pt_cmpR ho ha.out hb.out hm) fun s H Q q=>by
  obtain ⟨w,r,S,hr,hS,hp⟩:=uT_of q
  exact ⟨w,r,S,hr,hS,hp.bind hS fun d S1 w1 H1 v x1 q1 s1 p1=>
   ⟨w1,r,S1,hr.ext x1,s1,p1.bind s1 fun e S2 w2 H2 u x2 q2 s2 p2=>⟨w2,S2,d,e,s2,RD.ext x2 d v q1,q2,p2⟩⟩⟩⟩
theorem sw_and1 {mt:TM} (ha:ST X E a mt):SW X E (.BoolOp .And [a] pos) mt:=⟨pw_and1 ha.out⟩
theorem sw_or1 {mt:TM} (ha:ST X E a mt):SW X E (.BoolOp .Or [a] pos) mt:=⟨pw_or1 ha.out⟩
theorem sw_and {mt mu:TM} {rest:List Expr} (ha:ST X E a mt) (hb:SW X E (.BoolOp .And (b :: rest) pos) mu):SW X E (.BoolOp .And (a :: b :: rest) pos) (PD.tAnd mt mu):=⟨
 pw_weak (pw_and ha.out hb.out) fun s H Q zq=>ex6 zq fun w r S hr hS hp=>⟨w,r,S,hr,hS,hp.bind hS fun k S1 w1 H1 v x1 q1 s1 p1=>by
  have e:v=k:=q1
  subst e
  cases v with
  | true=>exact iteT ⟨w1,r,S1,hr.ext x1,s1,p1⟩
  | false=>exact iteF (Post.ret p1 rfl s1)⟩⟩
theorem sw_or {mt mu:TM} {rest:List Expr} (ha:ST X E a mt) (hb:SW X E (.BoolOp .Or (b :: rest) pos) mu):SW X E (.BoolOp .Or (a :: b :: rest) pos) (PD.tOr mt mu):=⟨
 pw_weak (pw_or ha.out hb.out) fun s H Q zq=>ex6 zq fun w r S hr hS hp=>⟨w,r,S,hr,hS,hp.bind hS fun k S1 w1 H1 v x1 q1 s1 p1=>by
  have e:v=k:=q1
  subst e
  cases v with
  | false=>exact iteF ⟨w1,r,S1,hr.ext x1,s1,p1⟩
  | true=>exact iteT (Post.ret p1 rfl s1)⟩⟩
theorem sw_st {mt:TM} (h:SW X E a mt):ST X E a mt:=⟨PW.pt h.out⟩
theorem st_not {mt:TM} (ha:ST X E a mt):ST X E (.UnaryOp .Not a pos) (PD.tNot mt):=⟨
 pt_weak (pt_not ha.out) fun s H Q zq=>ex6 zq fun w r S hr hS hp=>⟨w,r,S,hr,hS,hp.bind hS fun k S1 w1 H1 v x1 q1 s1 p1=>by
  have e:v=k:=q1
  subst e
  exact Post.ret p1 rfl s1⟩⟩
theorem sa_nil:SA X E [] aNil:=⟨pa_weak pa_nil fun s H Q zq=>ex6 zq fun w r S hr hS hp=>Post.ret hp RDs.nil hS⟩
theorem sa_cons {es:List Expr} {ms:AM} (ha:SE X E a ma) (hrr:SA X E es ms) (hs:autoParam (starEach (a :: es) X.env=(false,eval a X.env) :: starEach es X.env) Au.h0._auto_1):SA X E (a :: es) (aCons ma ms):=⟨
 pa_weak (pa_cons ha.out hrr.out hs) fun s H Q zq=>ex6 zq fun w r S hr hS hp=>⟨w,r,S,hr,hS,hp.bind hS fun d S1 w1 H1 v x1 q1 s1 p1=>
  ⟨w1,r,S1,hr.ext x1,s1,p1.bind s1 fun e S2 w2 H2 u x2 q2 s2 p2=>Post.ret p2 (RDs.cons (RD.ext x2 d v q1) q2) s2⟩⟩⟩
theorem se_tup {es:List Expr} {ms:AM} {k} (h:SA X E es ms):SE X E (.Tuple es k pos) (eTup ms):=⟨
 pe_weak (pe_tup h.out) fun s H Q zq=>ex6 zq fun w r S hr hS hp=>⟨w,r,S,hr,hS,hp.bind hS fun ds S1 w1 H1 vs x1 q1 s1 p1=>by
  by_cases hl:ds.length≤sizeLine
  ·rw [if_pos hl] at p1
   refine ⟨by rw [q1.length]; exact hl,fun p hp=>?_⟩
   exact Post.at p1 (Ext.new hp) (by unfold RD; exact ⟨p,vs,rfl,.inl ⟨upd_same,s1.fresh hp⟩,RDs.ext (Ext.new hp) _ _ q1⟩) (s1.new hp)
  ·rw [if_neg hl] at p1; exact p1.elim⟩⟩
theorem se_lst {es:List Expr} {ms:AM} (h:SA X E es ms):SE X E (.List es pos) (eLst ms):=⟨
 pe_weak (pe_lst h.out) fun s H Q zq=>ex6 zq fun w r S hr hS hp=>⟨w,r,S,hr,hS,hp.bind hS fun ds S1 w1 H1 vs x1 q1 s1 p1=>by
  by_cases hl:ds.length≤sizeLine
  ·rw [if_pos hl] at p1
   refine ⟨by rw [q1.length]; exact hl,fun p hp=>?_⟩
   exact Post.at p1 (Ext.new hp) (by unfold RD; exact ⟨p,vs,rfl,⟨upd_same,s1.fresh hp⟩,RDs.ext (Ext.new hp) _ _ q1⟩) (s1.new hp)
  ·rw [if_neg hl] at p1; exact p1.elim⟩⟩
theorem RS.lastRef {K:PySem.W.Frag} {w:Wd} {H:Hp} {S:Sto} (s:RS K w H S) {p:Addr} {H':Hp}:RD K (w.add p) H' (.ref S.length) (.ref p):=by
 unfold RD
 exact ⟨p,rfl,by show (w.st ++ [p])[S.length]?=some p; rw [← s.len]; simp⟩
theorem se_new {es:List Expr} {ms:AM} (h:SA X E es ms):SE X E (.List es pos) (eNew ms):=⟨
 pe_weak (pe_lst h.out) fun s H Q zq=>ex6 zq fun w r S hr hS hp=>⟨w,r,S,hr,hS,hp.bind hS fun ds S1 w1 H1 vs x1 q1 s1 p1=>by
  by_cases hl:ds.length≤sizeLine
  ·rw [if_pos hl] at p1
   refine ⟨by rw [q1.length]; exact hl,fun p hp=>?_⟩
   exact Post.at p1 (Ext.alloc hp) s1.lastRef (s1.alloc hp ⟨vs,upd_same,RDs.ext (Ext.alloc hp) _ _ q1⟩)
  ·rw [if_neg hl] at p1; exact p1.elim⟩⟩
noncomputable def spM (K:PySem.W.Frag) (n:Nat) (f:FM):Sp:=fun vs H Q E=>vs.length=n∧∃ w S ds,RS K w H S∧RDs K w H ds vs∧Post K E (RD K) w H (f ds S) Q
variable {CX:CXT} {k n:Nat} {fa:Addr} {fd:FuncData} {ps:List Str} {f:FM} {x:Str} {p:Pos} {es:List Expr} {ms:AM}
theorem se_callB {id:String} {f:Sto→List D→Option D} (hc:CallR X (.builtin id) (xC X.K E f)) (hg:Gl X x) (hm:X.mg x=none) (hv:bootBuiltins x=some (.builtin id)) (ha:SA X E (a :: es) ms) (hn:autoParam (x ≠ "__name__") Au.h3._auto_1) (hdb:autoParam ((x == ("__debug__":Str))=false) Au.h3._auto_1)
  (he:autoParam (starEach (a :: es) X.env=(false,eval a X.env) :: starEach es X.env) Au.h0._auto_1) (hpl:autoParam ((backTo pos (starEach es X.env)).any (·.1)=false) Au.h0._auto_1):SE X E (.Call (.Name x p) (a :: es) [] pos) (eB f ms):=⟨
 pe_weak (pe_callB hc hg hm hv ha.out hn hdb he hpl) fun s H Q zq=>ex6 zq fun w r S hr hS hp=>⟨w,r,S,hr,hS,hp.bind hS fun ds S1 w1 H1 vs x1 q1 s1 p1=>⟨w1,S1,ds,s1,q1,p1⟩⟩⟩
variable {st:Stmt} {rest:List Stmt} {m m':SM}
theorem ss_nil:SSs X E [] sSkip:=⟨pss_weak pss_nil fun D s H zq=>ex6 zq fun w r S hr hS hp=>Post.ret (b:=FV.nx s) hp ⟨s,rfl,hr⟩ hS⟩
theorem ss_cons (h1:SS X E st m) (h2:SSs X E rest m'):SSs X E (st :: rest) (sSeq m m'):=⟨
 pss_weak (pss_cons h1.out h2.out) fun D s H zq=>ex6 zq fun w r S hr hS hp=>⟨w,r,S,hr,hS,hp.bind hS fun f S1 w1 H1 fv x1 q1 s1 p1=>by
  cases f with
  | nx r1=>obtain ⟨s',rfl,q⟩:=q1; exact ⟨w1,r1,S1,q,s1,p1⟩
  | rt d=>obtain ⟨v,rfl,q⟩:=q1; have z:=Post.ret (Q:=FV.to D) (rel:=RF X.K) (a:=F.rt d) (b:=FV.rt v) p1 ⟨v,rfl,q⟩ s1; exact z
  | bk r1=>obtain ⟨s',rfl,q⟩:=q1; have z:=Post.ret (Q:=FV.to D) (rel:=RF X.K) (a:=F.bk r1) (b:=FV.bk s') p1 ⟨s',rfl,q⟩ s1; exact z
  | ct r1=>obtain ⟨s',rfl,q⟩:=q1; have z:=Post.ret (Q:=FV.to D) (rel:=RF X.K) (a:=F.ct r1) (b:=FV.ct s') p1 ⟨s',rfl,q⟩ s1; exact z⟩⟩
theorem ss_one (h1:SS X E st m):SSs X E [st] m:=⟨pss_one h1.out⟩
theorem ss_never:SS X E st sBad:=⟨ps_weak ps_never fun D s H zq=>ex6 zq fun w r S hr hS hp=>hp.elim⟩
theorem ss_expr (ha:SE X E a ma) (hs:autoParam (swapsWith a none pos.line X.env=pure false) Au.h0._auto_1):SS X E (.Expr a pos) (sDrop ma):=⟨
 ps_weak (ps_expr ha.out hs) fun D s H zq=>ex6 zq fun w r S hr hS hp=>⟨w,r,S,hr,hS,hp.bind hS fun d S1 w1 H1 v x1 q1 s1 p1=>Post.ret (b:=FV.nx s) p1 ⟨s,rfl,hr.ext x1⟩ s1⟩⟩
theorem ss_ret (ha:SE X E a ma):SS X E (.Return (some a) pos) (sRet ma):=⟨
 ps_weak (ps_ret ha.out) fun D s H zq=>ex6 zq fun w r S hr hS hp=>⟨w,r,S,hr,hS,hp.bind hS fun d S1 w1 H1 v x1 q1 s1 p1=>Post.ret (b:=FV.rt v) p1 ⟨v,rfl,q1⟩ s1⟩⟩
theorem ss_if {mt:TM} {sa sb:List Stmt} (hc:ST X E c mt) (ha:SSs X E sa m) (hb:SSs X E sb m'):SS X E (.If c sa sb pos) (sIf mt m m'):=⟨
 ps_weak (ps_if hc.out ha.out hb.out) fun D s H zq=>ex6 zq fun w r S hr hS hp=>⟨w,r,S,hr,hS,hp.bind hS fun k S1 w1 H1 v x1 q1 s1 p1=>by
  have e:v=k:=q1
  subst e
  cases v with
  | true=>exact iteT ⟨w1,r,S1,hr.ext x1,s1,p1⟩
  | false=>exact iteF ⟨w1,r,S1,hr.ext x1,s1,p1⟩⟩⟩
theorem ss_set {i:Nat} {x:Str} {pos':Pos} (hN:X.N.Nodup) (hi:X.N[i]?=some x) (hx:Loc X.env.scope x) (ha:SE X E a ma) (hs:autoParam (swapsWith a (some (.Name x pos')) pos.line X.env=pure false) Au.h0._auto_1) (hf:autoParam (X.fn x=true ∨ X.env.scope.names.lookup x=some .local) Au.h7._auto_1):
  SS X E (.Assign [.Name x pos'] a pos) (sSet i ma):=⟨
 ps_weak (ps_set hN hi hx ha.out hs hf) fun D s H zq=>ex6 zq fun w r S hr hS hp=>⟨w,r,S,hr,hS,hp.bind hS fun d S1 w1 H1 v x1 q1 s1 p1=>
  Post.ret (b:=FV.nx (s.set i (some v))) p1 ⟨_,rfl,(hr.ext x1).set i q1⟩ s1⟩⟩
end
end PD
namespace PD
open PySem PySem.Spec PyProof.Rows L2
noncomputable def uG (K:PySem.W.Frag) (g:G):TG:=fun v s H Q=>∃ w r d r',RSt K w H r s∧RD K w H d v∧g.put d r=some r'∧∀ s',RSt K w H r' s'→Q s' H
noncomputable def uGs (K:PySem.W.Frag) (gs:List G):TGs:=fun vs s H Q=>∃ w r ds r',RSt K w H r s∧RDs K w H ds vs∧G.puts gs ds r=some r'∧∀ s',RSt K w H r' s'→Q s' H
noncomputable abbrev SG (X:Cx) (e:Expr) (g:G):Prop:=Bx (PG X e (uG X.K g))
noncomputable abbrev SGs (X:Cx) (es:List Expr) (gs:List G):Prop:=Bx (PGs X es (uGs X.K gs))
theorem pg_weak {X:Cx} {e:Expr} {t t':TG} (h:PG X e t) (k:∀ v s H Q,t' v s H Q→t v s H Q):PG X e t':=fun pins s σ H v u Q I r q=>h pins s σ H v u Q I r (k v σ H Q q)
theorem pgs_weak {X:Cx} {e:List Expr} {t t':TGs} (h:PGs X e t) (k:∀ v s H Q,t' v s H Q→t v s H Q):PGs X e t':=fun pins s σ H v u Q I r q=>h pins s σ H v u Q I r (k v σ H Q q)
theorem puts_len:∀ {gs:List G} {ds:List D} {r r':Rho},G.puts gs ds r=some r'→ds.length=gs.length
 | [],[],_,_,_=>rfl
 | [],_ :: _,_,_,h=>by simp [G.puts] at h
 | _ :: _,[],_,_,h=>by simp [G.puts] at h
 | g :: gs,d :: ds,r,r',h=>by
  unfold G.puts at h
  cases e:G.put g d r with
  | none=>rw [e] at h; cases h
  | some r1=>
   rw [e] at h
   have:=puts_len h
   simp [this]
section
variable {X:Cx} {E:XK} {a b c:Expr} {ma mb mc:EM} {pos:Pos}
theorem sg_name {i:Nat} {x:Str} (hN:X.N.Nodup) (hi:X.N[i]?=some x) (hx:Loc X.env.scope x) (hf:autoParam (X.fn x=true ∨ X.env.scope.names.lookup x=some .local) Au.h7._auto_1):SG X (.Name x pos) (.nm i):=⟨
 pg_weak (pg_name hN hi hx hf) fun v s H Q zq=>ex8 zq fun w r d r' hr q e k=>by
  unfold G.put at e
  cases e
  exact k _ (hr.set i q)⟩
theorem sgs_nil:SGs X [] []:=⟨
 pgs_weak pgs_nil fun v s H Q zq=>ex8 zq fun w r ds r' hr q e k=>by
  cases ds with
  | nil=>
   unfold G.puts at e
   cases e
   exact ⟨q.nil_inv,k s hr⟩
  | cons d ds=>simp [G.puts] at e⟩
theorem sgs_cons {e:Expr} {es:List Expr} {g:G} {gs:List G} (h1:SG X e g) (h2:SGs X es gs)
  (hs:autoParam ((assignEach (e :: es) X.env).map (·.2)=assign e X.env :: (assignEach es X.env).map (·.2)) Au.h0._auto_1):SGs X (e :: es) (g :: gs):=⟨
 pgs_weak (pgs_cons h1.out h2.out hs) fun v s H Q zq=>ex8 zq fun w r ds r' hr q e k=>by
  cases ds with
  | nil=>simp [G.puts] at e
  | cons d ds=>
   obtain ⟨v1,vs,rfl,q1,q2⟩:=q.cons_inv
   unfold G.puts at e
   cases e1:G.put g d r with
   | none=>rw [e1] at e; cases e
   | some r1=>
    rw [e1] at e
    exact ⟨v1,vs,rfl,w,r,d,r1,hr,q1,e1,fun s' hs'=>⟨w,r1,ds,r',hs',q2,e,k⟩⟩⟩
theorem SqT_of {K:PySem.W.Frag} {w:Wd} {H:Hp} {p:Addr} {vs:List V} (h:At w H p (.tup vs) ∨ KTup K p vs):SqT K H p vs:=h.elim (fun z=>SqT.of z.1) .inr
theorem sg_tup {es:List Expr} {k:Nat} {gs:List G} (hc:X.calm=true) (h:SGs X es gs)
  (hn:autoParam ((assignEach es X.env).length=gs.length) Au.h0._auto_1) (hst:autoParam ((assignEach es X.env).findIdx? (·.1)=none) Au.h0._auto_1):SG X (.Tuple es k pos) (.tp gs):=⟨
 pg_weak (pg_tup hc h.out hn hst) fun v s H Q zq=>ex8 zq fun w r d r' hr q e k=>by
  cases d with
  | tup ds=>
   unfold RD at q
   obtain ⟨p,vs,rfl,h1,q1⟩:=q
   unfold G.put at e
   exact ⟨p,vs,rfl,SqT_of h1,by rw [q1.length]; exact puts_len e,w,r,ds,r',hr,q1,e,k⟩
  | _=>simp [G.put] at e⟩
theorem ss_asg {tg:Expr} {g:G} (ha:SE X E a ma) (hg:SG X tg g) (hs:autoParam (swapsWithSole [tg] a pos.line X.env=pure false) Au.h0._auto_1) (hw:autoParam (swappedStores [tg] a X.env=pure none) Au.h0._auto_1)
  (h1:autoParam ((assignEach [tg] X.env).map (·.2)=[assign tg X.env]) Au.h0._auto_1):SS X E (.Assign [tg] a pos) (sAsg g ma):=⟨
 ps_weak (ps_asg ha.out hg.out hs hw h1) fun D s H zq=>ex6 zq fun w r S hr hS hp=>⟨w,r,S,hr,hS,hp.bind hS fun d S1 w1 H1 v x1 q1 s1 p1=>by
  cases e:g.put d r with
  | none=>rw [e] at p1; exact p1.elim
  | some r'=>
   rw [e] at p1
   exact ⟨w1,r,d,r',hr.ext x1,q1,e,fun s' hs'=>Post.ret (b:=FV.nx s') p1 ⟨s',rfl,hs'⟩ s1⟩⟩⟩
noncomputable def xS (K:PySem.W.Frag) (f:Sto→D→D→D→Option Sto):TSet:=fun o i v H Q=>∃ w S x y z S',RS K w H S∧RD K w H x o∧RD K w H y i∧RD K w H z v∧f S x y z=some S'∧∀ w' H',Ext w H w' H'→RS K w' H' S'→Q H'
theorem ss_put {f:Sto→D→D→D→Option Sto} {tpos:Pos} (hf:PSet X (xS X.K f)) (ha:SE X E a ma) (ho:SE X E b mb) (hi:SE X E c mc) (hs:autoParam (swapsWithSole [.Subscript b c tpos] a pos.line X.env=pure false) Au.h0._auto_1) (hw:autoParam (swappedStores [.Subscript b c tpos] a X.env=pure none) Au.h0._auto_1)
  (h1:autoParam ((assignEach [.Subscript b c tpos] X.env).map (·.2)=[assign (.Subscript b c tpos) X.env]) Au.h0._auto_1)
  (hz:autoParam (∀ v,assign (.Subscript b c tpos) X.env v=(do
   let ov ← holding [v] (eval b X.env)
   let iv ← holding [v,ov] (eval c X.env)
   standAt tpos
   holding [v,ov,iv] (setItem ov iv v)
   release [v,ov,iv] [])) Au.h4._auto_1):SS X E (.Assign [.Subscript b c tpos] a pos) (sPut f ma mb mc):=⟨
 ps_weak (ps_asg ha.out (pg_sub ho.out hi.out hf hz) hs hw h1) fun D s H zq=>ex6 zq fun w r S hr hS hp=>⟨w,r,S,hr,hS,hp.bind hS fun d S1 w1 H1 v x1 q1 s1 p1=>
  ⟨w1,r,S1,hr.ext x1,s1,p1.bind s1 fun e S2 w2 H2 u x2 q2 s2 p2=>⟨w2,r,S2,(hr.ext x1).ext x2,s2,p2.bind s2 fun t S3 w3 H3 y x3 q3 s3 p3=>by
   cases hf:f S3 e t d with
   | none=>rw [hf] at p3; exact p3.elim
   | some S4=>
    rw [hf] at p3
    exact ⟨w3,S3,e,t,d,S4,s3,RD.ext x3 _ _ q2,q3,RD.ext x3 _ _ (RD.ext x2 _ _ q1),hf,fun w' H' x4 s4=>Post.at (b:=FV.nx s) p3 x4 ⟨s,rfl,(((hr.ext x1).ext x2).ext x3).ext x4⟩ s4⟩⟩⟩⟩⟩
noncomputable def RI (K:PySem.W.Frag) (w:Wd) (H:Hp) (ds:List D) (J:It):Prop:=∀ (i:Nat) (w':Wd) (H':Hp),Ext w H w' H'→
 (i < ds.length→J.go i H'∧∀ x H'',J.yld i H' x H''→(H''=H' ∨ ∃ p o,H' p=none∧H''=upd H' p o)∧∀ S,RS K w' H' S→∃ d,ds[i]?=some d∧RD K w' H'' d x)∧(ds.length≤i→J.stop i H')
noncomputable def uI (K:PySem.W.Frag) (E:XK) (m:AM):TI:=fun s H Q=>∃ w r S,RSt K w H r s∧RS K w H S∧Post K E (RI K) w H (m r S) Q
noncomputable abbrev SIb (qb:Bool) (X:Cx) (E:XK) (tg iter:Expr) (m:AM):Prop:=Bx (PIb qb X tg iter (uI X.K E m))
noncomputable abbrev SI (X:Cx) (E:XK) (tg iter:Expr) (m:AM):Prop:=Bx (PI X tg iter (uI X.K E m))
theorem grown_ok {K:PySem.W.Frag} {w:Wd} {H H':Hp} {S:Sto} (h:H'=H ∨ ∃ p o,H p=none∧H'=upd H p o) (s:RS K w H S):Ext w H w H'∧RS K w H' S:=by
 rcases h with rfl | ⟨p,o,hp,rfl⟩
 ·exact ⟨Ext.refl _ _,s⟩
 ·exact ⟨Ext.new hp,s.new hp⟩
theorem ss_for {tg iter:Expr} {body:List Stmt} {it:AM} {g:G} {m:SM} (hp:PassesOwn (model X.prog X.w) X.A X.env X.xe) (hc:X.calm=true) (hi:SI X E tg iter it) (hg:SG X tg g) (hb:SSs X E body m)
  (hs:autoParam (∀ x,foldedSetIterable iter X.env x=pure x) Au.h4._auto_1):SS X E (.For tg iter body [] pos) (sFor it g m):=⟨
 ps_weak (ps_for hp hc hi.out hg.out hb.out hs) fun D s H zq=>ex6 zq fun w r S hr hS hp=>⟨w,r,S,hr,hS,hp.bind hS fun ds S1 w1 H1 J x1 q1 s1 p1=>by
  refine ⟨fun i n s' H'=>n=ds.length - i∧i≤ds.length∧∃ w' r' S',Ext w1 H1 w' H'∧RSt X.K w' H' r' s'∧RS X.K w' H' S'∧Post X.K E (RF X.K) w' H' (forL g m (ds.drop i) r' S') (FV.to D),
   ⟨ds.length,by simp,Nat.zero_le _,w1,r,S1,Ext.refl _ _,hr.ext x1,s1,p1⟩,?_⟩
  rintro i n s2 H2 ⟨rfl,hi.out,w2,r2,S2,x2,hr2,hS2,hp2⟩
  by_cases hlt:i < ds.length
  ·obtain ⟨go,yld⟩:=(q1 i w2 H2 x2).1 hlt
   refine .inr ⟨go,fun s' H'=>∃ w' r' S',Ext w1 H1 w' H'∧RSt X.K w' H' r' s'∧RS X.K w' H' S'∧Post X.K E (RF X.K) w' H' (forL g m (ds.drop (i + 1)) r' S') (FV.to D),
    fun s' H' hN=>⟨ds.length - (i + 1),by omega,rfl,hlt,hN⟩,fun x H3 hy=>?_⟩
   obtain ⟨gr,rd⟩:=yld x H3 hy
   obtain ⟨d,ed,qd⟩:=rd S2 hS2
   obtain ⟨x3,s3⟩:=grown_ok gr hS2
   have x13:Ext w1 H1 w2 H3:=x2.trans' x3 s1 hS2
   have hdrop:ds.drop i=d :: ds.drop (i + 1):=by
    rw [List.drop_eq_getElem_cons hlt]
    rw [List.getElem?_eq_getElem hlt] at ed
    cases ed; rfl
   rw [hdrop] at hp2
   have hp3:=Post.ext hp2 x3 hS2 s3
   unfold forL at hp3
   cases e:g.put d r2 with
   | none=>rw [e] at hp3; exact hp3.elim
   | some r3=>
    rw [e] at hp3
    refine ⟨w2,r2,d,r3,hr2.ext x3,qd,e,fun s4 hr4=>⟨w2,r3,S2,hr4,s3,?_⟩⟩
    refine Post.bind (rel:=RF X.K) hp3 s3 fun f S5 w5 H5 fv x5 q5 s5 p5=>?_
    cases f with
    | nx r6=>obtain ⟨s6,rfl,q6⟩:=q5; exact ⟨w5,r6,S5,x13.trans' x5 s1 s3,q6,s5,p5⟩
    | ct r6=>obtain ⟨s6,rfl,q6⟩:=q5; exact ⟨w5,r6,S5,x13.trans' x5 s1 s3,q6,s5,p5⟩
    | bk r6=>obtain ⟨s6,rfl,q6⟩:=q5; have z:=Post.ret (Q:=FV.to D) (rel:=RF X.K) (a:=F.nx r6) (b:=FV.nx s6) p5 ⟨s6,rfl,q6⟩ s5; exact z
    | rt d6=>obtain ⟨v6,rfl,q6⟩:=q5; have z:=Post.ret (Q:=FV.to D) (rel:=RF X.K) (a:=F.rt d6) (b:=FV.rt v6) p5 ⟨v6,rfl,q6⟩ s5; exact z
  ·have e:i=ds.length:=by omega
   subst e
   rw [List.drop_length] at hp2
   exact .inl ⟨(q1 _ w2 H2 x2).2 (Nat.le_refl _),Post.ret (b:=FV.nx s2) hp2 ⟨s2,rfl,hr2⟩ hS2⟩⟩⟩
noncomputable def aSeq (m:EM) (f:Sto→D→Option (List D)):AM:=fun r S=>(m r S).bind fun d S1=>R.of S1 (f S1 d)
noncomputable def itTup:Sto→D→Option (List D)
 | _,.tup ds=>some ds
 | _,_=>none
noncomputable def itLst:Sto→D→Option (List D)
 | _,.lst ds=>some ds
 | _,.fz ds=>some ds
 | _,_=>none
noncomputable def aRange1 (t:AM):AM:=fun r S=>(t r S).bind fun xs S1=>match xs with
 | [.int n]=>if n < 2 ^ 62∧-(2 ^ 62)≤n then .ok ((List.range n.toNat).map fun (i:Nat)=>D.int i) S1 else .bad
 | _=>.bad
theorem pi_weak {qb:Bool} {X:Cx} {tg e:Expr} {t t':TI} (h:PIb qb X tg e t) (k:∀ s H Q,t' s H Q→t s H Q):PIb qb X tg e t':=fun pins s σ H Q I q=>h pins s σ H Q I (k σ H Q q)
theorem si_tup {tg:Expr} (ha:SE X E a ma):SI X E tg a (aSeq ma itTup):=⟨
 pi_weak (pi_tup ha.out) fun s H Q zq=>ex6 zq fun w r S hr hS hp=>⟨w,r,S,hr,hS,hp.bind hS fun d S1 w1 H1 v x1 q1 s1 p1=>by
  cases d with
  | tup ds=>
   unfold RD at q1
   obtain ⟨p,vs,rfl,h1,q⟩:=q1
   refine ⟨p,rfl,⟨vs,SqT_of h1⟩,Post.ret p1 ?_ s1⟩
   intro i w' H' x'
   have h1':At w' H' p (.tup vs) ∨ KTup X.K p vs:=h1.imp x'.at id
   have q':=RDs.ext x' _ _ q
   refine ⟨fun hi=>⟨⟨vs,vs[i]'(by rw [q.length]; exact hi),SqT_of h1',List.getElem?_eq_getElem _⟩,fun x H'' y=>?_⟩,fun hi=>⟨vs,SqT_of h1',by rw [q.length]; exact hi⟩⟩
   obtain ⟨rfl,y⟩:=y
   refine ⟨.inl rfl,fun S _=>⟨ds[i],List.getElem?_eq_getElem hi,?_⟩⟩
   obtain ⟨v,e,rv⟩:=q'.get (List.getElem?_eq_getElem hi)
   rw [y vs (SqT_of h1')] at e
   cases e
   exact rv
  | _=>exact p1.elim⟩⟩
theorem si_lst {tg:Expr} (ha:SE X E a ma):SI X E tg a (aSeq ma itLst):=⟨
 pi_weak (pi_list ha.out) fun s H Q zq=>ex6 zq fun w r S hr hS hp=>⟨w,r,S,hr,hS,hp.bind hS fun d S1 w1 H1 v x1 q1 s1 p1=>by
  have main:∀ (ds:List D) (p:Addr) (vs:List V),RDs X.K w1 H1 ds vs→(∀ w' H',Ext w1 H1 w' H'→SqL X.K H' p vs)→RI X.K w1 H1 ds (Itl X.K p):=by
   intro ds p vs q sq i w' H' x'
   have q':=RDs.ext x' _ _ q
   refine ⟨fun hi=>⟨⟨vs,vs[i]'(by rw [q.length]; exact hi),sq _ _ x',List.getElem?_eq_getElem _⟩,fun x H'' y=>?_⟩,fun hi=>⟨vs,sq _ _ x',by rw [q.length]; exact hi⟩⟩
   obtain ⟨rfl,y⟩:=y
   refine ⟨.inl rfl,fun S _=>⟨ds[i],List.getElem?_eq_getElem hi,?_⟩⟩
   obtain ⟨v,e,rv⟩:=q'.get (List.getElem?_eq_getElem hi)
   rw [y vs (sq _ _ x')] at e
   cases e
   exact rv
  cases d with
  | lst ds=>
   unfold RD at q1
   obtain ⟨p,vs,rfl,h1,q⟩:=q1
   exact ⟨p,rfl,⟨vs,SqL.of h1.1⟩,Post.ret p1 (main ds p vs q fun w' H' x'=>SqL.of (x'.at h1).1) s1⟩
  | fz ds=>
   unfold RD at q1
   obtain ⟨p,vs,rfl,h1,q⟩:=q1
   exact ⟨p,rfl,⟨vs,h1.sq⟩,Post.ret p1 (main ds p vs q fun w' H' x'=>FzAt.sq (w:=w') (h1.imp (fun ⟨o,z⟩=>⟨o,x'.at z⟩) id)) s1⟩
  | _=>exact p1.elim⟩⟩
noncomputable def itSeq:Sto→D→Option (List D)
 | _,.tup ds=>some ds
 | _,.lst ds=>some ds
 | _,.fz ds=>some ds
 | _,_=>none
theorem pi_or {tg e:Expr} {t u:TI} (h1:PI X tg e t) (h2:PI X tg e u):PI X tg e (fun s H Q=>t s H Q ∨ u s H Q):=fun pins s σ H Q I q=>q.elim (h1 pins s σ H Q I) (h2 pins s σ H Q I)
theorem si_seq {tg:Expr} (ha:SE X E a ma):SI X E tg a (aSeq ma itSeq):=⟨
 pi_weak (pi_or (si_tup ha).out (si_lst ha).out) fun s H Q zq=>ex6 zq fun w r S hr hS hp=>by
  unfold aSeq at hp
  cases e:ma r S with
  | bad=>rw [e] at hp; exact hp.elim
  | err y S'=>rw [e] at hp; exact .inl ⟨w,r,S,hr,hS,by unfold aSeq; rw [e]; exact hp⟩
  | ok d S'=>
   rw [e] at hp
   cases d with
   | tup ds=>exact .inl ⟨w,r,S,hr,hS,by unfold aSeq; rw [e]; exact hp⟩
   | lst ds=>exact .inr ⟨w,r,S,hr,hS,by unfold aSeq; rw [e]; exact hp⟩
   | fz ds=>exact .inr ⟨w,r,S,hr,hS,by unfold aSeq; rw [e]; exact hp⟩
   | _=>exact hp.elim⟩
theorem si_range1 {qb:Bool} {tg:Expr} {ms:AM} {p:Pos} (hg:Gl X "range") (hm:X.mg "range" = none) (ha:SA X E [a] ms) (hs:autoParam (starEach [a] X.env=[(false,eval a X.env)]) Au.h0._auto_1):SIb qb X E tg (.Call (.Name "range" p) [a] [] pos) (aRange1 ms):=⟨
 pi_weak (pi_range1 hg hm ha.out hs) fun s H Q zq=>ex6 zq fun w r S hr hS hp=>⟨w,r,S,hr,hS,hp.bind hS fun ds S1 w1 H1 vs x1 q1 s1 p1=>by
  rcases ds with _ | ⟨d,_ | ⟨d',ds⟩⟩
  ·exact p1.elim
  ·cases d with
   | int n=>
    obtain ⟨v,rfl,q2⟩:=q1.one_inv
    unfold RD at q2
    subst q2
    by_cases hn:n < 2 ^ 62∧-(2 ^ 62)≤n
    ·have p2:Post X.K E (RI X.K) w1 H1 (if n < 2 ^ 62∧-(2 ^ 62)≤n then R.ok ((List.range n.toNat).map fun (i:Nat)=>D.int i) S1 else R.bad) Q:=p1
     rw [if_pos hn] at p2
     refine ⟨n,rfl,hn.2,hn.1,Post.ret p2 ?_ s1⟩
     intro i w' H' x'
     refine ⟨fun hi=>⟨show i < n.toNat by simpa using hi,fun x H'' y=>?_⟩,fun hi=>show n.toNat≤i by simpa using hi⟩
     obtain ⟨rfl,rfl⟩:=y
     refine ⟨.inl rfl,fun S _=>⟨.int i,?_,?_⟩⟩
     ·have:i < n.toNat:=by simpa using hi
      simp [this]
     ·unfold RD; simp
    ·have p2:Post X.K E (RI X.K) w1 H1 (if n < 2 ^ 62∧-(2 ^ 62)≤n then R.ok ((List.range n.toNat).map fun (i:Nat)=>D.int i) S1 else R.bad) Q:=p1
     rw [if_neg hn] at p2
     exact p2.elim
   | _=>exact p1.elim
  ·cases d <;> exact p1.elim⟩⟩
end
section
variable {P:Program} {w:World} {K:PySem.W.Frag} {mg:Str→Option Value} {base:Heap}
theorem start_rel {K:PySem.W.Frag} {w:Wd} {H:Hp} {N:List Str} {ds:List D} {vs:List V} (q:RDs K w H ds vs):RSt K w H (ds.map some ++ List.replicate (N.length - ds.length) none) (L2.start N vs):=by
 unfold L2.start
 refine ⟨by simp [q.length],fun i d e=>?_⟩
 by_cases hi:i < ds.length
 ·rw [List.getElem?_append_left (by simpa using hi),List.getElem?_map] at e
  rw [List.getElem?_append_left (by rw [List.length_map,q.length]; exact hi),List.getElem?_map]
  cases e1:ds[i]? with
  | none=>rw [e1] at e; cases e
  | some d'=>
   rw [e1] at e; cases e
   obtain ⟨v,ev,rv⟩:=q.get e1
   exact ⟨v,by rw [ev]; rfl,rv⟩
 ·rw [List.getElem?_append_right (by simpa using hi),List.getElem?_replicate] at e
  split at e <;> cases e
end
end PD
namespace PD
open PySem PySem.Spec PyProof.Rows L2
section
variable {prog:Program} {w:World} {A:Around} {R:Result→Shared→Prop} {s:Shared}
theorem compLoop_all {elt target iter:Expr} {ifs:List Expr} {scope:Scope} {pos:Pos} {it acc:Value} {env:Env} (I:Nat→Shared→Prop)
  (turn:∀ n s,I n s→wpAny (model prog w) A (pyNext it) (fun r s1=>match r with
   | none=>R (.ok .next) s1
   | some v=>wpAny (model prog w) A (letOwnedTupleGo target it v) (fun _ s1'=>wpAny (model prog w) A (assign target env v) (fun _ s2=>
     wpAny (model prog w) A (forIn ifs true fun c r=>if r=true then do let ok ← isTrue c env (eval c env); pure (ForInStep.yield ok) else pure (ForInStep.yield r)) (fun ok s3=>
      if ok=true then wpAny (model prog w) A (eval elt env) (fun x s4=>
       wpAny (model prog w) A (call (.builtin "list.append") [acc,x]) (fun _ s5=>∃ m,m < n∧I m s5) (fun _ _=>False) s4) (fun _ _=>False) s3
      else ∃ m,m < n∧I m s3) (fun _ _=>False) s2) (fun _ _=>False) s1') (fun _ _=>False) s1) (fun _ _=>False) s)
  (n:Nat) (h:I n s):
  codeAny (model prog w) A (.compLoop (.ListComp elt [⟨target,iter,ifs,0⟩] scope pos) 0 it acc env) R s:=by
 refine codeAny_loop rfl I (fun n s hI=>?_) n h
 show wpAny _ A ((compTurn (.ListComp elt [⟨target,iter,ifs,0⟩] scope pos) 0 it acc env).onRaise (fun x=>do noteFrame x env; theTreesLotGoes x)) _ _ s
 refine wpAny_noted ?_
 rw [compTurn_list]
 refine wpAny_bind (wpAny_standAt (wpAny_bind (wpAny_mono (turn n s hI) (fun r s1 h1=>?_) fun _ _ h'=>h'.elim)))
 cases r with
 | none=>exact wpAny_pure h1
 | some v=>
  refine wpAny_bind (wpAny_mono h1 (fun _ s1' h1'=>?_) fun _ _ h'=>h'.elim)
  refine wpAny_bind (wpAny_mono h1' (fun _ s2 h2=>wpAny_bind (wpAny_mono h2 (fun ok s3 h3=>?_) fun _ _ h'=>h'.elim)) fun _ _ h'=>h'.elim)
  cases ok with
  | false=>exact wpAny_pure ⟨rfl,h3⟩
  | true=>
   exact wpAny_bind (wpAny_bind (wpAny_mono h3 (fun x s4 h4=>wpAny_bind (wpAny_mono h4 (fun _ s5 h5=>wpAny_pure (wpAny_pure ⟨rfl,h5⟩)) fun _ _ h'=>h'.elim)) fun _ _ h'=>h'.elim))
end
noncomputable def PIfs (X:Cx) (ifs:List Expr) (t:TT):Prop:=
 ∀ (pins:List (Addr × Obj)) (s:Shared) (σ:L2.St) (H:Hp) (Q:Bool→Hp→Prop),Inv X pins σ H s→t σ H Q→
  wpAny (model X.prog X.w) X.A (forIn ifs true fun c r=>if r=true then do let ok ← isTrue c X.env (eval c X.env); pure (ForInStep.yield ok) else pure (ForInStep.yield r)) (TP X pins σ Q) X.xe s
theorem pifs_nil {X:Cx}:PIfs X [] (fun _ H Q=>Q true H):=fun pins s σ H Q I h=>wpAny_tests_nil ⟨H,I,h⟩
theorem pifs_one {X:Cx} {c:Expr} {t:TT} (h:PT X c t):PIfs X [c] t:=fun pins s σ H Q I q=>wpAny_tests_one (h pins s σ H Q I q)
noncomputable def cxC (X:Cx) (N:List Str) (scope:Scope) (cl:List (Str × Addr)) (s0:Shared) (H0:Hp) (ex:List Addr):Cx:=
 { X with N:=N,s₀:=s0,H₀:=H0,env:=compEnvC scope cl s0.heap.objs.size X.env,outer:=X.stack,ex:=ex,fn:=fun _=>false }
noncomputable def capSt (k:Nat) (caps:List Nat) (s:L2.St):L2.St:=List.replicate k none ++ caps.map fun i=>(s[i]?).join
structure CompScope (X:Cx) (N:List Str) (k:Nat) (caps:List Nat) (scope:Scope):Prop where
 kind:scope.kind=.function
 nocell:∀ x ∈ scope.names,x.2 ≠ .cell
 names:∀ x ∈ scope.names,x.2=.local→scope.names.lookup x.1=some .local
 free:∀ x ∈ scope.names,x.2=.free→X.env.kindOf x.1=some .cell ∨ X.env.kindOf x.1=some .free
 len:N.length=k + caps.length
 cap:∀ t i,caps[t]?=some i→∃ x,X.N[i]?=some x∧N[k + t]?=some x∧scope.names.lookup x=some .free
theorem mem_of_lookup' {A B:Type} [BEq A] [LawfulBEq A]:∀ {l:List (A × B)} {x:A} {b:B},l.lookup x=some b→(x,b) ∈ l
 | [],_,_,h=>by simp at h
 | (y,c) :: r,x,b,h=>by
  rw [List.lookup_cons] at h
  cases e:x == y with
  | true=>
   rw [e] at h
   have:=eq_of_beq e
   subst this
   cases h
   exact List.mem_cons_self
  | false=>
   rw [e] at h
   exact List.mem_cons_of_mem _ (mem_of_lookup' h)
theorem closure_ok {env:Env}:∀ (names:List (Str × NameKind)) (cs:List (Str × Addr)),(∀ x ∈ names,x.2=.free→∃ c,env.cells.lookup x.1=some c)→
  ∃ cl,(forIn names cs fun (x:Str × NameKind) (r:List (Str × Addr))=>(if x.2 == NameKind.free then do let a ← cellOf env x.1; pure (ForInStep.yield ((x.1,a) :: r)) else pure (ForInStep.yield r):Sem (ForInStep (List (Str × Addr)))))=pure cl∧
   (∀ p ∈ cl,p ∈ cs ∨ env.cells.lookup p.1=some p.2)∧(∀ p ∈ cs,p ∈ cl)∧∀ x ∈ names,x.2=.free→∃ c,(x.1,c) ∈ cl
 | [],cs,_=>⟨cs,rfl,fun p h=>.inl h,fun p h=>h,fun x h=>nomatch h⟩
 | (n,k) :: r,cs,h=>by
  by_cases hk:k=.free
  ·subst hk
   obtain ⟨c,hc⟩:=h (n,.free) List.mem_cons_self rfl
   obtain ⟨cl,e,h1,h2,h3⟩:=closure_ok r ((n,c) :: cs) fun x hx=>h x (List.mem_cons_of_mem _ hx)
   refine ⟨cl,?_,fun p hp=>?_,fun p hp=>h2 p (List.mem_cons_of_mem _ hp),fun x hx hf=>?_⟩
   ·rw [List.forIn_cons]
    have hco:cellOf env n=pure c:=by unfold cellOf; rw [hc]
    simp only [beq_self_eq_true,if_true,hco,pure_bind]
    exact e
   ·rcases h1 p hp with z | z
    ·rcases List.mem_cons.mp z with z | z
     ·subst z; exact .inr hc
     ·exact .inl z
    ·exact .inr z
   ·rcases List.mem_cons.mp hx with z | z
    ·subst z; exact ⟨c,h2 _ List.mem_cons_self⟩
    ·exact h3 x z hf
  ·obtain ⟨cl,e,h1,h2,h3⟩:=closure_ok r cs fun x hx=>h x (List.mem_cons_of_mem _ hx)
   have hb:(k == NameKind.free)=false:=by simpa using hk
   refine ⟨cl,?_,h1,h2,fun x hx hf=>?_⟩
   ·rw [List.forIn_cons]
    simp only [hb,Bool.false_eq_true,if_false,pure_bind]
    exact e
   ·rcases List.mem_cons.mp hx with z | z
    ·subst z; exact absurd hf hk
    ·exact h3 x z hf
theorem closure_for {scope:Scope} {env:Env} (h:∀ x ∈ scope.names,x.2=.free→∃ c,env.cells.lookup x.1=some c):
  ∃ cl,closureFor scope env=pure cl∧(∀ x c,cl.lookup x=some c→env.cells.lookup x=some c)∧∀ x ∈ scope.names,x.2=.free→∃ c,cl.lookup x.1=some c:=by
 obtain ⟨cl,e,h1,h2,h3⟩:=closure_ok (env:=env) scope.names [] h
 refine ⟨cl,?_,fun x c hx=>?_,fun x hx hf=>?_⟩
 ·unfold closureFor
  show ((forIn scope.names [] fun (x:Str × NameKind) (r:List (Str × Addr))=>(if x.2 == NameKind.free then do let a ← cellOf env x.1; pure (ForInStep.yield ((x.1,a) :: r)) else pure (ForInStep.yield r):Sem (ForInStep (List (Str × Addr))))) >>= fun l=>pure l)=pure cl
  rw [e,pure_bind]
 ·rcases h1 _ (mem_of_lookup' hx) with z | z
  ·exact nomatch z
  ·exact z
 ·obtain ⟨c,hc⟩:=h3 x hx hf
  cases e2:cl.lookup x.1 with
  | some c'=>exact ⟨c',rfl⟩
  | none=>
   rw [List.lookup_eq_none_iff] at e2
   have:=e2 _ hc
   simp at this
theorem relabel_mem {scope:Scope} {env:Env} {x:Str} {k:NameKind} (h:(relabel scope env).names.lookup x=some k):(x,k) ∈ scope.names ∨ (k=.cell∧(x,NameKind.free) ∈ scope.names):=by
 have m:=mem_of_lookup' h
 obtain ⟨⟨n,j⟩,hn,e⟩:=List.mem_map.mp m
 dsimp only at e
 split at e
 ·rename_i hc
  cases e
  have:j=NameKind.free:=by
   have:=(Bool.and_eq_true _ _ |>.mp (Bool.and_eq_true _ _ |>.mp hc).1).1
   simpa using this
  subst this
  exact .inr ⟨rfl,hn⟩
 ·cases e
  exact .inl hn
theorem relabel_free {scope:Scope} {env:Env} {x:Str}:∀ {names:List (Str × NameKind)},names.lookup x=some .free→
  ((names.map fun (n,k)=>if (k == NameKind.free && env.scope.kind == .function && env.kindOf n == some .cell) then (n,NameKind.cell) else (n,k)).lookup x=some .cell) ∨
  ((names.map fun (n,k)=>if (k == NameKind.free && env.scope.kind == .function && env.kindOf n == some .cell) then (n,NameKind.cell) else (n,k)).lookup x=some .free)
 | [],h=>by simp at h
 | (n,k) :: r,h=>by
  have ih:=@relabel_free scope env x r
  simp only [List.map_cons]
  cases hx:x == n with
  | true=>
   simp only [List.lookup_cons,hx] at h
   cases h
   by_cases hc:(NameKind.free == NameKind.free && env.scope.kind == .function && env.kindOf n == some .cell)=true
   ·left; rw [if_pos hc]; simp [List.lookup_cons,hx]
   ·right; rw [if_neg hc]; simp [List.lookup_cons,hx]
  | false=>
   simp only [List.lookup_cons,hx] at h
   by_cases hc:(k == NameKind.free && env.scope.kind == .function && env.kindOf n == some .cell)=true
   ·rw [if_pos hc]; simp only [List.lookup_cons,hx]; exact ih h
   ·rw [if_neg hc]; simp only [List.lookup_cons,hx]; exact ih h
section
variable {X:Cx} {pins:List (Addr × Obj)} {σ:L2.St} {H:Hp} {s:Shared}
theorem comp_start {N:List Str} {k:Nat} {caps:List Nat} {scope:Scope} {cl:List (Str × Addr)} {fp:List Addr} {h':Heap} {m:Str→Option Value} {t:Nat} (I:Inv X pins σ H s) (C:CompScope X N k caps scope)
  (hcl:∀ x c,cl.lookup x=some c→X.env.cells.lookup x=some c) (hcf:∀ x ∈ scope.names,x.2=.free→∃ c,cl.lookup x.1=some c)
  (hfp:∀ b ∈ fp,FpOk X pins H b∧b < s.heap.objs.size) (hn:h'.Ns s.heap.objs.size m) (hk:∀ b o,s.heap.get? b=some o→h'.get? b=some o):
  Inv (cxC X N scope cl s H fp) pins (capSt k caps σ) H { s with heap:=h',toks:=t }:=by
 have hfs:∀ b,b ∈ frs X.stack→b < s.heap.objs.size:=fun b hb=>by
  obtain ⟨_,o,ho,_⟩:=I.stack.mem hb
  exact Heap.lt_size ho
 refine ⟨⟨I.ok.mod,C.kind,I.ok.glob,I.ok.blt,Nat.le_refl _,fun x y c h1 h2=>I.ok.inj x y c (hcl x c h1) (hcl y c h2),fun x hx=>?_,(fun x c h=>nomatch h),I.ok.hd,I.ok.frames,.inl rfl,fun b hb=>?_,fun b o e=>?_,?_,fun b o e hb=>?_,fun b hb=>?_,I.stack,fun b hb=>I.stkFree b hb⟩,
  rfl,I.bare,Un.kept hk,?_,fun x c e=>?_,I.hok.fresh (Nat.le_refl _),fun x c e=>I.freeC x c (hcl x c e),fun p hp=>?_,I.hok.kept hk,?_⟩
 ·-- has
  have key:∀ kk,(kk=NameKind.cell ∨ kk=NameKind.free)→(relabel scope X.env).names.lookup x=some kk→∃ c,cl.lookup x=some c:=fun kk hkk hl=>by
   rcases relabel_mem hl with z | ⟨_,z⟩
   ·rcases hkk with q | q
    ·subst q; exact absurd rfl (C.nocell _ z)
    ·subst q; exact hcf _ z rfl
   ·exact hcf _ z rfl
  rcases hx with z | z
  ·exact key _ (.inl rfl) z
  ·exact key _ (.inr rfl) z
 ·obtain ⟨f,lt⟩:=hfp b hb
  exact ⟨Nat.ne_of_lt lt,fun x c e=>f.2.2.2.2.1 x c (hcl x c e)⟩
 ·exact I.bs b o e
 ·exact Nat.le_trans I.ok.bsz I.sz
 ·obtain ⟨f,lt⟩:=hfp b hb
  rcases f.2.2.2.1 with z | z
  ·exact I.ok.noex b o e z
  ·exact absurd (Nat.lt_of_lt_of_le (Heap.lt_size e) (Nat.le_trans I.ok.bsz z)) (Nat.lt_irrefl _)
 ·obtain ⟨f,lt⟩:=hfp b hb
  intro z
  rcases List.mem_cons.mp (I.stkSub b z) with q | q
  ·exact f.2.1 q
  ·exact f.2.2.1 q
 ·obtain ⟨m0,hn0,hl0⟩:=I.loc
  refine ⟨m,hn,fun i x v e1 e2 e3=>?_⟩
  unfold capSt at e2
  by_cases hi:i < k
  ·rw [List.getElem?_append_left (by simpa using hi),List.getElem?_replicate] at e2
   split at e2 <;> cases e2
  ·rw [List.getElem?_append_right (by simpa using hi),List.getElem?_map,List.length_replicate] at e2
   cases ec:caps[i - k]? with
   | none=>rw [ec] at e2; cases e2
   | some j=>
    rw [ec] at e2
    have e2':(σ[j]?).join=some v:=Option.some.inj e2
    obtain ⟨y,hy1,hy2,hy3⟩:=C.cap _ _ ec
    have e1':N[i]?=some x:=e1
    rw [show k + (i - k)=i by omega] at hy2
    rw [hy2] at e1'
    have exy:y=x:=Option.some.inj e1'
    subst exy
    have hfr:(y,NameKind.free) ∈ scope.names:=mem_of_lookup' hy3
    have hsj:σ[j]?=some (some v):=by
     cases q:σ[j]? with
     | none=>rw [q] at e2'; cases e2'
     | some o=>rw [q] at e2'; rw [show o=some v from e2']
    have kinds:=C.free _ hfr rfl
    have hvis:Vis X.env.scope y:=by
     rcases kinds with z | z
     ·exact .inr (.inl z)
     ·exact .inr (.inr z)
    obtain ⟨u,ru,lk⟩:=hl0 j y v hy1 hsj hvis
    refine ⟨u,ru,?_⟩
    rcases lk with ⟨z,_⟩ | ⟨_,c,hc,hcell⟩
    ·rcases kinds with q | q <;> (rw [q] at z; cases z)
    ·obtain ⟨c',hc'⟩:=hcf _ hfr rfl
     have:=hcl _ _ hc'
     rw [hc] at this
     cases this
     refine .inr ⟨?_,c,hc',hcell.keeps hk⟩
     exact relabel_free (scope:=scope) (env:=X.env) hy3
 ·obtain ⟨v,z⟩:=I.cell x c (hcl x c e)
  exact ⟨v,z.keeps hk⟩
 ·obtain ⟨e,n,ne,nf,d⟩:=I.pin p hp
  refine ⟨hk _ _ e,n,Nat.ne_of_lt (Heap.lt_size e),fun z=>?_,d⟩
  rcases List.mem_cons.mp (I.stkSub _ z) with q | q
  ·exact ne q
  ·exact nf q
 ·unfold capSt
  show _=N.length
  rw [C.len]
  simp
end
noncomputable def tComp (wi:TI) (k:Nat) (caps:List Nat) (g:TG) (tt:TT) (te:TE):TE:=fun σ H Q=>wi σ H fun J H1=>∀ p,H1 p=none→∃ W:Nat→Nat→L2.St→Hp→Prop,(∃ m,W 0 m (capSt k caps σ) (upd H1 p (.lst [])))∧∀ i m σ' H',W i m σ' H'→
 (J.stop i H'∧Q (.ref p) H') ∨ (J.go i H'∧∃ N:L2.St→Hp→Prop,(∀ σ2 H2,N σ2 H2→∃ m',m' < m∧W (i + 1) m' σ2 H2)∧
  ∀ x H3,J.yld i H' x H3→g x σ' H3 fun σ4 H4=>tt σ4 H4 fun b H5=>if b=true then te σ4 H5 fun y H6=>∃ ys,H6 p=some (.lst ys)∧ys.length < sizeLine∧N σ4 (upd H6 p (.lst (ys ++ [y]))) else N σ4 H5)
theorem pe_compQ {qb:Bool} {X:Cx} {elt tg iter:Expr} {ifs:List Expr} {scope:Scope} {pos:Pos} {N:List Str} {k:Nat} {caps:List Nat} {wi:TI} {g:TG} {tt:TT} {te:TE} (hX:Cd qb X) (hxe:∀ e s,¬ X.xe e s) (C:CompScope X N k caps scope)
  (hi:PIb qb X tg iter wi) (hg:∀ cl s0 H0 ex,Cd qb (cxC X N scope cl s0 H0 ex)→PG (cxC X N scope cl s0 H0 ex) tg g) (ht:∀ cl s0 H0 ex,Cd qb (cxC X N scope cl s0 H0 ex)→PIfs (cxC X N scope cl s0 H0 ex) ifs tt) (he:∀ cl s0 H0 ex,Cd qb (cxC X N scope cl s0 H0 ex)→PE (cxC X N scope cl s0 H0 ex) elt te)
  (hs:autoParam (∀ x,foldedSetIterable iter X.env x=pure x) Au.h4._auto_1):PE X (.ListComp elt [⟨tg,iter,ifs,0⟩] scope pos) (tComp wi k caps g tt te):=by
 intro pins s σ H Q I h
 have noX:∀ {α:Type} {t:Sem α} {Q':α→Shared→Prop} {s':Shared},wpAny (model X.prog X.w) X.A t Q' X.xe s'→wpAny (model X.prog X.w) X.A t Q' (fun _ _=>False) s':=fun h=>wpAny_mono h (fun _ _ x=>x) fun e s z=>hxe e s z
 obtain ⟨cl,hclos,hcl,hcf⟩:=closure_for (scope:=scope) (env:=X.env) fun x hx hf=>I.ok.has _ (C.free x hx hf)
 rw [eval_ListComp]
 refine wpAny_comprehension_free (use:=none) (cl:=cl) rfl hs hclos C.kind C.names ?_
 refine thn (hi pins s σ H _ I h) fun v s1 h1=>thn h1 fun itv s2 h2=>?_
 obtain ⟨it,fp,tn,J,H2,e,I2,T,st2,f2,q⟩:=h2
 subst e
 refine wpAny_newList (items:=[]) ?_ (by show 0≤sizeLine; exact Nat.zero_le _)
 have hp:H2 s2.heap.objs.size=none:=I2.hok.fresh (Nat.le_refl _)
 obtain ⟨W,⟨m0,w0⟩,turn⟩:=q _ hp
 have I3:Inv X pins σ (upd H2 s2.heap.objs.size (.lst [])) { s2 with heap:=s2.heap.push { cls:=.type "list",data:=.seq ([]:List Value).toArray } }:=
  I2.laid (t':=s2.toks) (fun b u e=>Heap.get?_push_of_some _ e) (Nat.le_refl _) ⟨Nat.zero_le _,[],0,.nil,Heap.get?_push_size _ rfl⟩
 refine wpAny_newFunctionEnv C.nocell (fun x hx=>nomatch hx) (fun h4 hn4 hs4=>?_) C.kind
 have ltfp:∀ b ∈ fp,b < s2.heap.objs.size:=fun b hb=>by
  obtain ⟨o,ho,_⟩:=T.obj _ _ st2 b hb
  exact Heap.lt_size ho
 have hk4:∀ b o,(s2.heap.push { cls:=.type "list",data:=.seq ([]:List Value).toArray }).get? b=some o→h4.get? b=some o:=fun b o e=>by
  have ne:b ≠ (s2.heap.push { cls:=.type "list",data:=.seq ([]:List Value).toArray }).objs.size:=Nat.ne_of_lt (Heap.lt_size e)
  rw [hs4.2 b ne]
  exact Heap.get?_push_of_some _ e
 have f3:∀ b ∈ fp,FpOk X pins (upd H2 s2.heap.objs.size (.lst [])) b:=fun b hb=>by
  obtain ⟨a1,a2⟩:=f2 b hb
  exact ⟨by rw [upd_ne (Nat.ne_of_lt (ltfp b hb))]; exact a1,a2⟩
 have I4:=comp_start (N:=N) (k:=k) (caps:=caps) (scope:=scope) (cl:=cl) (fp:=fp) (t:=s2.toks + 0) I3 C hcl hcf (fun b hb=>⟨f3 b hb,by rw [show ({ s2 with heap:=s2.heap.push { cls:=.type "list",data:=.seq ([]:List Value).toArray } }:Shared).heap.objs.size=s2.heap.objs.size + 1 from Heap.size_push ..]; exact Nat.lt_succ_of_lt (ltfp b hb)⟩) hn4 hk4
 have tn4:tn 0 h4:=T.keep _ _ _ st2 fun b hb o e=>hk4 b o (Heap.get?_push_of_some _ e)
 have loop:codeAny (model X.prog X.w) X.A (.compLoop (.ListComp elt [⟨tg,iter,ifs,0⟩] scope pos) 0 (.ref it) (.ref s2.heap.objs.size) (compEnvC scope cl ({ s2 with heap:=s2.heap.push { cls:=.type "list",data:=.seq ([]:List Value).toArray } }:Shared).heap.objs.size X.env))
   (compPost (model X.prog X.w) X.A X.xe none (EP X pins σ Q) (.ref s2.heap.objs.size) ({ s2 with heap:=s2.heap.push { cls:=.type "list",data:=.seq ([]:List Value).toArray } }:Shared).heap.objs.size) { s2 with heap:=h4,toks:=s2.toks + 0 }:=by
  generalize hs3:({ s2 with heap:=s2.heap.push { cls:=.type "list",data:=.seq ([]:List Value).toArray } }:Shared)=s3 at *
  have sz3:s2.heap.objs.size≤s3.heap.objs.size:=by rw [← hs3]; show _≤(s2.heap.push _).objs.size; rw [Heap.size_push]; exact Nat.le_succ _
  have k23:∀ b o,s2.heap.get? b=some o→s3.heap.get? b=some o:=fun b o e=>by rw [← hs3]; exact Heap.get?_push_of_some _ e
  have hos:s3.os=s2.os:=by rw [← hs3]
  have stat:∀ {H':Hp},(∀ b ∈ fp,H' b=none)→∀ b ∈ fp,FpOk (cxC X N scope cl s3 (upd H2 s2.heap.objs.size (.lst [])) fp) pins H' b:=fun {H'} hn b hb=>by
   obtain ⟨a1,a2,a3,a4,a5,a6⟩:=f3 b hb
   refine ⟨hn b hb,Nat.ne_of_lt (Nat.lt_of_lt_of_le (ltfp b hb) sz3),fun z=>?_,.inl hb,fun x c e=>a5 x c (hcl x c e),a6⟩
   rcases List.mem_cons.mp (I2.stkSub b z) with q | q
   ·exact a2 q
   ·exact a3 q
  have I4':Inv (cxC X N scope cl s3 (upd H2 s2.heap.objs.size (.lst [])) fp) pins (capSt k caps σ) (upd H2 s2.heap.objs.size (.lst [])) { s2 with heap:=h4,toks:=s2.toks + 0 }:=by subst hs3; exact I4
  have hX2:Cd qb (cxC X N scope cl s3 (upd H2 s2.heap.objs.size (.lst [])) fp):=by
   rcases hX with z | ⟨z,y | ⟨a,o,u,e1,e2,e3⟩⟩
   ·exact .inl z
   ·exact .inr ⟨z,.inl y⟩
   ·refine .inr ⟨z,.inr ⟨a,o,u,e1,?_,e3⟩⟩
    have q0:=I2.base.frzs a o u e2
    show upd H2 s2.heap.objs.size (.lst []) a=_
    rw [upd_ne (fun y=>by rw [y,hp] at q0; cases q0)]
    exact q0
  refine compLoop_all (fun n s'=>∃ i σ' H',Inv (cxC X N scope cl s3 (upd H2 s2.heap.objs.size (.lst [])) fp) pins σ' H' s'∧tn i s'.heap∧(∀ b ∈ fp,H' b=none)∧W i n σ' H') ?_ m0 ⟨0,_,_,I4',tn4,fun b hb=>(f3 b hb).1,w0⟩
  rintro n s5 ⟨i,σ5,H5,I5,st5,fr5,w5⟩
  rcases turn i n σ5 H5 w5 with ⟨stop,qn⟩ | ⟨go,Nn,hN,step⟩
  ·refine thn (T.done (cxC X N scope cl s3 (upd H2 s2.heap.objs.size (.lst [])) fp) rfl rfl rfl hX2 i pins s5 σ5 H5 _ I5 (stat fr5) st5 stop) fun r s6 zq=>?_
   obtain ⟨hr,I6⟩:=zq
   subst hr
   obtain ⟨m6,hn6,_⟩:=I6.loc
   refine ⟨m6,hn6,fun h7 hs7=>⟨.ref s2.heap.objs.size,H5,?_,rfl,qn⟩⟩
   have u1:Un (frs X.stack) fp H2 (upd H2 s2.heap.objs.size (.lst [])) s2.heap s3.heap:=Un.laid k23 (Nat.le_refl _) hp
   have u2:Un (frs X.stack) fp H2 H5 s2.heap s6.heap:=u1.trans I6.base
   have neC:∀ b o,s2.heap.get? b=some o→b ≠ s3.heap.objs.size:=fun b o e=>Nat.ne_of_lt (Nat.lt_of_lt_of_le (Heap.lt_size e) sz3)
   have hfree:H5 s3.heap.objs.size=none:=I6.free
   refine I2.call' (s':={ s6 with heap:=h7 }) (ch:=fp) (by rw [← hos]; exact I6.os) ⟨fun b o e n hb hx=>?_,fun b o e n hb hx=>?_,u2.free,fun b o e hx=>?_,u2.tups,u2.frzs,u2.tbls⟩ (fun b ob e=>?_) I6.bare fun b hb=>?_
   ·exact (hs7.2 b (neC b o e)).trans (u2.keep b o e n hb hx)
   ·obtain ⟨sl,e1⟩:=u2.slot b o e n hb hx
    exact ⟨sl,(hs7.2 b (neC b o e)).trans e1⟩
   ·obtain ⟨o',e1⟩:=u2.there b o e hx
    exact ⟨o',(hs7.2 b (neC b o e)).trans e1⟩
   ·refine (I6.hok b ob e).stay (fun c v hc z=>(hs7.2 c ?_).trans z) (fun _ z=>z) fun _ _ z=>z
    intro y
    rcases hc with z | z
    ·rw [← z,y,hfree] at e; cases e
    ·rw [y,hfree] at z; cases z
   ·obtain ⟨a1,a2,a3,a4,a5,a6⟩:=f2 b hb
    exact ⟨a4,a2,a5,a6⟩
  ·refine thn (T.item (cxC X N scope cl s3 (upd H2 s2.heap.objs.size (.lst [])) fp) rfl rfl rfl hX2 i pins s5 σ5 H5 _ I5 (stat fr5) st5 go) fun r s6 zq=>?_
   obtain ⟨u,hr,h6⟩:=zq
   subst hr
   refine thn h6 fun _ s7 zq=>?_
   obtain ⟨x,H7,I7,r7,y7,st7,fr7⟩:=zq
   have I7':=I7.pinned (stat fr7) (T.obj _ _ st7)
   refine noX (thn (hg cl s3 _ fp hX2 _ s7 σ5 H7 x u _ I7' r7 (step x H7 y7)) fun _ s8 zq=>?_)
   obtain ⟨σ8,H8,I8,q8⟩:=zq
   refine noX (thn (ht cl s3 _ fp hX2 _ s8 σ8 H8 _ I8 q8) fun ok s9 zq=>?_)
   obtain ⟨H9,I9,q9⟩:=zq
   have again:∀ {s':Shared} {σ':L2.St} {H':Hp},Inv (cxC X N scope cl s3 (upd H2 s2.heap.objs.size (.lst [])) fp) (pins ++ pinsAt fp s7.heap) σ' H' s'→Nn σ' H'→
     ∃ m,m < n∧∃ i σ' H',Inv (cxC X N scope cl s3 (upd H2 s2.heap.objs.size (.lst [])) fp) pins σ' H' s'∧tn i s'.heap∧(∀ b ∈ fp,H' b=none)∧W i m σ' H':=fun {s' σ' H'} I' n'=>by
    obtain ⟨m',hm,w'⟩:=hN σ' H' n'
    refine ⟨m',hm,i + 1,σ',H',I'.unpinned,T.keep _ _ _ st7 fun b hb o e=>(I'.pin (b,o) (List.mem_append_right _ (List.mem_append_right _ (mem_pinsAt hb e)))).1,fun b hb=>?_,w'⟩
    obtain ⟨o,e,d⟩:=T.obj _ _ st7 b hb
    exact (I'.pin (b,o) (List.mem_append_right _ (List.mem_append_right _ (mem_pinsAt hb e)))).2.1
   cases ok with
   | false=>exact again I9 q9
   | true=>
    refine noX (thn (he cl s3 _ fp hX2 _ s9 σ8 H9 _ I9 q9) fun y s10 zq=>?_)
    obtain ⟨yv,H10,I10,r10,ys,hys,hlt,q10⟩:=zq
    refine noX (thn (mt_append (X:=cxC X N scope cl s3 (upd H2 s2.heap.objs.size (.lst [])) fp) _ s10 σ8 H10 (.ref s2.heap.objs.size) [yv] _ [y] (fun _ H'=>Nn σ8 H') I10 rfl (.cons r10 .nil) ⟨_,ys,yv,rfl,rfl,hys,hlt,q10⟩) fun _ s11 zq=>?_)
    obtain ⟨_,H11,I11,_,q11⟩:=zq
    exact again I11 q11
 exact codeAny_compStart_list loop (T.self X.A 0 _ _ _ tn4 loop)
end PD
namespace PD
open PySem PySem.Spec PyProof.Rows L2
noncomputable def smallI (i:Int):Prop:=-(2 ^ 64) < i∧i < 2 ^ 64
noncomputable instance (i:Int):Decidable (smallI i):=by unfold smallI; infer_instance
noncomputable def oAdd:Sto→D→D→Option D
 | _,.int i,.int j=>some (.int (i + j))
 | _,.str a,.str b=>if a.length + b.length≤sizeLine then some (.str (a ++ b)) else none
 | _,.tup a,.tup b=>if a.length + b.length≤sizeLine then some (.tup (a ++ b)) else none
 | _,.lst a,.lst b=>if a.length + b.length≤sizeLine then some (.lst (a ++ b)) else none
 | _,_,_=>none
noncomputable def oSub:Sto→D→D→Option D
 | _,.int i,.int j=>some (.int (i - j))
 | _,_,_=>none
noncomputable def oMul:Sto→D→D→Option D
 | _,.int i,.int j=>if smallI i ∨ smallI j then some (.int (i * j)) else none
 | _,.tup a,.int k=>if -(2 ^ 63)≤k∧k < 2 ^ 63∧a.length * k.toNat≤sizeLine then some (.tup (List.replicate k.toNat a).flatten) else none
 | _,.lst a,.int k=>if -(2 ^ 63)≤k∧k < 2 ^ 63∧a.length * k.toNat≤sizeLine then some (.lst (List.replicate k.toNat a).flatten) else none
 | _,_,_=>none
noncomputable def oFdiv:Sto→D→D→Option D
 | _,.int i,.int j=>if 0 < j∧j < 1073741824 then some (.int (i / j)) else none
 | _,_,_=>none
noncomputable def oMod:Sto→D→D→Option D
 | _,.int i,.int j=>if 0 < j then some (.int (i % j)) else none
 | _,_,_=>none
noncomputable def oNeg:Sto→D→Option D
 | _,.int i=>some (.int (-i))
 | _,_=>none
noncomputable def oCmp (p:Int→Int→Bool):Sto→D→D→Option D
 | _,.int i,.int j=>some (.bl (p i j))
 | _,_,_=>none
noncomputable abbrev oLt:=oCmp fun i j=>decide (i < j)
noncomputable abbrev oLe:=oCmp fun i j=>decide (i≤j)
noncomputable abbrev oGt:=oCmp fun i j=>decide (j < i)
noncomputable abbrev oGe:=oCmp fun i j=>decide (j≤i)
noncomputable def eqS:D→D→Option Bool
 | .int i,.int j=>some (decide (i=j))
 | .bl i,.bl j=>some (decide (i=j))
 | .str i,.str j=>some (decide (i=j))
 | .non,.non=>some true
 | .non,.int _=>some false
 | .int _,.non=>some false
 | .non,.bl _=>some false
 | .bl _,.non=>some false
 | .non,.str _=>some false
 | .str _,.non=>some false
 | .int _,.str _=>some false
 | .str _,.int _=>some false
 | .bl _,.str _=>some false
 | .str _,.bl _=>some false
 | _,_=>none
noncomputable def oEq:Sto→D→D→Option D:=fun _ a b=>(eqS a b).map .bl
noncomputable def oNe:Sto→D→D→Option D:=fun _ a b=>(eqS a b).map fun c=>.bl (!c)
noncomputable def flatD:D→Bool
 | .non=>true
 | .bl _=>true
 | .int _=>true
 | .str _=>true
 | _=>false
noncomputable def eqF:D→D→Bool
 | .non,.non=>true
 | .bl a,.bl b=>a == b
 | .bl a,.int b=>(if a then 1 else 0) == b
 | .int a,.bl b=>a == (if b then 1 else 0)
 | .int a,.int b=>a == b
 | .str a,.str b=>a == b
 | _,_=>false
noncomputable def seqOf (S:Sto):D→Option (List D)
 | .tup a=>some a
 | .lst a=>some a
 | .fz a=>some a
 | .ref n=>match S[n]? with
  | some (.lst a)=>some a
  | some (.flst a)=>some a
  | _=>none
 | _=>none
noncomputable def oIn (neg:Bool):Sto→D→D→Option D:=fun S x y=>match seqOf S y with
 | some a=>if flatD x=true∧a.all flatD=true then some (.bl (if neg then !(a.any fun z=>eqF z x) else a.any fun z=>eqF z x)) else none
 | none=>none
noncomputable def oIx:Sto→D→D→Option D:=fun S x y=>match seqOf S x,y with
 | some a,.int i=>atI a i
 | _,_=>none
noncomputable def cutD (xs:List D) (lo hi:Option Int):List D:=(xs.drop (HT.sIx xs.length 0 lo)).take (HT.sIx xs.length xs.length hi - HT.sIx xs.length 0 lo)
section
variable {X:Cx} {E:XK}
theorem RD.int {K:PySem.W.Frag} {w:Wd} {H:Hp} {i:Int} {v:V} (q:RD K w H (.int i) v):v=.int i:=by unfold RD at q; exact q
theorem RD.bl {K:PySem.W.Frag} {w:Wd} {H:Hp} {i:Bool} {v:V} (q:RD K w H (.bl i) v):v=.bl i:=by unfold RD at q; exact q
theorem RD.str {K:PySem.W.Frag} {w:Wd} {H:Hp} {i:Str} {v:V} (q:RD K w H (.str i) v):v=.str i:=by unfold RD at q; exact q
theorem RD.non {K:PySem.W.Frag} {w:Wd} {H:Hp} {v:V} (q:RD K w H .non v):v=.non:=by unfold RD at q; exact q
theorem RD.mkI {K:PySem.W.Frag} {w:Wd} {H:Hp} {i:Int}:RD K w H (.int i) (.int i):=by unfold RD; rfl
theorem RD.mkB {K:PySem.W.Frag} {w:Wd} {H:Hp} {i:Bool}:RD K w H (.bl i) (.bl i):=by unfold RD; rfl
theorem RD.mkS {K:PySem.W.Frag} {w:Wd} {H:Hp} {i:Str}:RD K w H (.str i) (.str i):=by unfold RD; rfl
theorem RD.tupI {K:PySem.W.Frag} {w:Wd} {H:Hp} {ds:List D} {v:V} (q:RD K w H (.tup ds) v):∃ a vs,v=.ref a∧(At w H a (.tup vs) ∨ KTup K a vs)∧RDs K w H ds vs:=by unfold RD at q; exact q
theorem RD.lstI {K:PySem.W.Frag} {w:Wd} {H:Hp} {ds:List D} {v:V} (q:RD K w H (.lst ds) v):∃ a vs,v=.ref a∧At w H a (.lst vs)∧RDs K w H ds vs:=by unfold RD at q; exact q
theorem RD.fzI {K:PySem.W.Frag} {w:Wd} {H:Hp} {ds:List D} {v:V} (q:RD K w H (.fz ds) v):∃ a vs,v=.ref a∧FzAt K w H a vs∧RDs K w H ds vs:=by unfold RD at q; exact q
theorem RD.refI {K:PySem.W.Frag} {w:Wd} {H:Hp} {n:Nat} {v:V} (q:RD K w H (.ref n) v):∃ a,v=.ref a∧w.st[n]?=some a:=by unfold RD at q; exact q
theorem RD.newTup {K:PySem.W.Frag} {w:Wd} {H:Hp} {S:Sto} {ds:List D} {vs:List V} {p:Addr} (s:RS K w H S) (hp:H p=none) (q:RDs K w H ds vs):RD K w (upd H p (.tup vs)) (.tup ds) (.ref p):=by
 unfold RD
 exact ⟨p,vs,rfl,.inl ⟨upd_same,s.fresh hp⟩,RDs.ext (Ext.new hp) _ _ q⟩
theorem RD.newLst {K:PySem.W.Frag} {w:Wd} {H:Hp} {S:Sto} {ds:List D} {vs:List V} {p:Addr} (s:RS K w H S) (hp:H p=none) (q:RDs K w H ds vs):RD K w (upd H p (.lst vs)) (.lst ds) (.ref p):=by
 unfold RD
 exact ⟨p,vs,rfl,⟨upd_same,s.fresh hp⟩,RDs.ext (Ext.new hp) _ _ q⟩
theorem opII {f:Value→Value→Sem Value} {C:Int→Int→Prop} {g:Int→Int→D} {gv:Int→Int→V} {o:Sto→D→D→Option D} (h:OpR X f (rI C gv)) (hg:∀ K w H i j,RD K w H (g i j) (gv i j))
  (ho:∀ S d e z,o S d e=some z→∃ i j,d=.int i∧e=.int j∧C i j∧z=g i j):OpR X f (xO X.K E o):=by
 rintro pins s σ H x y v u Q I rx ry ⟨w,S,d,e,hS,qd,qe,p⟩
 obtain ⟨z,hz,p⟩:=p.of
 obtain ⟨i,j,rfl,rfl,c,rfl⟩:=ho _ _ _ _ hz
 cases qd.int
 cases qe.int
 exact h pins s σ H _ _ v u Q I rx ry ⟨i,j,rfl,rfl,c,p.ret (hg _ _ _ _ _) hS⟩
theorem opII0 {f:Value→Value→Sem Value} {g:Int→Int→D} {gv:Int→Int→V} {o:Sto→D→D→Option D} (h:OpR X f (rI0 gv)) (hg:∀ K w H i j,RD K w H (g i j) (gv i j))
  (ho:∀ S d e z,o S d e=some z→∃ i j,d=.int i∧e=.int j∧z=g i j):OpR X f (xO X.K E o):=by
 rintro pins s σ H x y v u Q I rx ry ⟨w,S,d,e,hS,qd,qe,p⟩
 obtain ⟨z,hz,p⟩:=p.of
 obtain ⟨i,j,rfl,rfl,rfl⟩:=ho _ _ _ _ hz
 cases qd.int
 cases qe.int
 exact h pins s σ H _ _ v u Q I rx ry ⟨i,j,rfl,rfl,p.ret (hg _ _ _ _ _) hS⟩
theorem xo_sub:OpR X (binaryOp .Sub) (xO X.K E oSub):=opII0 (g:=fun i j=>.int (i - j)) op_sub (fun _ _ _ _ _=>RD.mkI) fun S d e z h=>by
 unfold oSub at h; split at h
 ·cases h; exact ⟨_,_,rfl,rfl,rfl⟩
 ·cases h
theorem xo_fdiv:OpR X (binaryOp .FloorDiv) (xO X.K E oFdiv):=opII (g:=fun i j=>.int (i / j)) op_fdiv (fun _ _ _ _ _=>RD.mkI) fun S d e z h=>by
 unfold oFdiv at h; split at h
 ·split at h
  ·cases h; exact ⟨_,_,rfl,rfl,by assumption,rfl⟩
  ·cases h
 ·cases h
theorem xo_mod:OpR X (binaryOp .Mod) (xO X.K E oMod):=opII (g:=fun i j=>.int (i % j)) op_mod (fun _ _ _ _ _=>RD.mkI) fun S d e z h=>by
 unfold oMod at h; split at h
 ·split at h
  ·cases h; exact ⟨_,_,rfl,rfl,by assumption,rfl⟩
  ·cases h
 ·cases h
theorem oCmp_inv {p:Int→Int→Bool} {S:Sto} {d e z:D} (h:oCmp p S d e=some z):∃ i j,d=.int i∧e=.int j∧z=.bl (p i j):=by
 unfold oCmp at h; split at h
 ·cases h; exact ⟨_,_,rfl,rfl,rfl⟩
 ·cases h
theorem xo_lt:OpR X (compareOp .Lt) (xO X.K E oLt):=opII0 (g:=fun i j=>.bl (decide (i < j))) op_lt (fun _ _ _ _ _=>RD.mkB) fun S d e z h=>oCmp_inv h
theorem xo_le:OpR X (compareOp .LtE) (xO X.K E oLe):=opII0 (g:=fun i j=>.bl (decide (i≤j))) op_le (fun _ _ _ _ _=>RD.mkB) fun S d e z h=>oCmp_inv h
theorem xo_gt:OpR X (compareOp .Gt) (xO X.K E oGt):=opII0 (g:=fun i j=>.bl (decide (j < i))) op_gt (fun _ _ _ _ _=>RD.mkB) fun S d e z h=>oCmp_inv h
theorem xo_ge:OpR X (compareOp .GtE) (xO X.K E oGe):=opII0 (g:=fun i j=>.bl (decide (j≤i))) op_ge (fun _ _ _ _ _=>RD.mkB) fun S d e z h=>oCmp_inv h
theorem xu_neg:UnR X (unaryOp .USub) (xU X.K E oNeg):=by
 rintro pins s σ H x v Q I rx ⟨w,S,d,hS,qd,p⟩
 obtain ⟨z,hz,p⟩:=p.of
 unfold oNeg at hz; split at hz
 ·cases hz
  cases qd.int
  exact un_neg pins s σ H _ v Q I rx ⟨_,rfl,p.ret RD.mkI hS⟩
 ·cases hz
theorem eqS_ok {K:PySem.W.Frag} {w:Wd} {H:Hp} {d e:D} {x y:V} {c:Bool} (qd:RD K w H d x) (qe:RD K w H e y) (h:eqS d e=some c):scal x y=true∧decide (x=y)=c:=by
 unfold eqS at h
 split at h <;> (try (cases h; done)) <;> (unfold RD at qd qe; subst qd; subst qe; cases h; refine ⟨rfl,?_⟩; simp)
theorem xo_eq:OpR X (compareOp .Eq) (xO X.K E oEq):=by
 rintro pins s σ H x y v u Q I rx ry ⟨w,S,d,e,hS,qd,qe,p⟩
 obtain ⟨z,hz,p⟩:=p.of
 unfold oEq at hz
 cases h:eqS d e with
 | none=>rw [h] at hz; cases hz
 | some c=>
  rw [h] at hz; cases hz
  obtain ⟨h1,h2⟩:=eqS_ok qd qe h
  exact op_eq pins s σ H _ _ v u Q I rx ry ⟨h1,by rw [h2]; exact p.ret RD.mkB hS⟩
theorem xo_ne:OpR X (compareOp .NotEq) (xO X.K E oNe):=by
 rintro pins s σ H x y v u Q I rx ry ⟨w,S,d,e,hS,qd,qe,p⟩
 obtain ⟨z,hz,p⟩:=p.of
 unfold oNe at hz
 cases h:eqS d e with
 | none=>rw [h] at hz; cases hz
 | some c=>
  rw [h] at hz; cases hz
  obtain ⟨h1,h2⟩:=eqS_ok qd qe h
  exact op_ne pins s σ H _ _ v u Q I rx ry ⟨h1,by rw [h2]; exact p.ret RD.mkB hS⟩
theorem seq_ok {K:PySem.W.Frag} {w:Wd} {H:Hp} {S:Sto} {d:D} {v:V} {a:List D} (s:RS K w H S) (q:RD K w H d v) (h:seqOf S d=some a):∃ p vs,v=.ref p∧(SqL K H p vs ∨ SqT K H p vs)∧RDs K w H a vs:=by
 unfold seqOf at h
 split at h
 ·cases h; obtain ⟨p,vs,e,z,r⟩:=q.tupI; exact ⟨p,vs,e,.inr (SqT_of z),r⟩
 ·cases h; obtain ⟨p,vs,e,z,r⟩:=q.lstI; exact ⟨p,vs,e,.inl (SqL.of z.1),r⟩
 ·cases h; obtain ⟨p,vs,e,z,r⟩:=q.fzI; exact ⟨p,vs,e,.inl z.sq,r⟩
 ·split at h
  ·rename_i n b hn
   cases h
   obtain ⟨p,e,hp⟩:=q.refI
   obtain ⟨p',hp',vs,hv,r⟩:=s.obj _ _ hn
   rw [hp] at hp'; cases hp'
   exact ⟨p,vs,e,.inl (SqL.of hv),r⟩
  ·rename_i n b hn
   cases h
   obtain ⟨p,e,hp⟩:=q.refI
   obtain ⟨p',hp',o,vs,hv,r⟩:=s.obj _ _ hn
   rw [hp] at hp'; cases hp'
   exact ⟨p,vs,e,.inl (.inl (.inr ⟨o,hv⟩)),r⟩
  ·cases h
 ·cases h
theorem RDs.atI {K:PySem.W.Frag} {w:Wd} {H:Hp} {a:List D} {vs:List V} {i:Int} {d:D} (r:RDs K w H a vs) (h:atI a i=some d):∃ v,L2.atI vs i=some v∧RD K w H d v:=by
 unfold L2.atI at h ⊢
 rw [r.length]
 cases e:ixN a.length i with
 | none=>rw [e] at h; cases h
 | some j=>
  rw [e] at h
  obtain ⟨v,ev,rv⟩:=r.get (show a[j]?=some d from h)
  exact ⟨v,ev,rv⟩
theorem xi_ix:IxR X (xO X.K E oIx):=by
 rintro va sl pins s σ H x y v u Q I rx ry ⟨w,S,d,e,hS,qd,qe,p⟩ hsub
 obtain ⟨z,hz,p'⟩:=p.of
 clear p
 unfold oIx at hz
 split at hz
 ·rename_i a i ha
  obtain ⟨q,vs,rfl,sq,r⟩:=seq_ok hS qd ha
  cases qe.int
  obtain ⟨v',ev,rv⟩:=r.atI hz
  exact ix_seq va sl pins s σ H _ _ v u Q I rx ry (sq.elim (fun z=>.inl ⟨q,vs,i,v',rfl,rfl,z,ev,p'.ret rv hS⟩) fun z=>.inr (.inl ⟨q,vs,i,v',rfl,rfl,z,ev,p'.ret rv hS⟩)) hsub
 ·cases hz
theorem flat_ok {K:PySem.W.Frag} {w:Wd} {H:Hp} {d:D} {v:V} (q:RD K w H d v) (h:flatD d=true):flatV v=true:=by
 unfold flatD at h
 split at h
 ·cases q.non; rfl
 ·cases q.bl; rfl
 ·cases q.int; rfl
 ·cases q.str; rfl
 ·cases h
theorem flats_ok {K:PySem.W.Frag} {w:Wd} {H:Hp}:∀ {ds:List D} {vs:List V},RDs K w H ds vs→ds.all flatD=true→vs.all flatV=true
 | [],_,q,_=>by rw [q.nil_inv]; rfl
 | d :: ds,_,q,h=>by
  obtain ⟨v,r,rfl,p,t⟩:=q.cons_inv
  rw [List.all_cons,Bool.and_eq_true] at h ⊢
  exact ⟨flat_ok p h.1,flats_ok t h.2⟩
theorem eqF_ok {K:PySem.W.Frag} {w:Wd} {H:Hp} {d e:D} {x y:V} (qd:RD K w H d x) (qe:RD K w H e y) (h1:flatD d=true) (h2:flatD e=true):eqV x y=eqF d e:=by
 unfold flatD at h1 h2
 split at h1 <;> (try (cases h1; done)) <;> split at h2 <;> (try (cases h2; done)) <;> (unfold RD at qd qe; subst qd; subst qe; rfl)
theorem anyF_ok {K:PySem.W.Frag} {w:Wd} {H:Hp} {d:D} {x:V} (qd:RD K w H d x) (hd:flatD d=true):∀ {ds:List D} {vs:List V},RDs K w H ds vs→ds.all flatD=true→(vs.any fun y=>eqV y x)=ds.any fun z=>eqF z d
 | [],_,q,_=>by rw [q.nil_inv]; rfl
 | e :: ds,_,q,h=>by
  obtain ⟨v,r,rfl,p,t⟩:=q.cons_inv
  rw [List.all_cons,Bool.and_eq_true] at h
  rw [List.any_cons,List.any_cons,eqF_ok p qd h.1 hd,anyF_ok qd hd t h.2]
theorem xo_in:OpR X (compareOp .In) (xO X.K E (oIn false)):=by
 rintro pins s σ H x y v u Q I rx ry ⟨w,S,d,e,hS,qd,qe,p⟩
 obtain ⟨z,hz,p⟩:=p.of
 unfold oIn at hz
 split at hz
 ·rename_i a ha
  split at hz
  ·rename_i hf
   obtain ⟨q,vs,rfl,sq,r⟩:=seq_ok hS qe ha
   cases hz
   refine op_in_seq pins s σ H _ _ v u Q I rx ry ⟨q,vs,rfl,sq,flat_ok qd hf.1,flats_ok r hf.2,?_⟩
   have hi:inV x vs=a.any fun z=>eqF z d:=anyF_ok qd hf.1 r hf.2
   simp only [Bool.false_eq_true,if_false] at p ⊢
   rw [hi]
   exact p.ret RD.mkB hS
  ·cases hz
 ·cases hz
end
end PD
namespace PD
open PySem PySem.Spec PyProof.Rows L2
section
open PySem.SeqAt
open PySem.AutoSeq1 (wpAny_loadPart')
open PySem.MeetsSeq PySem.MeetsSeq2 PySem.MeetsSeq3
theorem int_rmul_tup (a:Int) (t:Tok) (l:Addr) (items:Array Value) (n:Nat) (dd:Option Addr) (sl:Array (Option Value)):
  Meets (Builtin.«int.__rmul__» ⟨[.int a t,.ref l],[]⟩) (fun _ R s=>s.heap.get? l=some { cls:=.type "tuple",dict:=dd,data:=.seq items n,slots:=sl }∧R (.ok (.ret Value.notImplemented)) s):=
 .of_wp fun prog w A R s h=>by obtain ⟨hp,g,d,tk,os⟩:=s; obtain ⟨hl,h⟩:=h; wp_walk using wpAny_loadPart' hl; exact ⟨_,rfl,h⟩
theorem tup_mul_same (l:Addr) (items:Array Value) (n:Nat) (k:Int) (t:Tok) (dd:Option Addr) (sl:Array (Option Value)) (h1:¬ (decide (k < -(2 ^ 63)) || decide (k ≥ 2 ^ 63))=true) (h2:(items.isEmpty || k == 1)=true):
  Meets (Builtin.«tuple.__mul__» ⟨[.ref l,.int k t],[]⟩) (fun _ R s=>s.heap.get? l=some { cls:=.type "tuple",dict:=dd,data:=.seq items n,slots:=sl }∧R (.ok (.ret (.ref l))) s):=
 .of_wp fun prog w A R s h=>by obtain ⟨hp,g,d,tk,os⟩:=s; obtain ⟨hl,h⟩:=h; have f1:=AutoSeq1.idx_int; wp_walk using wpAny_loadPart' hl; rw [if_neg h1]; wp_walk using wpAny_loadPart' hl; exact ⟨_,rfl,h⟩
theorem tup_mul_none (l:Addr) (items:Array Value) (n:Nat) (k:Int) (t:Tok) (dd:Option Addr) (sl:Array (Option Value)) (h1:¬ (decide (k < -(2 ^ 63)) || decide (k ≥ 2 ^ 63))=true) (h2:¬ (items.isEmpty || k == 1)=true) (h3:(decide (k≤0) || items.isEmpty)=true):
  Meets (Builtin.«tuple.__mul__» ⟨[.ref l,.int k t],[]⟩) (fun _ R s=>s.heap.get? l=some { cls:=.type "tuple",dict:=dd,data:=.seq items n,slots:=sl }∧R (.ok (.ret (Value.ref s.heap.objs.size))) { s with heap:=s.heap.push { cls:=Value.type "tuple",data:=Data.seq #[] },toks:=s.toks }):=
 .of_wp fun prog w A R s h=>by obtain ⟨hp,g,d,tk,os⟩:=s; obtain ⟨hl,h⟩:=h; have f1:=AutoSeq1.idx_int; wp_walk using wpAny_loadPart' hl; rw [if_neg h1]; wp_walk using wpAny_loadPart' hl; exact ⟨_,rfl,h⟩
theorem tup_mul_more (l:Addr) (items:Array Value) (n:Nat) (k:Int) (t:Tok) (dd:Option Addr) (sl:Array (Option Value)) (h1:¬ (decide (k < -(2 ^ 63)) || decide (k ≥ 2 ^ 63))=true) (h2:¬ (items.isEmpty || k == 1)=true) (h3:¬ (decide (k≤0) || items.isEmpty)=true)
  (h4:¬ (items.size:Int) * k > (2 ^ 63 - 1) / 8) (h5:¬ Builtin.Tuple.tupleTooMany ((items.size:Int) * k)=true) (hsz:(List.foldl (fun x1 x2=>x1 ++ x2) #[] (List.replicate k.toNat items)).size≤sizeLine):
  Meets (Builtin.«tuple.__mul__» ⟨[.ref l,.int k t],[]⟩) (fun _ R s=>s.heap.get? l=some { cls:=.type "tuple",dict:=dd,data:=.seq items n,slots:=sl }∧R (.ok (.ret (Value.ref s.heap.objs.size))) { s with heap:=s.heap.push { cls:=Value.type "tuple",data:=Data.seq (List.foldl (fun x1 x2=>x1 ++ x2) #[] (List.replicate k.toNat items)) },toks:=s.toks }):=
 .of_wp fun prog w A R s h=>by obtain ⟨hp,g,d,tk,os⟩:=s; obtain ⟨hl,h⟩:=h; have f1:=AutoSeq1.idx_int; wp_walk using wpAny_loadPart' hl; rw [if_neg h1]; wp_walk using wpAny_loadPart' hl; rw [if_neg h4]; wp_walk using wpAny_loadPart' hl; exact ⟨_,rfl,h⟩
end
section
variable {prog:Program} {w:World} {A:Around} {E:Value→Shared→Prop} {s:Shared}
theorem noFill_tuple_mul:fillsNumberSlot (.type "tuple") "mul" = pure false:=
 PySem.fillsNumberSlot_seq (id:="tuple.__mul__") (r:=some (.builtin "tuple.__rmul__")) F.slot_tuple_mul.lookup (by decide +kernel) F.slot_tuple_rmul.lookup (by decide +kernel)
theorem repeat_tuple:seqRepeat? (.type "tuple")=pure (some (.builtin "tuple.__mul__")):=by
 unfold seqRepeat?
 rw [PySem.seqSlot_of (T:="tuple") (name:="__mul__") (id:="tuple.__mul__") F.slot_tuple_mul.lookup (by decide +kernel),PySem.seqSlot_of (T:="tuple") (name:="__rmul__") (id:="tuple.__rmul__") F.slot_tuple_rmul.lookup (by decide +kernel)]
 rfl
theorem rep_tup {t:Addr} {vs:List Value} {k:Int} {tk:Tok} {Q:Value→Shared→Prop} (ht:IsTup s.heap t vs.toArray) (h1:-(2 ^ 63)≤k) (h2:k < 2 ^ 63) (hz:vs.length * k.toNat≤sizeLine)
  (q1:(vs=[] ∨ k=1)→Q (.ref t) s) (q2:¬ (vs=[] ∨ k=1)→Q (.ref s.heap.objs.size) { s with heap:=s.heap.push { cls:=.type "tuple",data:=.seq (List.replicate k.toNat vs).flatten.toArray } }):
  wpAny (model prog w) A (binaryOp .Mult (.ref t) (.int k tk)) Q E s:=by
 obtain ⟨⟨cls,dd,data,sl⟩,ho,hc,n,hd⟩:=id ht
 simp only at hc hd
 subst hc hd
 have hk:¬ (decide (k < -(2 ^ 63)) || decide (k ≥ 2 ^ 63))=true:=by simp; omega
 refine wpAny_binaryOp_repeat_ref (T:="tuple") (U:="int") (by decide) ⟨_,ho,rfl⟩ (fun s'=>typeIs_int s' k tk) noFill_tuple_mul F.fills_int_mul F.slot_int_rmul repeat_tuple F.slot_int_index.lookup
  (call_meets F.slot_int_rmul (typeIs_int s k tk) F.entry_int_rmul (F.args_int_rmul_2 _ _) (int_rmul_tup k tk t vs.toArray n dd sl) ⟨ho,rfl,⟨_,ho,rfl⟩,?_⟩)
 have hfold:∀ m:Nat,List.foldl (fun x1 x2=>x1 ++ x2) #[] (List.replicate m vs.toArray)=(List.replicate m vs).flatten.toArray:=fun m=>by
  have:=foldl_rep vs m []
  rw [List.nil_append] at this
  exact this
 by_cases c1:vs=[] ∨ k=1
 ·refine call_meets F.slot_tuple_mul ⟨_,ho,rfl⟩ F.entry_tuple_mul (F.args_tuple_mul_2 _ _) (tup_mul_same t vs.toArray n k tk dd sl hk ?_) ⟨ho,q1 c1⟩
  rcases c1 with rfl | rfl
  ·rfl
  ·simp
 ·have c2:¬ (vs.toArray.isEmpty || k == 1)=true:=by
   intro z
   rw [Bool.or_eq_true] at z
   rcases z with z | z
   ·exact c1 (.inl (by simpa using z))
   ·exact c1 (.inr (by simpa using z))
  by_cases c3:k≤0
  ·refine call_meets F.slot_tuple_mul ⟨_,ho,rfl⟩ F.entry_tuple_mul (F.args_tuple_mul_2 _ _) (tup_mul_none t vs.toArray n k tk dd sl hk c2 (by simp [c3])) ⟨ho,?_⟩
   have:=q2 c1
   rw [show k.toNat=0 by omega] at this
   exact this
  ·have c4:¬ (decide (k≤0) || vs.toArray.isEmpty)=true:=by
    intro z
    rw [Bool.or_eq_true] at z
    rcases z with z | z
    ·exact c3 (of_decide_eq_true z)
    ·exact c1 (.inl (by simpa using z))
   have hmul:((vs.toArray.size:Nat):Int) * k=((vs.length * k.toNat:Nat):Int):=by
    rw [List.size_toArray,Int.natCast_mul,Int.toNat_of_nonneg (by omega)]
   have hs0:(sizeLine:Nat)=2 ^ 24:=rfl
   refine call_meets F.slot_tuple_mul ⟨_,ho,rfl⟩ F.entry_tuple_mul (F.args_tuple_mul_2 _ _) (tup_mul_more t vs.toArray n k tk dd sl hk c2 c4 ?_ ?_ ?_) ⟨ho,?_⟩
   ·rw [hmul]
    intro z
    have:((2:Int) ^ 63 - 1) / 8 ≥ 2 ^ 24:=by decide
    omega
   ·rw [hmul]
    unfold Builtin.Tuple.tupleTooMany
    simp only [decide_eq_true_eq]
    intro z
    have z':((sizeLine:Nat):Int) < ((vs.length * k.toNat:Nat):Int):=z
    omega
   ·rw [hfold,List.size_toArray,len_rep,Nat.mul_comm]; exact hz
   ·rw [hfold]; exact q2 c1
end
end PD
namespace PD
open PySem PySem.Spec PyProof.Rows L2
section
variable {prog:Program} {w:World} {A:Around} {E:Value→Shared→Prop} {s:Shared}
theorem cat_tup0 {t b:Addr} {ws:List Value} {Q:Value→Shared→Prop} (ht:IsTup s.heap t ([]:List Value).toArray) (hb:IsTup s.heap b ws.toArray) (h:Q (.ref b) s):wpAny (model prog w) A (binaryOp .Add (.ref t) (.ref b)) Q E s:=by
 obtain ⟨⟨cls,dd,data,sl⟩,ho,hc,n,hd⟩:=id ht
 obtain ⟨⟨cls2,dd2,data2,sl2⟩,ho2,hc2,n2,hd2⟩:=id hb
 simp only at hc hd hc2 hd2
 subst hc hd hc2 hd2
 exact concat_meets ⟨_,ho,rfl⟩ ⟨_,ho2,rfl⟩ noFill_tuple_add seq_tuple_add PySem.F.slot_tuple_add PySem.F.entry_tuple_add (PySem.F.args_tuple_add_2 _ _) (tuple_addW0 t b _ ws.toArray n n2 dd dd2 sl sl2 rfl) ⟨ho,ho2,h⟩
open HT in
theorem getItem_tuple_whole {t sl:Addr} {items:Array Value} {vl vu:Value} {lo hi:Option Int} {Q:Value→Shared→Prop} (ht:IsTup s.heap t items) (hs:s.heap.IsSliceOf sl vl vu .none) (pl:IsPart vl lo) (pu:IsPart vu hi)
  (hw:sIx items.size 0 lo=0∧sIx items.size items.size hi=items.size) (h:Q (.ref t) s):wpAny (model prog w) A (getItem (.ref t) (.ref sl)) Q E s:=by
 obtain ⟨os,hos,hcs,hds⟩:=id hs
 have hTs:s.TypeIs (.ref sl) "slice":=⟨os,hos,hcs⟩
 unfold getItem
 try with_reducible refine wpAny_holding ?_
 first | refine wpAny_bind (wpAny_pure ?_) | skip
 refine wpAny_bind (wpAny_sequenceKey ht.typeIs (by decide) ?_)
 refine wpAny_bind (wpAny_callSpecial?_slot (name:=Str.ofString "__getitem__") ht.typeIs PyProof.Rows.slot_tuple_getitem
  (wpAny_call_entry PyProof.Rows.slot_tuple_getitem ht.typeIs entry_tuple_getitem ?_ (args_tuple_getitem _ _)))
 show wpAny _ _ (Builtin.Tuple.tupleItemsOf (.ref t) >>= _) _ _ s
 refine wpAny_bind (tupleItemsOf_ ht ?_)
 refine wpAny_bind (wpAny_typeOf hTs ?_)
 rw [if_pos (by decide)]
 refine wpAny_bind (sliceApplied_gen hs pl pu ?_)
 have hyes:(((sIx items.size 0 lo:Nat):Int) == 0 && (1:Int) == 1 && (sIx items.size items.size hi - sIx items.size 0 lo) == items.size)=true:=by
  rw [hw.1,hw.2]; simp
 show wpAny _ _ (if (((sIx items.size 0 lo:Nat):Int) == 0 && (1:Int) == 1 && (sIx items.size items.size hi - sIx items.size 0 lo) == items.size)=true then _ else _) _ _ s
 rw [if_pos hyes]
 obtain ⟨ob,hob,hcl,_⟩:=id ht
 have hex:∀ {Q':Bool→Shared→Prop},Q' true s→wpAny (model prog w) A.in1 (Builtin.Tuple.tupleIsExact (.ref t)) Q' E s:=fun q=>by
  unfold Builtin.Tuple.tupleIsExact
  refine wpAny_bind (wpAny_typeOf ht.typeIs (wpAny_pure ?_))
  exact q
 refine wpAny_bind (hex ?_)
 rw [if_pos rfl]
 first
  | exact wpAny_bind (wpAny_rule (wpAny_pure ⟨_,rfl,wpAny_pure h⟩))
  | exact wpAny_bind (wpAny_rule (wpAny_bind (wpAny_pure ⟨_,rfl,wpAny_pure h⟩)))
  | exact wpAny_bind (wpAny_rule (wpAny_bind (wpAny_pure (wpAny_pure ⟨_,rfl,wpAny_pure h⟩))))
  | exact wpAny_bind (wpAny_bind (wpAny_rule (wpAny_pure (wpAny_pure ⟨_,rfl,wpAny_pure h⟩))))
end
end PD
namespace PD
open PySem PySem.Spec PyProof.Rows L2
section
variable {X:Cx} {E:XK}
theorem sameTup {K:PySem.W.Frag} {w:Wd} {H:Hp} {p:Addr} {vs:List V} {ds:List D} (z:At w H p (.tup vs) ∨ KTup K p vs) (r:RDs K w H ds vs):RD K w H (.tup ds) (.ref p):=by
 unfold RD; exact ⟨p,vs,rfl,z,r⟩
theorem xo_add:OpR X (binaryOp .Add) (xO X.K E oAdd):=by
 rintro pins s σ H x y v u Q I rx ry ⟨w,S,d,e,hS,qd,qe,p⟩
 obtain ⟨z,hz,p'⟩:=p.of
 clear p
 unfold oAdd at hz
 split at hz
 ·cases hz
  cases qd.int
  cases qe.int
  exact op_add pins s σ H _ _ v u Q I rx ry ⟨_,_,rfl,rfl,p'.ret RD.mkI hS⟩
 ·split at hz
  ·cases hz
   cases qd.str
   cases qe.str
   exact op_add_str pins s σ H _ _ v u Q I rx ry ⟨_,_,rfl,rfl,by assumption,p'.ret RD.mkS hS⟩
  ·cases hz
 ·split at hz
  ·rename_i S' a b hl
   cases hz
   obtain ⟨pa,xs,rfl,za,ra⟩:=qd.tupI
   obtain ⟨pb,ys,rfl,zb,rb⟩:=qe.tupI
   by_cases ha:a=[]
   ·subst ha
    have hxs:=ra.nil_inv
    subst hxs
    cases rx
    cases ry
    obtain ⟨its,r1,p1,_⟩:=I.tuple (SqT_of za)
    obtain ⟨its2,r2,p2,_⟩:=I.tuple (SqT_of zb)
    have:its=[]:=r1.nil_iff.mpr rfl
    subst this
    exact cat_tup0 p1 p2 ⟨.ref pb,H,I,rfl,p'.ret (sameTup zb rb) hS⟩
   ·refine op_catT pins s σ H _ _ v u Q I rx ry ⟨pa,pb,xs,ys,rfl,rfl,SqT_of za,SqT_of zb,fun z=>ha ?_,by rw [ra.length,rb.length]; exact hl,fun z=>?_,fun z q hq=>?_⟩
    ·have:=ra.length
     rw [z] at this
     exact List.length_eq_zero_iff.mp this.symm
    ·have hb:b=[]:=by
      have:=rb.length
      rw [z] at this
      exact List.length_eq_zero_iff.mp this.symm
     subst hb
     rw [List.append_nil] at p'
     exact p'.ret (sameTup za ra) hS
    ·exact p'.at (Ext.new hq) (RD.newTup hS hq (ra.append rb)) (hS.new hq)
  ·cases hz
 ·split at hz
  ·rename_i S' a b hl
   cases hz
   obtain ⟨pa,xs,rfl,za,ra⟩:=qd.lstI
   obtain ⟨pb,ys,rfl,zb,rb⟩:=qe.lstI
   exact op_cat pins s σ H _ _ v u Q I rx ry ⟨pa,pb,xs,ys,rfl,rfl,za.1,zb.1,by rw [ra.length,rb.length]; exact hl,fun q hq=>p'.at (Ext.new hq) (RD.newLst hS hq (ra.append rb)) (hS.new hq)⟩
  ·cases hz
 ·cases hz
theorem RDs.rep {K:PySem.W.Frag} {w:Wd} {H:Hp} {ds:List D} {vs:List V} (r:RDs K w H ds vs):∀ k:Nat,RDs K w H (List.replicate k ds).flatten (List.replicate k vs).flatten
 | 0=>by simp; exact .nil
 | k + 1=>by
  rw [List.replicate_succ,List.replicate_succ,List.flatten_cons,List.flatten_cons]
  exact r.append (RDs.rep r k)
theorem xo_mul:OpR X (binaryOp .Mult) (xO X.K E oMul):=by
 rintro pins s σ H x y v u Q I rx ry ⟨w,S,d,e,hS,qd,qe,p⟩
 obtain ⟨z,hz,p'⟩:=p.of
 clear p
 unfold oMul at hz
 split at hz
 ·split at hz
  ·cases hz
   cases qd.int
   cases qe.int
   exact op_mul pins s σ H _ _ v u Q I rx ry ⟨_,_,rfl,rfl,by assumption,p'.ret RD.mkI hS⟩
  ·cases hz
 ·split at hz
  ·rename_i S' a k hl
   cases hz
   obtain ⟨pa,xs,rfl,za,ra⟩:=qd.tupI
   cases qe.int
   cases rx
   obtain ⟨t,rfl⟩:=ry
   obtain ⟨its,r1,p1,_⟩:=I.tuple (SqT_of za)
   have e1:its.length=a.length:=by rw [← r1.length,ra.length]
   refine rep_tup p1 hl.1 hl.2.1 (by rw [e1]; exact hl.2.2) (fun c=>?_) fun c=>?_
   ·refine ⟨.ref pa,H,I,rfl,?_⟩
    have:(List.replicate k.toNat a).flatten=a:=by
     rcases c with c | c
     ·have:a=[]:=by rw [c] at e1; exact List.length_eq_zero_iff.mp e1.symm
      subst this; simp
     ·subst c; simp
    rw [this] at p'
    exact p'.ret (sameTup za ra) hS
   ·have hn:H s.heap.objs.size=none:=I.hok.fresh (Nat.le_refl _)
    refine ⟨.ref s.heap.objs.size,_,I.laid (t':=s.toks) (o:=.tup (List.replicate k.toNat xs).flatten) (fun b ob q=>Heap.get?_push_of_some _ q) (Nat.le_refl _) ?_,rfl,p'.at (Ext.new hn) (RD.newTup hS hn (ra.rep _)) (hS.new hn)⟩
    exact ⟨by rw [len_rep,Nat.mul_comm,ra.length]; exact hl.2.2,_,r1.rep _,IsTup.new _ _⟩
  ·cases hz
 ·split at hz
  ·rename_i S' a k hl
   cases hz
   obtain ⟨pa,xs,rfl,za,ra⟩:=qd.lstI
   cases qe.int
   exact op_rep pins s σ H _ _ v u Q I rx ry ⟨pa,k,xs,rfl,rfl,za.1,hl.1,hl.2.1,by rw [ra.length]; exact hl.2.2,fun q hq=>p'.at (Ext.new hq) (RD.newLst hS hq (ra.rep _)) (hS.new hq)⟩
  ·cases hz
 ·cases hz
theorem se_ix {a b:Expr} {ma mb:EM} {pos:Pos} {f:Sto→D→D→Option D} (hr:IxR X (xO X.K E f)) (ha:SE X E a ma) (hb:SE X E b mb) (hs:PlainIx b:=by intro _ _; kernel_rfl):SE X E (.Subscript a b pos) (eOp f ma mb):=⟨
 pe_weak (pe_ix hr ha.out hb.out hs) fun s H Q zq=>ex6 zq fun w r S hr hS hp=>⟨w,r,S,hr,hS,hp.bind hS fun d S1 w1 H1 v x1 q1 s1 p1=>
  ⟨w1,r,S1,hr.ext x1,s1,p1.bind s1 fun e S2 w2 H2 u x2 q2 s2 p2=>⟨w2,S2,d,e,s2,RD.ext x2 d v q1,q2,p2⟩⟩⟩⟩
noncomputable abbrev OM:=Rho→Sto→R (Option Int)
noncomputable def ROp (w:Wd) (H:Hp) (a b:Option Int):Prop:=b=a
noncomputable def uO (K:PySem.W.Frag) (E:XK) (m:OM):TO:=fun s H Q=>∃ w r S,RSt K w H r s∧RS K w H S∧Post K E ROp w H (m r S) Q
noncomputable def oNo:OM:=fun _ S=>.ok none S
noncomputable def oPart (a:EM):OM:=fun r S=>(a r S).bind fun x S1=>match x with
 | .int i=>.ok (some i) S1
 | _=>.bad
noncomputable abbrev SO' (X:Cx) (E:XK) (e:Option Expr) (m:OM):Prop:=Bx (PO X e (uO X.K E m))
theorem so_none:SO' X E none oNo:=⟨fun pins s σ H Q I zq=>ex6 zq fun w r S hr hS hp=>po_none pins s σ H Q I (hp.ret rfl hS)⟩
theorem so_some {a:Expr} {ma:EM} (ha:SE X E a ma):SO' X E (some a) (oPart ma):=⟨fun pins s σ H Q I zq=>ex6 zq fun w r S hr hS hp=>po_some ha.out pins s σ H Q I
 ⟨w,r,S,hr,hS,hp.bind hS fun d S1 w1 H1 v x1 q1 s1 p1=>by
  cases d with
  | int i=>cases q1.int; exact ⟨i,rfl,p1.ret rfl s1⟩
  | _=>exact p1.elim⟩⟩
noncomputable def xL (K:PySem.W.Frag) (E:XK) (f:Sto→D→Option Int→Option Int→Option D):V→Option Int→Option Int→Hp→VK→Prop:=fun x lo hi H Q=>∃ w S d,RS K w H S∧RD K w H d x∧Post K E (RD K) w H (R.of S (f S d lo hi)) Q
noncomputable def eSl (f:Sto→D→Option Int→Option Int→Option D) (a:EM) (lo hi:OM):EM:=fun r S=>(a r S).bind fun x S1=>(lo r S1).bind fun l S2=>(hi r S2).bind fun u S3=>R.of S3 (f S3 x l u)
theorem se_sl {a:Expr} {ma:EM} {lo hi:Option Expr} {ml mh:OM} {p2 pos:Pos} {f:Sto→D→Option Int→Option Int→Option D} (hf:SlR X (xL X.K E f)) (ha:SE X E a ma) (hl:SO' X E lo ml) (hh:SO' X E hi mh):
  SE X E (.Subscript a (.Slice lo hi none p2) pos) (eSl f ma ml mh):=⟨
 pe_weak (pe_slice hf ha.out hl.out hh.out) fun s H Q zq=>ex6 zq fun w r S hr hS hp=>⟨w,r,S,hr,hS,hp.bind hS fun d S1 w1 H1 v x1 q1 s1 p1=>
  ⟨w1,r,S1,hr.ext x1,s1,p1.bind s1 fun l S2 w2 H2 l' x2 q2 s2 p2=>⟨w2,r,S2,(hr.ext x1).ext x2,s2,p2.bind s2 fun u S3 w3 H3 u' x3 q3 s3 p3=>by
   have e1:l'=l:=q2
   have e2:u'=u:=q3
   subst e1 e2
   exact ⟨w3,S3,d,s3,RD.ext x3 _ _ (RD.ext x2 _ _ q1),p3⟩⟩⟩⟩⟩
noncomputable def fSlT:Sto→D→Option Int→Option Int→Option D
 | _,.tup a,lo,hi=>some (.tup (cutD a lo hi))
 | _,.lst a,lo,hi=>some (.lst (cutD a lo hi))
 | _,_,_,_=>none
theorem RDs.cut {K:PySem.W.Frag} {w:Wd} {H:Hp} {ds:List D} {vs:List V} (r:RDs K w H ds vs) (lo hi:Option Int):RDs K w H (cutD ds lo hi) (cutV vs lo hi):=by
 unfold cutD cutV
 rw [r.length]
 exact (r.drop _).take _
theorem xl_tup:SlR X (xL X.K E fSlT):=by
 rintro pins s σ H x v vl vu lo hi sl Q I rx hs pl pu ⟨w,S,d,hS,qd,p⟩
 obtain ⟨z,hz,p'⟩:=p.of
 clear p
 unfold fSlT at hz
 split at hz
 ·rename_i a
  cases hz
  obtain ⟨pa,xs,rfl,za,ra⟩:=qd.tupI
  by_cases hw:HT.sIx xs.length 0 lo=0∧HT.sIx xs.length xs.length hi=xs.length
  ·cases rx
   obtain ⟨its,r,ht,hz⟩:=I.tuple (SqT_of za)
   have hlen:its.toArray.size=xs.length:=by rw [List.size_toArray]; exact r.length.symm
   refine ⟨"tuple",_,PyProof.Rows.slot_tuple_getitem.lookup,ht.typeIs,?_⟩
   refine getItem_tuple_whole ht hs pl pu (by rw [hlen]; exact hw) ⟨.ref pa,H,I,rfl,?_⟩
   have e:cutD a lo hi=a:=by
    unfold cutD
    rw [← ra.length,hw.1,hw.2]
    rw [List.drop_zero,Nat.sub_zero,ra.length,List.take_length]
   rw [e] at p'
   exact p'.ret (sameTup za ra) hS
  ·exact sl_tup pins s σ H _ v vl vu lo hi sl Q I rx hs pl pu ⟨pa,xs,rfl,SqT_of za,hw,fun q hq=>p'.at (Ext.new hq) (RD.newTup hS hq (ra.cut lo hi)) (hS.new hq)⟩
 ·rename_i a
  cases hz
  obtain ⟨pa,xs,rfl,za,ra⟩:=qd.lstI
  exact sl_list pins s σ H _ v vl vu lo hi sl Q I rx hs pl pu ⟨pa,xs,rfl,SqL.of za.1,fun q hq=>p'.at (Ext.new hq) (RD.newLst hS hq (ra.cut lo hi)) (hS.new hq)⟩
 ·cases hz
noncomputable def fLen:Sto→List D→Option D
 | _,[.str x]=>if x.length≤sizeLine then some (.int x.length) else none
 | _,[.dic x]=>some (.int x.length)
 | S,[d]=>match seqOf S d with
  | some a=>some (.int a.length)
  | none=>match d with
   | .ref n=>match S[n]? with
    | some (.dic kvs)=>some (.int kvs.length)
    | _=>none
   | _=>none
 | _,_=>none
theorem RDk.length {K:PySem.W.Frag} {w:Wd} {H:Hp}:∀ {ds:List (Sum Int Str × D)} {vs:List (Key × V)},RDk K w H ds vs→vs.length=ds.length
 | [],_,h=>by unfold RDk at h; rw [h]; rfl
 | (k,d) :: ds,_,h=>by
  unfold RDk at h
  obtain ⟨v,r,rfl,_,q⟩:=h
  simp [RDk.length q]
theorem xc_len:CallR X (.builtin "len") (xC X.K E fLen):=by
 rintro pins s σ H xs us Q I r ⟨w,S,ds,hS,qs,p⟩
 obtain ⟨z,hz,p'⟩:=p.of
 clear p
 unfold fLen at hz
 split at hz
 ·split at hz
  ·cases hz
   obtain ⟨v,rfl,q⟩:=qs.one_inv
   cases q.str
   exact call_len_str pins s σ H _ us Q I r ⟨_,rfl,by assumption,p'.ret RD.mkI hS⟩
  ·cases hz
 ·cases hz
  obtain ⟨v,rfl,q⟩:=qs.one_inv
  unfold RD at q
  obtain ⟨a,uu,rfl,z,rk⟩:=q
  exact call_lenD pins s σ H _ us Q I r ⟨_,_,rfl,z.1,by rw [rk.length]; exact p'.ret RD.mkI hS⟩
 ·obtain ⟨v,rfl,q⟩:=qs.one_inv
  split at hz
  ·rename_i a ha
   cases hz
   obtain ⟨pp,vs,rfl,sq,ra⟩:=seq_ok hS q ha
   exact call_len_seq pins s σ H _ us Q I r ⟨pp,vs,rfl,sq,by rw [ra.length]; exact p'.ret RD.mkI hS⟩
  ·split at hz
   ·split at hz
    ·rename_i n kvs hn
     cases hz
     obtain ⟨pp,rfl,hp⟩:=q.refI
     obtain ⟨p2,hp2,vs,hv,rk⟩:=hS.obj _ _ hn
     rw [hp] at hp2; cases hp2
     exact call_lenD pins s σ H _ us Q I r ⟨_,_,rfl,hv,by rw [rk.length]; exact p'.ret RD.mkI hS⟩
    ·cases hz
   ·cases hz
 ·cases hz
noncomputable def fMax:Sto→List D→Option D
 | _,[.int i,.int j]=>some (.int (if j > i then j else i))
 | _,_=>none
theorem xc_max (hc:X.calm=true):CallR X (.builtin "max") (xC X.K E fMax):=by
 rintro pins s σ H xs us Q I r ⟨w,S,ds,hS,qs,p⟩
 obtain ⟨z,hz,p'⟩:=p.of
 clear p
 unfold fMax at hz
 split at hz
 ·cases hz
  obtain ⟨v,u,rfl,q,q'⟩:=qs.two_inv
  cases q.int
  cases q'.int
  exact call_max2 hc pins s σ H _ us Q I r ⟨_,_,rfl,p'.ret RD.mkI hS⟩
 ·cases hz
noncomputable def fMin:Sto→List D→Option D
 | _,[.int i,.int j]=>some (.int (if j < i then j else i))
 | _,_=>none
theorem xc_min (hc:X.calm=true):CallR X (.builtin "min") (xC X.K E fMin):=by
 rintro pins s σ H xs us Q I r ⟨w,S,ds,hS,qs,p⟩
 obtain ⟨z,hz,p'⟩:=p.of
 clear p
 unfold fMin at hz
 split at hz
 ·cases hz
  obtain ⟨v,u,rfl,q,q'⟩:=qs.two_inv
  cases q.int
  cases q'.int
  exact call_min2 hc pins s σ H _ us Q I r ⟨_,_,rfl,p'.ret RD.mkI hS⟩
 ·cases hz
noncomputable def fDivmod:Sto→List D→Option D
 | _,[.int i,.int j]=>if 0 < j∧j < 1073741824 then some (.tup [.int (i / j),.int (i % j)]) else none
 | _,_=>none
theorem xc_divmod:CallR X (.builtin "divmod") (xC X.K E fDivmod):=by
 rintro pins s σ H xs us Q I r ⟨w,S,ds,hS,qs,p⟩
 obtain ⟨z,hz,p'⟩:=p.of
 clear p
 unfold fDivmod at hz
 split at hz
 ·split at hz
  ·cases hz
   obtain ⟨v,u,rfl,q,q'⟩:=qs.two_inv
   cases q.int
   cases q'.int
   exact call_divmod pins s σ H _ us Q I r ⟨_,_,rfl,by assumption,fun t ht=>p'.at (Ext.new ht) (RD.newTup hS ht (.cons RD.mkI (.cons RD.mkI .nil))) (hS.new ht)⟩
  ·cases hz
 ·cases hz
end
end PD
namespace PD
open PySem PySem.Spec PyProof.Rows L2
section
variable {X:Cx} {E:XK}
noncomputable def boolsOf:List D→Option (List Bool)
 | []=>some []
 | .bl b :: r=>(boolsOf r).map (b :: ·)
 | _ :: _=>none
noncomputable def fAll:Sto→List D→Option D
 | _,[.lst a]=>(boolsOf a).map fun bs=>.bl (bs.all id)
 | _,_=>none
theorem bools_ok {K:PySem.W.Frag} {w:Wd} {H:Hp}:∀ {ds:List D} {vs:List V} {us:List Value} {bs:List Bool},RDs K w H ds vs→Vals vs us→boolsOf ds=some bs→LSm.BoolsAre us bs
 | [],_,_,_,q,r,h=>by
  rw [q.nil_inv] at r
  cases r
  unfold boolsOf at h
  cases h
  exact .nil
 | d :: ds,_,_,bs,q,r,h=>by
  obtain ⟨v,vs,rfl,p,t⟩:=q.cons_inv
  cases d with
  | bl b=>
   unfold boolsOf at h
   cases e:boolsOf ds with
   | none=>rw [e] at h; cases h
   | some cs=>
    rw [e] at h; cases h
    cases p.bl
    cases r with
    | cons r1 r2=>
     cases r1
     exact .cons b (bools_ok t r2 e)
  | _=>unfold boolsOf at h; cases h
theorem xc_all (hc:X.calm=true):CallR X (.builtin "all") (xC X.K E fAll):=by
 rintro pins s σ H xs us Q I r ⟨w,S,ds,hS,qs,p⟩
 obtain ⟨z,hz,p'⟩:=p.of
 clear p
 unfold fAll at hz
 split at hz
 ·rename_i a
  cases e:boolsOf a with
  | none=>rw [e] at hz; cases hz
  | some bs=>
   rw [e] at hz; cases hz
   obtain ⟨v,rfl,q⟩:=qs.one_inv
   obtain ⟨pa,vs,rfl,za,ra⟩:=q.lstI
   obtain ⟨u,rfl,ru⟩:=vals1 r
   cases ru
   obtain ⟨its,r1,⟨o,n,ho,hcl,hdn,hd⟩,_⟩:=I.list (SqL.of za.1)
   have hb:=bools_ok ra r1 e
   have hlt:pa < s.heap.objs.size:=Heap.lt_size ho
   have hl:s.heap.IsList pa its.toArray:=⟨o,ho,hcl,n,hd⟩
   refine call_all_walk (wpAny_pyIter_list hl ?_)
   refine ⟨s.heap.objs.size,[s.heap.objs.size,pa],[s.heap.objs.size],its.toArray.size,_,_,fun i=>(bs[i]?).getD true,rfl,Walks.list (A:=X.A.in1) (I.ok.hd hc) _ pa (Nat.ne_of_lt hlt) its.toArray,
    ⟨⟨_,Heap.get?_push_size _ rfl,rfl,rfl⟩,hl.push _⟩,fun i v s' Q' E' hP hQ=>?_,fun h' tk hk=>?_⟩
   ·obtain ⟨b,e,rfl⟩:=hb.get i v (by simpa using hP)
    simp only [e,Option.getD_some] at hQ
    exact wpAny_truthy_bool hQ
   ·have e:((List.range its.toArray.size).all fun i=>(bs[i]?).getD true)=bs.all id:=by
     rw [List.size_toArray,hb.length]; exact LSm.range_all bs
    rw [e]
    exact ⟨.bl _,H,I.kept (LSm.kept_iter hk),rfl,p'.ret RD.mkB hS⟩
 ·cases hz
noncomputable def tyD (S:Sto):D→Option String
 | .non=>some "NoneType"
 | .bl _=>some "bool"
 | .int _=>some "int"
 | .str _=>some "str"
 | .tup _=>some "tuple"
 | .lst _=>some "list"
 | .fz _=>none
 | .dic _=>some "dict"
 | .ref n=>match S[n]? with
  | some (.lst _)=>some "list"
  | some (.dic _)=>some "dict"
  | _=>none
 | .ty _=>none
 | .exc _=>none
 | .cls _=>none
noncomputable def isiTys:List String:=["int","bool","tuple","str","list","dict"]
noncomputable def fIsi:Sto→List D→Option D
 | S,[d,.ty T]=>match tyD S d with
  | some t=>if T ∈ isiTys then some (.bl (t == T || (t == "bool" && T == "int"))) else none
  | none=>none
 | _,_=>none
theorem kit_ok (K:PySem.W.Frag) {t T:String} (ht:t ∈ ["NoneType","bool","int","str","tuple","list","dict"]) (hT:T ∈ isiTys):PySem.W.kitOne K (.type t) (.type T)=some (t == T || (t == "bool" && T == "int")):=by
 unfold isiTys at hT
 simp only [List.mem_cons,List.not_mem_nil,or_false] at ht hT
 rcases ht with rfl | rfl | rfl | rfl | rfl | rfl | rfl <;> rcases hT with rfl | rfl | rfl | rfl | rfl | rfl <;> first | rfl | (with_unfolding_all rfl) | (unfold PySem.W.kitOne PySem.W.kitCls; with_unfolding_all decide)
theorem tyOf_ok {K:PySem.W.Frag} {w:Wd} {H:Hp} {S:Sto} {d:D} {v:V} {t:String} (hS:RS K w H S) (q:RD K w H d v) (h:tyD S d=some t) (hk:∀ a vs,¬ KTup K a vs ∨ True):
  (L2.TyOf K H v (.type t) ∨ ∃ a vs,v=.ref a∧t = "tuple"∧KTup K a vs)∧t ∈ ["NoneType","bool","int","str","tuple","list","dict"]:=by
 cases d with
 | non=>cases q.non; cases h; exact ⟨.inl .non,by simp⟩
 | bl b=>cases q.bl; cases h; exact ⟨.inl (.bl b),by simp⟩
 | int i=>cases q.int; cases h; exact ⟨.inl (.int i),by simp⟩
 | str x=>cases q.str; cases h; exact ⟨.inl (.str x),by simp⟩
 | tup ds=>
  obtain ⟨p,vs,rfl,z,_⟩:=q.tupI
  cases h
  refine ⟨?_,by simp⟩
  rcases z with z | z
  ·exact .inl (.tup z.1)
  ·exact .inr ⟨p,vs,rfl,rfl,z⟩
 | lst ds=>obtain ⟨p,vs,rfl,z,_⟩:=q.lstI; cases h; exact ⟨.inl (.lst z.1),by simp⟩
 | fz ds=>cases h
 | dic kvs=>unfold RD at q; obtain ⟨p,us,rfl,z,_⟩:=q; cases h; exact ⟨.inl (.dK z.1),by simp⟩
 | ref n=>
  obtain ⟨p,rfl,hp⟩:=q.refI
  unfold tyD at h
  simp only at h
  cases e:S[n]? with
  | none=>rw [e] at h; cases h
  | some o=>
   rw [e] at h
   obtain ⟨p',hp',r⟩:=hS.obj n o e
   rw [hp] at hp'; cases hp'
   cases o with
   | lst a=>cases h; obtain ⟨vs,hv,_⟩:=r; exact ⟨.inl (.lst hv),by simp⟩
   | dic a=>cases h; obtain ⟨vs,hv,_⟩:=r; exact ⟨.inl (.dK hv),by simp⟩
   | fdic a=>cases h
   | ins c fs=>cases h
   | flst a=>cases h
 | ty n=>cases h
 | exc c=>cases h
 | cls c=>cases h
theorem xc_isi:CallR X (.builtin "isinstance") (xC X.K E fIsi):=by
 rintro pins s σ H xs us Q I r ⟨w,S,ds,hS,qs,p⟩
 obtain ⟨z,hz,p'⟩:=p.of
 clear p
 unfold fIsi at hz
 split at hz
 ·rename_i d T
  split at hz
  ·rename_i t ht
   split at hz
   ·rename_i hT
    cases hz
    obtain ⟨v,u,rfl,q,q'⟩:=qs.two_inv
    unfold RD at q'
    subst q'
    obtain ⟨v1,v2,rfl,rv,rt⟩:=vals2 r
    cases (show v2=Value.type T from rt)
    obtain ⟨ty,hm⟩:=tyOf_ok hS q ht fun _ _=>.inr trivial
    have kk:=kit_ok X.K hm hT
    rcases ty with ty | ⟨a,vs,rfl,rfl,kt⟩
    ·exact isinst_ok I rv ty kk fun tk=>⟨.bl _,H,I.tok tk,rfl,p'.ret RD.mkB hS⟩
    ·cases (show v1=Value.ref a from rv)
     obtain ⟨o,its,n,e,hcl,_⟩:=kt
     exact PySem.W.kia_one PySem.W.kitx_tuple I.kIn ⟨o,I.kIn _ _ e,hcl⟩ kk (fun z=>nomatch z) fun tk=>⟨.bl _,H,I.tok tk,rfl,p'.ret RD.mkB hS⟩
   ·cases hz
  ·cases hz
 ·cases hz
noncomputable def fPut:Sto→D→D→D→Option Sto
 | S,.ref n,.int i,v=>match S[n]? with
  | some (.lst a)=>(ixN a.length i).map fun j=>S.set n (.lst (a.set j v))
  | _=>none
 | _,_,_,_=>none
theorem xs_put:PSet X (xS X.K fPut):=by
 rintro pins s σ H o i v ov iv u Q I ro ri ru ⟨w,S,x,y,z,S',hS,qx,qy,qz,hf,k⟩
 unfold fPut at hf
 split at hf
 ·rename_i n j
  split at hf
  ·rename_i a hn
   cases e:ixN a.length j with
   | none=>rw [e] at hf; cases hf
   | some m=>
    rw [e] at hf; cases hf
    obtain ⟨p,rfl,hp⟩:=qx.refI
    cases qy.int
    obtain ⟨p',hp',vs,hv,ra⟩:=hS.obj _ _ hn
    rw [hp] at hp'; cases hp'
    have hm:p ∈ w.st:=List.mem_of_getElem? hp
    refine set_list pins s σ H _ _ _ ov iv u Q I ro ri ru ⟨p,vs,j,m,rfl,rfl,hv,by rw [ra.length]; exact e,k w _ (Ext.mut hm hv) ?_⟩
    exact hS.mut hp hv ⟨_,upd_same,RDs.ext (Ext.mut hm hv) _ _ (RDs.set qz m ra)⟩
  ·cases hf
 ·cases hf
noncomputable def xM (K:PySem.W.Frag) (E:XK) (f:Sto→D→List D→R D):V→List V→Hp→VK→Prop:=fun x xs H Q=>∃ w S d ds,RS K w H S∧RD K w H d x∧RDs K w H ds xs∧Post K E (RD K) w H (f S d ds) Q
noncomputable def isL (S:Sto):D→Bool
 | .lst _=>true
 | .fz _=>true
 | .ref n=>match S[n]? with
  | some (.lst _)=>true
  | _=>false
 | _=>false
theorem isL_ok {K:PySem.W.Frag} {w:Wd} {H:Hp} {S:Sto} {d:D} {v:V} (hS:RS K w H S) (q:RD K w H d v) (h:isL S d=true):tyV K "list" v H:=by
 cases d with
 | lst ds=>obtain ⟨p,vs,rfl,z,_⟩:=q.lstI; exact .inl ⟨rfl,vs,SqL.of z.1⟩
 | fz ds=>obtain ⟨p,vs,rfl,z,_⟩:=q.fzI; exact .inl ⟨rfl,vs,z.sq⟩
 | ref n=>
  obtain ⟨p,rfl,hp⟩:=q.refI
  unfold isL at h
  simp only at h
  cases e:S[n]? with
  | none=>rw [e] at h; cases h
  | some o=>
   rw [e] at h
   cases o with
   | lst a=>
    obtain ⟨p',hp',vs,hv,_⟩:=hS.obj n _ e
    rw [hp] at hp'; cases hp'
    exact .inl ⟨rfl,vs,SqL.of hv⟩
   | _=>cases h
 | _=>cases h
noncomputable def eMtL (f:Sto→D→List D→R D) (o:EM) (t:AM):EM:=fun r S=>(o r S).bind fun x S1=>if isL S1 x=true then (t r S1).bind fun ys S2=>f S2 x ys else .bad
theorem se_mtL {o e:Expr} {es:List Expr} {mo:EM} {ms:AM} {name:Str} {apos cpos:Pos} {id:String} {f:Sto→D→List D→R D} (pa:PlainAttrs "list") (slot:Slot "list" name id) (hty:typeOf (.builtin id)=pure (.type "method_descriptor")) (hm:MtR X id (xM X.K E f))
  (ho:SE X E o mo) (ha:SA X E (e :: es) ms) (hbase:autoParam (attributeBase o name X.env (eval o X.env)=eval o X.env) Au.h0._auto_1)
  (hfew:autoParam (((backTo cpos (starEach (e :: es) X.env)).all (fun x=>!x.1) && (backToKw cpos (keywordEach [] X.env)).all (fun x=>x.1.isSome)
   && decide ((e :: es).length + ([]:List Keyword).length + (if ([]:List Keyword).isEmpty then 0 else 1) < 30))=true) Au.h0._auto_1)
  (hline:autoParam ((apos.endLine == cpos.line)=true) Au.h0._auto_1) (hs:autoParam (starEach (e :: es) X.env=(false,eval e X.env) :: starEach es X.env) Au.h0._auto_1) (hplain:autoParam ((backTo cpos (starEach es X.env)).any (·.1)=false) Au.h0._auto_1):
  SE X E (.Call (.Attribute o name apos) (e :: es) [] cpos) (eMtL f mo ms):=⟨
 pe_weak (pe_bm pa slot hty hm ho.out ha.out hbase hfew hline hs hplain) fun s H Q zq=>ex6 zq fun w r S hr hS hp=>⟨w,r,S,hr,hS,hp.bind hS fun d S1 w1 H1 v x1 q1 s1 p1=>by
  by_cases hl:isL S1 d=true
  ·rw [if_pos hl] at p1
   exact ⟨isL_ok s1 q1 hl,w1,r,S1,hr.ext x1,s1,p1.bind s1 fun ds S2 w2 H2 us x2 q2 s2 p2=>⟨w2,S2,d,ds,s2,RD.ext x2 _ _ q1,q2,p2⟩⟩
  ·rw [if_neg hl] at p1
   exact p1.elim⟩⟩
noncomputable def mAppend:Sto→D→List D→R D
 | S,.ref n,[v]=>match S[n]? with
  | some (.lst a)=>if a.length < sizeLine then .ok .non (S.set n (.lst (a ++ [v]))) else .bad
  | _=>.bad
 | _,_,_=>.bad
theorem xm_append:MtR X "list.append" (xM X.K E mAppend):=by
 rintro pins s σ H x xs v us Q I rx rs ⟨w,S,d,ds,hS,qd,qs,p⟩
 unfold mAppend at p
 split at p
 ·rename_i n y
  split at p
  ·rename_i a hn
   split at p
   ·rename_i hl
    obtain ⟨pp,rfl,hp⟩:=qd.refI
    obtain ⟨yv,rfl,qy⟩:=qs.one_inv
    obtain ⟨p',hp',vs,hv,ra⟩:=hS.obj _ _ hn
    rw [hp] at hp'; cases hp'
    have hm:pp ∈ w.st:=List.mem_of_getElem? hp
    refine mt_append pins s σ H _ _ v us Q I rx rs ⟨pp,vs,yv,rfl,rfl,hv,by rw [ra.length]; exact hl,p.at (Ext.mut hm hv) (by unfold RD; rfl) ?_⟩
    exact hS.mut hp hv ⟨_,upd_same,RDs.ext (Ext.mut hm hv) _ _ (ra.append (.cons qy .nil))⟩
   ·exact p.elim
  ·exact p.elim
 ·exact p.elim
end
end PD
namespace PD
open PySem PySem.Spec PyProof.Rows L2
noncomputable def keyPy:Sum Int Str→PyData
 | .inl i=>.int i
 | .inr x=>.str x
mutual
noncomputable def toPy:D→Option PyData
 | .non=>some .none
 | .bl b=>some (.bool b)
 | .int i=>some (.int i)
 | .str x=>some (.str x)
 | .tup ds=>(toPys ds).map .tuple
 | .lst ds=>(toPys ds).map .list
 | .dic kvs=>(toPyk kvs).map .dict
 | .fz _=>none
 | .ref _=>none
 | .ty _=>none
 | .exc _=>none
 | .cls _=>none
noncomputable def toPys:List D→Option (List PyData)
 | []=>some []
 | d :: ds=>match toPy d,toPys ds with
  | some p,some q=>some (p :: q)
  | _,_=>none
noncomputable def toPyk:List (Sum Int Str × D)→Option (List (PyData × PyData))
 | []=>some []
 | (k,d) :: r=>match toPy d,toPyk r with
  | some p,some q=>some ((keyPy k,p) :: q)
  | _,_=>none
end
mutual
noncomputable def noL:D→Bool
 | .tup ds=>noLs ds
 | .lst _=>false
 | .dic kvs=>noLk kvs
 | _=>true
noncomputable def noLs:List D→Bool
 | []=>true
 | d :: ds=>noL d && noLs ds
noncomputable def noLk:List (Sum Int Str × D)→Bool
 | []=>true
 | (_,d) :: r=>noL d && noLk r
end
section
variable {X:Cx} {E:XK}
mutual
theorem reads_ok {pins:List (Addr × Obj)} {σ:L2.St} {H:Hp} {s:Shared} {w:Wd} (I:Inv X pins σ H s):∀ (d:D) (v:V) (u:Value) (p:PyData),RD X.K w H d v→RelV v u→toPy d=some p→∃ as,Reads s.heap u p as∧(noL d=true→sysModules ∉ as)
 | .non,v,u,p,q,r,h=>by cases q.non; cases (show u=Value.none from r); unfold toPy at h; cases h; exact ⟨_,.none,fun _ z=>nomatch z⟩
 | .bl b,v,u,p,q,r,h=>by cases q.bl; cases (show u=Value.bool b from r); unfold toPy at h; cases h; exact ⟨_,.bool b,fun _ z=>nomatch z⟩
 | .int i,v,u,p,q,r,h=>by cases q.int; obtain ⟨t,rfl⟩:=(show ∃ t,u=Value.int i t from r); unfold toPy at h; cases h; exact ⟨_,.int i t,fun _ z=>nomatch z⟩
 | .str x,v,u,p,q,r,h=>by cases q.str; obtain ⟨t,rfl⟩:=(show ∃ t,u=Value.str x t from r); unfold toPy at h; cases h; exact ⟨_,.str x t,fun _ z=>nomatch z⟩
 | .tup ds,v,u,p,q,r,h=>by
  obtain ⟨a,vs,rfl,z,rs⟩:=q.tupI
  cases (show u=Value.ref a from r)
  unfold toPy at h
  cases e:toPys ds with
  | none=>rw [e] at h; cases h
  | some ps=>
   rw [e] at h; cases h
   obtain ⟨its,r1,⟨o,ho,hc,n,hd⟩,_⟩:=I.tuple (SqT_of z)
   obtain ⟨as,ra,hn⟩:=readss_ok I ds vs its ps rs r1 e
   exact ⟨as,.tuple ho hc hd ra,fun z=>hn (by unfold noL at z; exact z)⟩
 | .lst ds,v,u,p,q,r,h=>by
  obtain ⟨a,vs,rfl,z,rs⟩:=q.lstI
  cases (show u=Value.ref a from r)
  unfold toPy at h
  cases e:toPys ds with
  | none=>rw [e] at h; cases h
  | some ps=>
   rw [e] at h; cases h
   obtain ⟨its,r1,⟨o,n,ho,hc,_,hd⟩,_⟩:=I.list (SqL.of z.1)
   obtain ⟨as,ra,hn⟩:=readss_ok I ds vs its ps rs r1 e
   exact ⟨a :: as,.list ho hc hd ra,fun z=>by unfold noL at z; cases z⟩
 | .dic kvs,v,u,p,q,r,h=>by
  unfold RD at q
  obtain ⟨a,us,rfl,z,rk⟩:=q
  cases (show u=Value.ref a from r)
  unfold toPy at h
  cases e:toPyk kvs with
  | none=>rw [e] at h; cases h
  | some ps=>
   rw [e] at h; cases h
   obtain ⟨_,hsys,vs,kv,o,es,ep,ho,hex,hd,_,hp,_⟩:=(show ObjOk X.prog X.w H s.heap a (.dK us) from I.hok a _ z.1)
   obtain ⟨as,bs,ra,rb,hn⟩:=readsk_ok I kvs us vs es.toList ps rk kv hp e
   refine ⟨a :: as ++ bs,.dict ho hex.1 hd ra rb,fun z=>?_⟩
   unfold noL at z
   intro hm
   rcases List.mem_append.mp hm with hm | hm
   ·rcases List.mem_cons.mp hm with hm | hm
    ·rw [← hm] at hsys; simp at hsys
    ·exact (hn z).1 hm
   ·exact (hn z).2 hm
 | .fz _,_,_,_,_,_,h=>by unfold toPy at h; cases h
 | .ref _,_,_,_,_,_,h=>by unfold toPy at h; cases h
 | .ty _,_,_,_,_,_,h=>by unfold toPy at h; cases h
 | .exc _,_,_,_,_,_,h=>by unfold toPy at h; cases h
 | .cls _,_,_,_,_,_,h=>by unfold toPy at h; cases h
theorem readss_ok {pins:List (Addr × Obj)} {σ:L2.St} {H:Hp} {s:Shared} {w:Wd} (I:Inv X pins σ H s):∀ (ds:List D) (vs:List V) (us:List Value) (ps:List PyData),RDs X.K w H ds vs→Vals vs us→toPys ds=some ps→∃ as,ReadsAll s.heap us ps as∧(noLs ds=true→sysModules ∉ as)
 | [],vs,us,ps,q,r,h=>by
  rw [q.nil_inv] at r
  cases r
  unfold toPys at h
  cases h
  exact ⟨_,.nil,fun _ z=>nomatch z⟩
 | d :: ds,_,us,ps,q,r,h=>by
  obtain ⟨v,vs,rfl,p,t⟩:=q.cons_inv
  unfold toPys at h
  cases e1:toPy d with
  | none=>rw [e1] at h; cases h
  | some p1=>
   cases e2:toPys ds with
   | none=>rw [e1,e2] at h; cases h
   | some p2=>
    rw [e1,e2] at h; cases h
    cases r with
    | cons r1 r2=>
     obtain ⟨as,ra,h1⟩:=reads_ok I d v _ p1 p r1 e1
     obtain ⟨bs,rb,h2⟩:=readss_ok I ds vs _ p2 t r2 e2
     refine ⟨as ++ bs,.cons ra rb,fun z=>?_⟩
     unfold noLs at z
     rw [Bool.and_eq_true] at z
     intro hm
     rcases List.mem_append.mp hm with hm | hm
     ·exact h1 z.1 hm
     ·exact h2 z.2 hm
theorem readsk_ok {pins:List (Addr × Obj)} {σ:L2.St} {H:Hp} {s:Shared} {w:Wd} (I:Inv X pins σ H s):∀ (ds:List (Sum Int Str × D)) (us:List (Key × V)) (vs:List (Key × Value)) (es:List DictEntry) (ps:List (PyData × PyData)),RDk X.K w H ds us→KV us vs→Pairs (mixKind X.prog X.w) es vs→toPyk ds=some ps→
  ∃ as bs,ReadsAll s.heap (es.map (·.key)) (ps.map (·.1)) as∧ReadsAll s.heap (es.map (·.val)) (ps.map (·.2)) bs∧(noLk ds=true→sysModules ∉ as∧sysModules ∉ bs)
 | [],us,vs,es,ps,q,r,hp,h=>by
  unfold RDk at q
  subst q
  cases r
  unfold toPyk at h
  cases h
  cases hp
  exact ⟨_,_,.nil,.nil,fun _=>⟨(fun z=>nomatch z),(fun z=>nomatch z)⟩⟩
 | (k,d) :: ds,us,vs,es,ps,q,r,hp,h=>by
  unfold RDk at q
  obtain ⟨v,ur,rfl,p,t⟩:=q
  unfold toPyk at h
  cases e1:toPy d with
  | none=>rw [e1] at h; cases h
  | some p1=>
   cases e2:toPyk ds with
   | none=>rw [e1,e2] at h; cases h
   | some p2=>
    rw [e1,e2] at h; cases h
    cases r with
    | cons r1 r2=>
     cases hp with
     | cons hk hv hr=>
      rename_i q0 vr e0 es0
      obtain ⟨k',v'⟩:=q0
      obtain ⟨ek,rv⟩:=r1
      have ek':k=k':=ek
      subst ek'
      obtain ⟨as,ra,h1⟩:=reads_ok I d v _ p1 p rv e1
      obtain ⟨as2,bs2,ra2,rb2,h2⟩:=readsk_ok I ds ur vr es0 p2 t r2 hr e2
      have hkey:∃ cs,Reads s.heap e0.key (keyPy k) cs∧cs=[]:=by
       rcases keyIs_shape hk with ⟨i,tk,z1,z2⟩ | ⟨x,tk,z1,z2⟩
       ·have z1':k=Sum.inl i:=z1
        subst z1'
        rw [z2]
        exact ⟨_,.int i tk,rfl⟩
       ·have z1':k=Sum.inr x:=z1
        subst z1'
        rw [z2]
        exact ⟨_,.str x tk,rfl⟩
      obtain ⟨cs,rc,ec⟩:=hkey
      subst ec
      have hv':e0.val=v':=hv
      refine ⟨[] ++ as2,as ++ bs2,.cons rc ra2,.cons (by show Reads s.heap e0.val p1 as; rw [hv']; exact ra) rb2,fun z=>?_⟩
      unfold noLk at z
      rw [Bool.and_eq_true] at z
      refine ⟨by rw [List.nil_append]; exact (h2 z.2).1,fun hm=>?_⟩
      rcases List.mem_append.mp hm with hm | hm
      ·exact h1 z.1 hm
      ·exact (h2 z.2).2 hm
end
end
end PD
namespace PD
open PySem PySem.Spec PyProof.Rows L2
section
variable {K:PySem.W.Frag} {w:Wd} {H:Hp}
structure Mv (w:Wd) (H:Hp) (w2:Wd) (H2:Hp):Prop where
 st:∀ (n:Nat) (a:Addr),w.st[n]?=some a→w2.st[n]?=some a
 at_:∀ a o,At w H a o→At w2 H2 a o
mutual
theorem RD.mv {w2:Wd} {H2:Hp} (x:Mv w H w2 H2):∀ (d:D) (v:V),RD K w H d v→RD K w2 H2 d v
 | .non,_,h=>h
 | .bl _,_,h=>h
 | .int _,_,h=>h
 | .str _,_,h=>h
 | .tup ds,v,h=>by
  unfold RD at h ⊢
  obtain ⟨a,vs,e,p,r⟩:=h
  exact ⟨a,vs,e,p.imp (x.at_ _ _) id,RDs.mv x ds vs r⟩
 | .lst ds,v,h=>by
  unfold RD at h ⊢
  obtain ⟨a,vs,e,p,r⟩:=h
  exact ⟨a,vs,e,x.at_ _ _ p,RDs.mv x ds vs r⟩
 | .fz ds,v,h=>by
  unfold RD at h ⊢
  obtain ⟨a,vs,e,p,r⟩:=h
  exact ⟨a,vs,e,p.imp (fun ⟨o,z⟩=>⟨o,x.at_ _ _ z⟩) id,RDs.mv x ds vs r⟩
 | .dic kvs,v,h=>by
  unfold RD at h ⊢
  obtain ⟨a,us,e,p,r⟩:=h
  exact ⟨a,us,e,x.at_ _ _ p,RDk.mv x kvs us r⟩
 | .ref n,v,h=>by
  unfold RD at h ⊢
  obtain ⟨a,e,p⟩:=h
  exact ⟨a,e,x.st n a p⟩
 | .ty _,_,h=>h
 | .exc c,v,h=>by
  unfold RD at h ⊢
  obtain ⟨a,C,o,e,q,p⟩:=h
  exact ⟨a,C,o,e,q,x.at_ _ _ p⟩
 | .cls _,_,h=>h
theorem RDs.mv {w2:Wd} {H2:Hp} (x:Mv w H w2 H2):∀ (ds:List D) (vs:List V),RDs K w H ds vs→RDs K w2 H2 ds vs
 | [],_,h=>h
 | d :: ds,vs,h=>by
  unfold RDs at h ⊢
  obtain ⟨v,r,e,p,q⟩:=h
  exact ⟨v,r,e,RD.mv x d v p,RDs.mv x ds r q⟩
theorem RDk.mv {w2:Wd} {H2:Hp} (x:Mv w H w2 H2):∀ (ds:List (Sum Int Str × D)) (vs:List (Key × V)),RDk K w H ds vs→RDk K w2 H2 ds vs
 | [],_,h=>h
 | (k,d) :: ds,vs,h=>by
  unfold RDk at h ⊢
  obtain ⟨v,r,e,p,q⟩:=h
  exact ⟨v,r,e,RD.mv x d v p,RDk.mv x ds r q⟩
end
theorem RO.mv {w2:Wd} {H2:Hp} (x:Mv w H w2 H2) {a:Addr} {o:SO} (hk:∀ u,H a=some u→H2 a=some u) (r:RO K w H a o):RO K w2 H2 a o:=by
 cases o with
 | lst ds=>obtain ⟨vs,e,q⟩:=r; exact ⟨vs,hk _ e,RDs.mv x _ _ q⟩
 | dic kvs=>obtain ⟨vs,e,q⟩:=r; exact ⟨vs,hk _ e,RDk.mv x _ _ q⟩
 | fdic kvs=>obtain ⟨o,vs,e,q⟩:=r; exact ⟨o,vs,hk _ e,RDk.mv x _ _ q⟩
 | ins c fs=>obtain ⟨C,dx,us,n,e,q1,q2⟩:=r; exact ⟨C,dx,us,n,hk _ e,q1,RDs.mv x _ _ q2⟩
 | flst ds=>obtain ⟨o,vs,e,q⟩:=r; exact ⟨o,vs,hk _ e,RDs.mv x _ _ q⟩
theorem RSt.mv {w2:Wd} {H2:Hp} {r:Rho} {s:L2.St} (x:Mv w H w2 H2) (h:RSt K w H r s):RSt K w2 H2 r s:=
 ⟨h.1,fun i d e=>let ⟨v,e1,q⟩:=h.2 i d e; ⟨v,e1,RD.mv x d v q⟩⟩
theorem Ext.hide {p:Addr} {o:HO} (hp:H p=none):Ext w H (w.hide p) (upd H p o):=
 ⟨fun a u e _=>by rw [upd_ne (ne_of_none e hp)]; exact e,⟨[],by simp [Wd.hide],fun _ z=>nomatch z⟩,fun a h=>List.mem_cons_of_mem _ h,fun a h=>(List.mem_cons.mp h).elim (fun e=>.inr (e ▸ hp)) .inl,fun a o u e=>by rw [upd_ne (ne_of_none e hp)]; exact e⟩
noncomputable def Wd.unhide (w:Wd) (p:Addr):Wd:=⟨w.st,w.hid.filter fun a=>decide (a ≠ p)⟩
theorem Wd.mem_unhide {p a:Addr} (h:a ∈ (w.unhide p).hid):a ∈ w.hid∧a ≠ p:=⟨(List.mem_filter.mp h).1,of_decide_eq_true (List.mem_filter.mp h).2⟩
theorem Mv.write {p:Addr} {o:HO} (hp:p ∈ w.hid):Mv w H w (upd H p o):=
 ⟨fun _ _ z=>z,fun a u h=>⟨by rw [upd_ne (fun z:a=p=>h.2.2 (z ▸ hp))]; exact h.1,h.2⟩⟩
theorem Mv.unhide {p:Addr}:Mv w H (w.unhide p) H:=
 ⟨fun _ _ z=>z,fun a u h=>⟨h.1,h.2.1,fun z=>h.2.2 (Wd.mem_unhide z).1⟩⟩
theorem RS.hide {p:Addr} {o:HO} {S:Sto} (s:RS K w H S) (hp:H p=none):RS K (w.hide p) (upd H p o) S:=by
 refine ⟨s.nd,s.len,fun n so e=>?_,fun a ha=>?_⟩
 ·obtain ⟨a,ha,r⟩:=s.obj n so e
  exact ⟨a,ha,r.ext (Ext.hide hp) fun u z=>by rw [upd_ne (ne_of_none z hp)]; exact z⟩
 ·rcases List.mem_cons.mp ha with z | z
  ·subst z; exact ⟨s.freshS hp,o,upd_same⟩
  ·obtain ⟨h1,u,e⟩:=s.hid a z
   exact ⟨h1,u,by rw [upd_ne (ne_of_none e hp)]; exact e⟩
theorem RS.write {p:Addr} {o:HO} {S:Sto} (s:RS K w H S) (hp:p ∈ w.hid):RS K w (upd H p o) S:=by
 have np:=(s.hid p hp).1
 refine ⟨s.nd,s.len,fun n so e=>?_,fun a ha=>?_⟩
 ·obtain ⟨a,ha,r⟩:=s.obj n so e
  have:a ≠ p:=fun z=>np (z ▸ List.mem_of_getElem? ha)
  exact ⟨a,ha,r.mv (Mv.write hp) fun u z=>by rw [upd_ne this]; exact z⟩
 ·obtain ⟨h1,u,e⟩:=s.hid a ha
  by_cases z:a=p
  ·subst z; exact ⟨h1,o,upd_same⟩
  ·exact ⟨h1,u,by rw [upd_ne z]; exact e⟩
theorem RS.unhide {p:Addr} {S:Sto} (s:RS K w H S):RS K (w.unhide p) H S:=
 ⟨s.nd,s.len,fun n so e=>by
  obtain ⟨a,ha,r⟩:=s.obj n so e
  exact ⟨a,ha,r.mv Mv.unhide fun u z=>z⟩,fun a ha=>s.hid a (Wd.mem_unhide ha).1⟩
theorem cap_rel {r:Rho} {s:L2.St} (k:Nat) (caps:List Nat) (h:RSt K w H r s):RSt K w H (capOf k caps r) (capSt k caps s):=by
 unfold capOf capSt
 refine ⟨by simp,fun i d e=>?_⟩
 by_cases hi:i < k
 ·rw [List.getElem?_append_left (by simpa using hi),List.getElem?_replicate] at e
  split at e <;> cases e
 ·rw [List.getElem?_append_right (by simpa using hi),List.getElem?_map,List.length_replicate] at e
  rw [List.getElem?_append_right (by simpa using hi),List.getElem?_map,List.length_replicate]
  cases ec:caps[i - k]? with
  | none=>rw [ec] at e; cases e
  | some j=>
   rw [ec] at e
   have e':(r[j]?).join=some d:=Option.some.inj e
   have hj:r[j]?=some (some d):=by
    cases q:r[j]? with
    | none=>rw [q] at e'; cases e'
    | some o=>rw [q] at e'; rw [show o=some d from e']
   obtain ⟨v,ev,rv⟩:=h.2 j d hj
   exact ⟨v,by show some ((s[j]?).join)=some (some v); rw [ev]; rfl,rv⟩
end
noncomputable abbrev SIf (X:Cx) (E:XK) (ifs:List Expr) (m:TM):Prop:=Bx (PIfs X ifs (uT X.K E m))
theorem sif_nil {X:Cx} {E:XK}:SIf X E [] tTrue:=⟨fun pins s σ H Q I zq=>ex6 zq fun w r S hr hS hp=>pifs_nil pins s σ H Q I (hp.ret rfl hS)⟩
theorem sif_one {X:Cx} {E:XK} {c:Expr} {m:TM} (h:ST X E c m):SIf X E [c] m:=⟨pifs_one h.out⟩
theorem se_compQ {qb:Bool} {X:Cx} {E:XK} {elt tg iter:Expr} {ifs:List Expr} {scope:Scope} {pos:Pos} {N:List Str} {k:Nat} {caps:List Nat} {it:AM} {g:G} {mt:TM} {me:EM} (hX:Cd qb X) (hxe:∀ e s,¬ X.xe e s) (C:CompScope X N k caps scope)
  (hi:SIb qb X E tg iter it) (hg:∀ cl s0 H0 ex,Cd qb (cxC X N scope cl s0 H0 ex)→SG (cxC X N scope cl s0 H0 ex) tg g) (ht:∀ cl s0 H0 ex,Cd qb (cxC X N scope cl s0 H0 ex)→SIf (cxC X N scope cl s0 H0 ex) E ifs mt) (he:∀ cl s0 H0 ex,Cd qb (cxC X N scope cl s0 H0 ex)→SE (cxC X N scope cl s0 H0 ex) E elt me)
  (hs:autoParam (∀ x,foldedSetIterable iter X.env x=pure x) Au.h4._auto_1):SE X E (.ListComp elt [⟨tg,iter,ifs,0⟩] scope pos) (eComp it k caps g mt me):=⟨
 pe_weak (pe_compQ hX hxe C hi.out (g:=uG X.K g) (fun cl s0 H0 ex z=>(hg cl s0 H0 ex z).out) (tt:=uT X.K E mt) (fun cl s0 H0 ex z=>(ht cl s0 H0 ex z).out) (te:=uE X.K E me) (fun cl s0 H0 ex z=>(he cl s0 H0 ex z).out) hs) fun s H Q zq=>ex6 zq fun w r S hr hS hp=>⟨w,r,S,hr,hS,hp.bind hS fun ds S1 w1 H1 J x1 q1 s1 p1=>by
  intro p hp
  have hr1:=hr.ext x1
  have pno:p ∉ w1.hid:=(s1.fresh hp).2
  have hz:ds.length≤sizeLine:=by
   rcases Nat.lt_or_ge sizeLine ds.length with z | z
   ·rw [if_neg (by omega)] at p1; exact p1.elim
   ·exact z
  rw [if_pos hz] at p1
  -- the list is made at p,which is hidden
  refine ⟨fun i n s' H'=>n=ds.length - i∧i≤ds.length∧∃ w' r' S' ys vs,Ext w1 H1 w' H'∧p ∈ w'.hid∧RSt X.K w' H' r' s'∧RS X.K w' H' S'∧H' p=some (.lst vs)∧RDs X.K w' H' ys vs∧ys.length≤i∧
    Post X.K E (RD X.K) w1 H1 ((compL g mt me (ds.drop i) r' S').bind fun zs S2=>R.ok (.lst (ys ++ zs)) S2) Q,
   ⟨ds.length,by simp,Nat.zero_le _,w1.hide p,capOf k caps r,S1,[],[],Ext.hide hp,List.mem_cons_self,(cap_rel k caps hr1).ext (Ext.hide hp),s1.hide hp,upd_same,.nil,Nat.le_refl _,p1⟩,?_⟩
  rintro i n s2 H2 ⟨rfl,hi.out,w2,r2,S2,ys,vs,x2,hph,hr2,hS2,hpv,ry,hyl,hp2⟩
  have hpn:p ∉ w2.st:=(hS2.hid p hph).1
  by_cases hlt:i < ds.length
  ·obtain ⟨go,yld⟩:=(q1 i w2 H2 x2).1 hlt
   refine .inr ⟨go,fun s' H'=>∃ w' r' S' ys vs,Ext w1 H1 w' H'∧p ∈ w'.hid∧RSt X.K w' H' r' s'∧RS X.K w' H' S'∧H' p=some (.lst vs)∧RDs X.K w' H' ys vs∧ys.length≤i + 1∧
     Post X.K E (RD X.K) w1 H1 ((compL g mt me (ds.drop (i + 1)) r' S').bind fun zs S2=>R.ok (.lst (ys ++ zs)) S2) Q,
    fun s' H' hN=>⟨ds.length - (i + 1),by omega,rfl,hlt,hN⟩,fun x H3 hy=>?_⟩
   obtain ⟨gr,rd⟩:=yld x H3 hy
   obtain ⟨d,ed,qd⟩:=rd S2 hS2
   obtain ⟨x3,s3⟩:=grown_ok gr hS2
   have hdrop:ds.drop i=d :: ds.drop (i + 1):=by
    rw [List.drop_eq_getElem_cons hlt]
    rw [List.getElem?_eq_getElem hlt] at ed
    cases ed; rfl
   rw [hdrop] at hp2
   have hpv3:H3 p=some (.lst vs):=x3.keep _ _ hpv hpn
   have ry3:=RDs.ext x3 _ _ ry
   have x13:Ext w1 H1 w2 H3:=x2.trans' x3 s1 hS2
   unfold compL at hp2
   cases e:g.put d r2 with
   | none=>rw [e] at hp2; exact hp2.elim
   | some r3=>
    rw [e] at hp2
    refine ⟨w2,r2,d,r3,hr2.ext x3,qd,e,fun s4 hr4=>⟨w2,r3,S2,hr4,s3,?_⟩⟩
    -- hp2:(mt r3 S2).bind .. |>.bind ..
    have hass:∀ {A B C:Type} (r:R A) (f:A→Sto→R B) (h:B→Sto→R C),(r.bind f).bind h=r.bind fun a S=>(f a S).bind h:=fun r f h=>by cases r <;> rfl
    simp only [hass] at hp2
    refine Post.bindAt (rel:=RB) hp2 x13 s1 s3 fun c S5 w5 H5 c' x5 q5 s5 p5=>?_
    have ec:c'=c:=q5
    subst ec
    have x15:Ext w1 H1 w5 H5:=x13.trans' x5 s1 s3
    have hph5:p ∈ w5.hid:=x5.hid p hph
    have hpv5:H5 p=some (.lst vs):=x5.keep _ _ hpv3 hpn
    cases c' with
    | false=>
     refine iteF ⟨w5,r3,S5,ys,vs,x15,hph5,hr4.ext x5,s5,hpv5,RDs.ext x5 _ _ ry3,Nat.le_succ_of_le hyl,p5⟩
    | true=>
     refine iteT ⟨w5,r3,S5,hr4.ext x5,s5,?_⟩
     have p5':Post X.K E (RD X.K) w1 H1 (((me r3 S5).bind fun y S2=>(compL g mt me (ds.drop (i + 1)) r3 S2).bind fun ys S3=>R.ok (y :: ys) S3).bind fun zs S2=>R.ok (D.lst (ys ++ zs)) S2) Q:=p5
     simp only [hass] at p5'
     refine Post.bindAt (rel:=RD X.K) p5' x15 s1 s5 fun y S6 w6 H6 yv x6 q6 s6 p6=>?_
     have x16:Ext w1 H1 w6 H6:=x15.trans' x6 s1 s5
     have hph6:p ∈ w6.hid:=x6.hid p hph5
     have hpn5:p ∉ w5.st:=(s5.hid p hph5).1
     have hpn6:p ∉ w6.st:=(s6.hid p hph6).1
     have hpv6:H6 p=some (.lst vs):=x6.keep _ _ hpv5 hpn5
     have ry6:=RDs.ext x6 _ _ (RDs.ext x5 _ _ ry3)
     refine ⟨vs,hpv6,by rw [ry6.length]; omega,w6,r3,S6,ys ++ [y],vs ++ [yv],⟨fun a o h n=>?_,x16.sub,x16.hid,x16.hnew,fun a o u h=>by have z:=x16.frz a o u h; rw [upd_ne (fun e:a=p=>by rw [e,hpv6] at z; cases z)]; exact z⟩,hph6,(hr4.ext x5).ext x6 |>.mv (Mv.write hph6),s6.write hph6,upd_same,(RDs.mv (Mv.write hph6) _ _ ry6).append (.cons (RD.mv (Mv.write hph6) _ _ q6) .nil),by simp; omega,?_⟩
     ·have:a ≠ p:=ne_of_none h hp
      rw [upd_ne this]; exact x16.keep a o h n
     ·have he2:∀ zs:List D,(ys ++ [y]) ++ zs=ys ++ y :: zs:=fun zs=>by simp
      simp only [he2]
      exact p6
  ·have e:i=ds.length:=by omega
   subst e
   rw [List.drop_length] at hp2
   refine .inl ⟨(q1 _ w2 H2 x2).2 (Nat.le_refl _),?_⟩
   have hp3:Post X.K E (RD X.K) w1 H1 (R.ok (D.lst (ys ++ [])) S2) Q:=hp2
   rw [List.append_nil] at hp3
   refine Post.at hp3 (w1:=w2.unhide p) ⟨x2.keep,x2.sub,fun a h=>List.mem_filter.mpr ⟨x2.hid a h,decide_eq_true fun z=>pno (z ▸ h)⟩,fun a h=>x2.hnew a (Wd.mem_unhide h).1,x2.frz⟩ ?_ hS2.unhide
   unfold RD
   exact ⟨p,vs,rfl,⟨hpv,hpn,fun z=>(Wd.mem_unhide z).2 rfl⟩,RDs.mv Mv.unhide _ _ ry⟩⟩⟩
theorem se_comp {X:Cx} {E:XK} {elt tg iter:Expr} {ifs:List Expr} {scope:Scope} {pos:Pos} {N:List Str} {k:Nat} {caps:List Nat} {it:AM} {g:G} {mt:TM} {me:EM} (hX:X.calm=true) (hxe:∀ e s,¬ X.xe e s) (C:CompScope X N k caps scope)
  (hi:SI X E tg iter it) (hg:∀ cl s0 H0 ex,SG (cxC X N scope cl s0 H0 ex) tg g) (ht:∀ cl s0 H0 ex,SIf (cxC X N scope cl s0 H0 ex) E ifs mt) (he:∀ cl s0 H0 ex,SE (cxC X N scope cl s0 H0 ex) E elt me)
  (hs:autoParam (∀ x,foldedSetIterable iter X.env x=pure x) Au.h4._auto_1):SE X E (.ListComp elt [⟨tg,iter,ifs,0⟩] scope pos) (eComp it k caps g mt me):=se_compQ (qb:=false) (.inl hX) hxe C hi (fun a b c d _=>hg a b c d) (fun a b c d _=>ht a b c d) (fun a b c d _=>he a b c d) hs
end PD
namespace PD
open PySem PySem.Spec PyProof.Rows L2
noncomputable abbrev KD:=Sum Int Str
noncomputable def keyD:D→Option KD
 | .int i=>some (.inl i)
 | .str x=>some (.inr x)
 | _=>none
noncomputable def putD (kvs:List (KD × D)) (k:KD) (d:D):List (KD × D):=
 if kvs.any (fun kv=>decide (kv.1=k)) then kvs.map (fun kv=>if kv.1=k then (kv.1,d) else kv) else kvs ++ [(k,d)]
noncomputable def mergeD (kvs more:List (KD × D)):List (KD × D):=more.foldl (fun acc kv=>putD acc kv.1 kv.2) kvs
noncomputable def keysD:List (D × D)→Option (List (KD × D))
 | []=>some []
 | (k,v) :: r=>match keyD k,keysD r with
  | some k',some r'=>some ((k',v) :: r')
  | _,_=>none
noncomputable def pM:List (EM × EM)→Rho→Sto→R (List (D × D))
 | [],_,S=>.ok [] S
 | (a,b) :: t,r,S=>(a r S).bind fun x S1=>(b r S1).bind fun y S2=>(pM t r S2).bind fun ps S3=>.ok ((x,y) :: ps) S3
noncomputable def eDicN (ms:List (EM × EM)):EM:=fun r S=>(pM ms r S).bind fun ps S1=>match keysD ps with
 | some kvs=>if kvs.length≤15 then .ok (.ref S1.length) (S1 ++ [.dic (mergeD [] kvs)]) else .bad
 | none=>.bad
section
variable {K:PySem.W.Frag} {w:Wd} {H:Hp}
theorem RDk.nil:RDk K w H [] []:=by unfold RDk; rfl
theorem RDk.cons {k:KD} {d:D} {v:V} {ds:List (KD × D)} {vs:List (Key × V)} (r:RD K w H d v) (q:RDk K w H ds vs):RDk K w H ((k,d) :: ds) ((k,v) :: vs):=by unfold RDk; exact ⟨v,vs,rfl,r,q⟩
theorem RDk.nil_inv {vs:List (Key × V)} (h:RDk K w H [] vs):vs=[]:=by unfold RDk at h; exact h
theorem RDk.cons_inv {k:KD} {d:D} {ds:List (KD × D)} {vs:List (Key × V)} (h:RDk K w H ((k,d) :: ds) vs):∃ v r,vs=(k,v) :: r∧RD K w H d v∧RDk K w H ds r:=by unfold RDk at h; exact h
theorem RDk.append:∀ {ds es:List (KD × D)} {vs us:List (Key × V)},RDk K w H ds vs→RDk K w H es us→RDk K w H (ds ++ es) (vs ++ us)
 | [],_,_,_,h,q=>by rw [h.nil_inv]; exact q
 | (_,_) :: _,_,_,_,h,q=>by
  obtain ⟨v,r,rfl,p,t⟩:=h.cons_inv
  exact .cons p (RDk.append t q)
theorem RDk.any:∀ {ds:List (KD × D)} {vs:List (Key × V)} (k:KD),RDk K w H ds vs→(ds.any fun kv=>decide (kv.1=k))=(vs.any fun kv=>decide (kv.1=k))
 | [],_,_,h=>by rw [h.nil_inv]; rfl
 | (_,_) :: _,_,k,h=>by
  obtain ⟨v,r,rfl,p,t⟩:=h.cons_inv
  rw [List.any_cons,List.any_cons,RDk.any k t]
theorem RDk.repl {d:D} {v:V} (r:RD K w H d v):∀ {ds:List (KD × D)} {vs:List (Key × V)} (k:KD),RDk K w H ds vs→RDk K w H (ds.map fun kv=>if kv.1=k then (kv.1,d) else kv) (vs.map fun kv=>if kv.1=k then (kv.1,v) else kv)
 | [],_,_,h=>by rw [h.nil_inv]; exact .nil
 | (j,_) :: _,_,k,h=>by
  obtain ⟨v',r',rfl,p,t⟩:=h.cons_inv
  simp only [List.map_cons]
  by_cases hj:j=k
  ·rw [if_pos hj,if_pos hj]; exact .cons r (RDk.repl r k t)
  ·rw [if_neg hj,if_neg hj]; exact .cons p (RDk.repl r k t)
theorem RDk.put {ds:List (KD × D)} {vs:List (Key × V)} {d:D} {v:V} (q:RDk K w H ds vs) (k:KD) (r:RD K w H d v):RDk K w H (putD ds k d) (putK vs k v):=by
 unfold putD putK
 rw [q.any k]
 split
 ·exact q.repl r k
 ·exact q.append (.cons r .nil)
theorem RDk.merge:∀ {more:List (KD × D)} {mvs:List (Key × V)} {ds:List (KD × D)} {vs:List (Key × V)},RDk K w H more mvs→RDk K w H ds vs→RDk K w H (mergeD ds more) (mergeK vs mvs)
 | [],_,_,_,h,q=>by rw [h.nil_inv]; exact q
 | (k,d) :: r,_,ds,vs,h,q=>by
  obtain ⟨v',r',rfl,p,t⟩:=h.cons_inv
  show RDk K w H (mergeD (putD ds k d) r) (mergeK (putK vs k v') r')
  exact RDk.merge t (q.put k p)
theorem keyD_ok {d:D} {v:V} {k:KD} (q:RD K w H d v) (h:keyD d=some k):v=kV k:=by
 cases d with
 | int i=>cases q.int; cases h; rfl
 | str x=>cases q.str; cases h; rfl
 | _=>cases h
noncomputable def RPs (K:PySem.W.Frag) (w:Wd) (H:Hp):List (D × D)→List (V × V)→Prop
 | [],vs=>vs=[]
 | (a,b) :: r,vs=>∃ x y t,vs=(x,y) :: t∧RD K w H a x∧RD K w H b y∧RPs K w H r t
theorem keysD_ok:∀ {ps:List (D × D)} {vs:List (V × V)} {kvs:List (KD × D)},RPs K w H ps vs→keysD ps=some kvs→∃ us:List (Key × V),vs=us.map (fun kv=>(kV kv.1,kv.2))∧RDk K w H kvs us
 | [],_,_,h,e=>by
  have h':_=[]:=h
  subst h'
  unfold keysD at e
  cases e
  exact ⟨[],rfl,.nil⟩
 | (a,b) :: r,_,kvs,h,e=>by
  obtain ⟨u,v,t,rfl,h1,h2,h3⟩:=h
  unfold keysD at e
  cases e1:keyD a with
  | none=>rw [e1] at e; cases e
  | some k=>
   cases e2:keysD r with
   | none=>rw [e1,e2] at e; cases e
   | some r'=>
    rw [e1,e2] at e; cases e
    obtain ⟨us,rfl,q⟩:=keysD_ok h3 e2
    exact ⟨(k,v) :: us,by rw [keyD_ok h1 e1]; rfl,.cons h2 q⟩
end
section
variable {X:Cx} {E:XK} {pos:Pos}
noncomputable def uPs (K:PySem.W.Frag) (E:XK) (ms:List (EM × EM)):List (TE × TE):=ms.map fun p=>(uE K E p.1,uE K E p.2)
theorem tp_ok {A2 B2:Type} {K:PySem.W.Frag} {rel2:Wd→Hp→A2→B2→Prop} {w0:Wd} {H0:Hp} {S0:Sto} {Q:B2→Hp→Prop} (s0:RS K w0 H0 S0):∀ (ms:List (EM × EM)) {w:Wd} {H:Hp} {S:Sto} {r:Rho} {s:L2.St} {f:List (D × D)→Sto→R A2} {Q':List (V × V)→Hp→Prop},RSt K w H r s→RS K w H S→Ext w0 H0 w H→
  Post K E rel2 w0 H0 ((pM ms r S).bind f) Q→(∀ ps S1 w1 H1 vs,Ext w H w1 H1→RPs K w1 H1 ps vs→RS K w1 H1 S1→Post K E rel2 w0 H0 (f ps S1) Q→Q' vs H1)→tPairs (uPs K E ms) s H Q'
 | [],w,H,S,r,s,f,Q',hr,hS,x,hp,k=>k [] S w H [] (Ext.refl _ _) rfl hS hp
 | (a,b) :: t,w,H,S,r,s,f,Q',hr,hS,x,hp,k=>by
  have hass:∀ {A B C:Type} (r:R A) (f:A→Sto→R B) (h:B→Sto→R C),(r.bind f).bind h=r.bind fun a S=>(f a S).bind h:=fun r f h=>by cases r <;> rfl
  unfold pM at hp
  rw [hass] at hp
  refine ⟨w,r,S,hr,hS,Post.bindAt (rel:=RD K) hp x s0 hS fun d S1 w1 H1 u x1 q1 s1 p1=>?_⟩
  rw [hass] at p1
  have x01:=x.trans' x1 s0 hS
  refine ⟨w1,r,S1,hr.ext x1,s1,Post.bindAt (rel:=RD K) p1 x01 s0 s1 fun e S2 w2 H2 v x2 q2 s2 p2=>?_⟩
  rw [hass] at p2
  have x02:=x01.trans' x2 s0 s1
  exact tp_ok s0 t ((hr.ext x1).ext x2) s2 x02 p2 fun ps S3 w3 H3 vs x3 q3 s3 p3=>
   k ((d,e) :: ps) S3 w3 H3 ((u,v) :: vs) ((x1.trans' x2 hS s1).trans' x3 hS s2) ⟨u,v,vs,rfl,RD.ext x3 _ _ (RD.ext x2 _ _ q1),RD.ext x3 _ _ q2,q3⟩ s3 p3
noncomputable abbrev SPs (X:Cx) (E:XK) (pos:Pos) (keys:List (Option Expr)) (values:List Expr) (ms:List (EM × EM)):Prop:=Bx (PPs X pos keys values (uPs X.K E ms))
theorem sps_nil:SPs X E pos [] [] []:=⟨pps_nil⟩
theorem sps_cons {k v:Expr} {ks:List (Option Expr)} {vs:List Expr} {mk mv:EM} {ms:List (EM × EM)} (hk:SE X E k mk) (hv:SE X E v mv) (hr:SPs X E pos ks vs ms):SPs X E pos (some k :: ks) (v :: vs) ((mk,mv) :: ms):=⟨pps_cons hk.out hv.out hr.out⟩
theorem disp_core {keys:List (Option Expr)} {values:List Expr} {ms:List (EM × EM)} {m:EM} {s:L2.St} {H:Hp} {Q:VK} {fin:List (KD × D)→Sto→R D}
  (hm:∀ r S,m r S=(pM ms r S).bind fun ps S1=>match keysD ps with | some kvs=>if kvs.length≤15 then fin kvs S1 else .bad | none=>.bad)
  (hfin:∀ (kvs:List (KD × D)) (us:List (Key × V)) (w0 w:Wd) (H0 H:Hp) (S0 S:Sto) (p:Addr),H0 p=none→RS X.K w0 H0 S0→RS X.K w H S→Ext w0 H0 w H→p ∈ w.hid→RDk X.K w H (mergeD [] kvs) (mergeK [] us)→Post X.K E (RD X.K) w0 H0 (fin kvs S) Q→Q (.ref p) (upd H p (.dK (mergeK [] us))))
  (h:uE X.K E m s H Q):tDisp (uPs X.K E ms) s H Q:=by
 obtain ⟨w,r,S,hr,hS,hp⟩:=h
 rw [hm] at hp
 intro p hpn
 refine tp_ok hS ms (hr.ext (Ext.hide hpn)) (hS.hide hpn) (Ext.hide hpn) hp fun ps S1 w1 H1 vs x1 q1 s1 p1=>?_
 have hh:p ∈ w1.hid:=x1.hid p List.mem_cons_self
 have hx:Ext w H w1 H1:=(Ext.hide hpn).trans' x1 hS (hS.hide hpn)
 refine ⟨x1.keep p _ upd_same ((hS.hide (o:=HO.dK []) hpn).hid p List.mem_cons_self).1,?_⟩
 cases e:keysD ps with
 | none=>rw [e] at p1; exact p1.elim
 | some kvs=>
  rw [e] at p1
  obtain ⟨us,rfl,rk⟩:=keysD_ok q1 e
  have hl:=rk.length
  by_cases hz:kvs.length≤15
  ·have p2:Post X.K E (RD X.K) w H (if kvs.length≤15 then fin kvs S1 else R.bad) Q:=p1
   rw [if_pos hz] at p2
   exact ⟨us,rfl,by rw [hl]; exact hz,hfin kvs us w w1 H H1 S S1 p hpn hS s1 hx hh (rk.merge .nil) p2⟩
  ·have p2:Post X.K E (RD X.K) w H (if kvs.length≤15 then fin kvs S1 else R.bad) Q:=p1
   rw [if_neg hz] at p2
   exact p2.elim
end
end PD
namespace PD
open PySem PySem.Spec PyProof.Rows L2
noncomputable def ALen (m:AM) (n:Nat):Prop:=∀ r S ds S',m r S=.ok ds S'→ds.length=n
theorem alen_nil:ALen aNil 0:=fun r S ds S' h=>by unfold aNil at h; cases h; rfl
theorem alen_cons {a:EM} {t:AM} {n:Nat} (h:ALen t n):ALen (aCons a t) (n + 1):=fun r S ds S' e=>by
 unfold aCons at e
 cases e1:a r S with
 | bad=>rw [e1] at e; cases e
 | err x S1=>rw [e1] at e; cases e
 | ok d S1=>
  rw [e1] at e
  cases e2:t r S1 with
  | bad=>simp only [R.bind_ok,e2,R.bind_bad] at e; cases e
  | err x S2=>simp only [R.bind_ok,e2,R.bind_err] at e; cases e
  | ok es S2=>
   simp only [R.bind_ok,e2] at e
   cases e
   simp [h r S1 es _ e2]
section
variable {X:Cx} {E:XK}
theorem se_gi {x:Str} {i:Int} {pos:Pos} (hm:∃ t,X.mg x=some (.int i t)) (hg:Gl X x) (hd:autoParam ((x == ("__debug__":Str))=false) Au.h3._auto_1):SE X E (.Name x pos) (eC (.int i)):=by
 obtain ⟨t,e⟩:=hm
 exact se_gint hg e hd
end
section
variable {P:Program} {w:World} {K:PySem.W.Frag} {mg:Str→Option Value} {base:Heap}
end
noncomputable def capsOk (N0 N:List Str) (k:Nat) (scope:Scope):List Nat→Nat→Bool
 | [],_=>true
 | i :: r,t=>(match N0[i]?,N[k + t]? with
  | some x,some y=>x == y && scope.names.lookup x == some .free
  | _,_=>false) && capsOk N0 N k scope r (t + 1)
theorem capsOk_get {N0 N:List Str} {k:Nat} {scope:Scope}:∀ {caps:List Nat} {t0:Nat},capsOk N0 N k scope caps t0=true→∀ (t i:Nat),caps[t]?=some i→∃ x,N0[i]?=some x∧N[k + (t0 + t)]?=some x∧scope.names.lookup x=some .free
 | [],_,_,_,_,h=>by simp at h
 | j :: r,t0,h,t,i,e=>by
  unfold capsOk at h
  rw [Bool.and_eq_true] at h
  cases t with
  | zero=>
   simp at e
   subst e
   have h1:=h.1
   cases e1:N0[j]? with
   | none=>rw [e1] at h1; cases h1
   | some x=>
    cases e2:N[k + t0]? with
    | none=>rw [e1,e2] at h1; cases h1
    | some y=>
     rw [e1,e2] at h1
     simp only [Bool.and_eq_true] at h1
     have hxy:x=y:=eq_of_beq h1.1
     subst hxy
     exact ⟨x,rfl,by simpa using e2,eq_of_beq h1.2⟩
  | succ t=>
   obtain ⟨x,a,b,c⟩:=capsOk_get h.2 t i (by simpa using e)
   exact ⟨x,a,by rw [show t0 + (t + 1)=t0 + 1 + t by omega]; exact b,c⟩
theorem cs_mk {X:Cx} {N:List Str} {k:Nat} {caps:List Nat} {scope:Scope} (h1:scope.kind=.function) (h2:scope.names.all (fun x=>x.2 != .cell)=true) (h3:scope.names.all (fun x=>x.2 != .local || scope.names.lookup x.1 == some .local)=true)
  (h4:scope.names.all (fun x=>x.2 != .free || X.env.kindOf x.1 == some .cell || X.env.kindOf x.1 == some .free)=true) (h5:N.length=k + caps.length) (h6:capsOk X.N N k scope caps 0=true):CompScope X N k caps scope:=by
 refine ⟨h1,fun x hx z=>?_,fun x hx z=>?_,fun x hx z=>?_,h5,fun t i e=>?_⟩
 ·have:=List.all_eq_true.mp h2 x hx
  rw [z] at this; simp at this
 ·have:=List.all_eq_true.mp h3 x hx
  rw [z] at this
  simpa using this
 ·have:=List.all_eq_true.mp h4 x hx
  rw [z] at this
  simpa using this
 ·obtain ⟨x,a,b,c⟩:=capsOk_get h6 t i e
  exact ⟨x,a,by simpa using b,c⟩
theorem law_sp {f:FM} (h:∀ ns:List Int,ns.length≤63→∃ S,f [.fz (ns.map .int)] []=.ok (.bl true) S) (K:PySem.W.Frag) (H:Hp) (a:Addr) (ns:List Int) (hn:ns.length≤63) (ho:Only H) (hs:SqL K H a (ns.map V.int)):
  spM K 1 f [.ref a] H (fun v _=>v=.bl true) fun _ _ _=>False:=by
 obtain ⟨S,e⟩:=h ns hn
 have hfz:FzAt K ⟨[],[]⟩ H a (ns.map V.int):=by
  rcases hs with (hs | ⟨o,hs⟩) | hs
  ·rcases ho a with z | ⟨o,xs,z⟩
   ·rw [z] at hs; cases hs
   ·rw [z] at hs; cases hs
  ·exact .inl ⟨o,hs,(fun z=>nomatch z),(fun z=>nomatch z)⟩
  ·exact .inr hs
 have hints:∀ l:List Int,RDs K ⟨[],[]⟩ H (l.map D.int) (l.map V.int):=fun l=>by
  induction l with
  | nil=>exact .nil
  | cons i l ih=>exact .cons RD.mkI ih
 refine ⟨rfl,⟨[],[]⟩,[],[.fz (ns.map .int)],⟨List.nodup_nil,rfl,fun n o z=>?_,(fun a z=>nomatch z)⟩,.cons (by unfold RD; exact ⟨a,_,rfl,hfz,hints ns⟩) .nil,?_⟩
 ·simp at z
 ·rw [e]
  intro w' H' b x q s
  unfold RD at q
  exact q
end PD
namespace PD
open PySem L2
theorem oMul_i {S:Sto} {i j:Int} (h:smallI i ∨ smallI j):oMul S (.int i) (.int j)=some (.int (i * j)):=if_pos h
end PD
namespace PD
open PySem PyProof.Rows L2
end PD
namespace L2
open PySem PySem.Spec PyProof.Rows
noncomputable def Fly (l:List Env) (H':Hp) (h hs:Heap) (ea:Addr) (cls:Value):Prop:=
 ∃ (B:Heap) (a0:Value),Heap.FlyingW B l ea cls a0 hs∧(∀ b o,h.get? b=some o→b ∉ frs l→∃ o',B.get? b=some o')∧(∀ b u,H' b=some u→∃ o',B.get? b=some o')∧hs.Zat ea
noncomputable def CX1 (P:Program) (w:World):CXT:=fun outer H s E e s'=>
 ∃ ea cls H',e=.ref ea∧s'.os=s.os∧AllBare s'.gens∧Un (frs outer) [] H H' s.heap s'.heap∧HOk P w H' s'.heap∧Fly outer H' s.heap s'.heap ea cls∧E cls none H'
section
variable {P:Program} {w:World} {fs:List Addr} {H H':Hp} {h h1 h2 B:Heap} {l:List Env}
end
section
variable {X:Cx} {pins:List (Addr × Obj)} {σ:St} {H:Hp} {s s':Shared} {E:XK} {e:Value}
end
end L2
namespace PD
open PySem PySem.Spec PyProof.Rows L2
section
variable {X:Cx} {E:XK}
end
section
variable {X:Cx} {E:XK} {x:Str} {a:Expr} {es:List Expr} {ms:AM} {np cpos pos:Pos}
end
section
variable {P:Program} {w:World} {K:PySem.W.Frag} {mg:Str→Option Value} {base:Heap} {N:List Str} {qual:Str} {scope:Scope} {f:Addr} {cdv:Value} {A:Around} {outer:List Env} {s:Shared} {H:Hp} {E:XK}
theorem passes_no {X:Cx}:Passes (CX1 X.prog X.w) X E0:=fun _ _ _ _ _ _ _ zq=>by obtain ⟨_,_,_,_,_,_,_,_,_,z⟩:=zq; exact z.elim
end
noncomputable def spN (K:PySem.W.Frag) (n:Nat) (f:FM):Sp:=fun vs H Q _=>vs.length=n∧∃ w S ds,RS K w H S∧RDs K w H ds vs∧Post K E0 (RD K) w H (f ds S) Q
structure DefN (P:Program) (w:World) (K:PySem.W.Frag) (mg:Str→Option Value) (base:Heap) (x:Str) (k n:Nat) (f:FM):Prop where
 ex:∃ (fa:Addr) (fd:FuncData) (ps:List Str),mg x=some (.ref fa)∧PySem.W.keepIn K (.ref fa)=true∧Binds K fd ps []∧FnOk P w K mg base (CX1 P w) k fa fd ps (spN K n f)
section
variable {X:Cx} {E:XK} {x:Str} {k n:Nat} {f:FM} {a:Expr} {es:List Expr} {ms:AM} {p pos:Pos}
theorem se_fnN (D:DefN X.prog X.w X.K X.mg X.base x k n f) (hr:Room k X.A) (hg:Gl X x) (ha:SA X E0 (a :: es) ms) (hn:ALen ms n) (hdb:autoParam ((x == ("__debug__":Str))=false) Au.h3._auto_1)
  (he:autoParam (starEach (a :: es) X.env=(false,eval a X.env) :: starEach es X.env) Au.h0._auto_1) (hpl:autoParam ((backTo pos (starEach es X.env)).any (·.1)=false) Au.h0._auto_1):
  SE X E0 (.Call (.Name x p) (a :: es) [] pos) (eCall f ms):=by
 obtain ⟨fa,fd,ps,hm,hk,hb,F⟩:=D.ex
 refine ⟨pe_weak (pe_call F hr hg hm hk hb (dvs:=[]) .nil passes_no ha.out hdb he hpl) fun s H Q zq=>?_⟩
 obtain ⟨w,r,S,hr,hS,hp⟩:=zq
 refine ⟨w,r,S,hr,hS,?_⟩
 have hp':Post X.K E0 (RD X.K) w H ((ms r S).bind fun xs S1=>f xs S1) Q:=hp
 cases e:ms r S with
 | bad=>rw [e] at hp'; exact hp'.elim
 | err y S'=>rw [e] at hp'; exact hp'
 | ok ds S'=>
  rw [e] at hp'
  intro w1 H1 vs x1 q1 s1
  rw [List.append_nil]
  exact ⟨by rw [q1.length]; exact hn r S ds S' e,w1,S',ds,s1,q1,Post.ext (r:=f ds S') hp' x1 hS s1⟩
end
section
variable {P:Program} {w:World} {K:PySem.W.Frag} {mg:Str→Option Value} {base:Heap}
theorem fn_okN {x qual:Str} {st:Stmt} {f:Addr} {fd:FuncData} {N ps:List Str} {k:Nat} {m:SM} (F:Fun K x qual st f fd) (S:FnScope N ps (defScope st))
  (hbody:∀ (cdv:Value) (A:Around) (outer:List Env) (s:Shared) (H:Hp) (E:XK),Room k (A.deeper (envOfC qual (defScope st) s.heap.objs.size f cdv))→
   SSs (cxOf (CX1 P w) P w K mg base N qual (defScope st) f cdv A outer s H E).nox E0 (defBody st) m):FnOk P w K mg base (CX1 P w) (k + 1) f fd ps (spN K ps.length (fnM N.length m)):=by
 obtain ⟨oc,od,kV,doc,pm,an,cdv,ct,osl,rfl,lk,hcd⟩:=F.ex
 refine fn_of lk hcd S (fun vs H Q E h=>h.1) fun A outer s H vs Q E hr h=>?_
 obtain ⟨hl,u,T,ds,hT,q,p⟩:=h
 refine ⟨_,(hbody cdv A outer s H E hr).out.nox,u,_,T,start_rel q,hT,?_⟩
 refine Post.bind (rel:=RF K) p hT fun g S1 w1 H1 fv x1 q1 s1 p1=>?_
 cases g with
 | nx r=>obtain ⟨s',rfl,_⟩:=q1; have z:=Post.ret (Q:=Q) (rel:=RD K) (a:=D.non) (b:=V.non) p1 (by unfold RD; rfl) s1; exact z
 | rt d=>obtain ⟨v,rfl,q2⟩:=q1; have z:=Post.ret (Q:=Q) (rel:=RD K) (a:=d) (b:=v) p1 q2 s1; exact z
 | bk r=>exact p1.elim
 | ct r=>exact p1.elim
theorem def_ofN {x:Str} {st:Stmt} {f:Addr} {fd:FuncData} {m:SM} (N ps:List Str) (k k1 n0 n1:Nat) (hk:k1=k + 1) (h0:n0=ps.length) (h1:n1=N.length) (F:Fun K x x st f fd) (hm:mg x=some (.ref f)) (hb:Binds K fd ps []) (S:FnScope N ps (defScope st))
  (hbody:∀ (cdv:Value) (A:Around) (outer:List Env) (s:Shared) (H:Hp) (E:XK),Room k (A.deeper (envOfC x (defScope st) s.heap.objs.size f cdv))→
   SSs (cxOf (CX1 P w) P w K mg base N x (defScope st) f cdv A outer s H E).nox E0 (defBody st) m):DefN P w K mg base x k1 n0 (fnM n1 m):=by
 subst hk h0 h1
 exact ⟨f,fd,ps,hm,F.kp,hb,fn_okN F S hbody⟩
theorem law_ofN {x:Str} {st:Stmt} {f:Addr} {fd:FuncData} {m:SM} (N ps:List Str) (k k1 n0 n1:Nat) (hk:k1=k + 1) (h0:n0=ps.length) (h1:n1=N.length) (F:Fun K x x st f fd) (S:FnScope N ps (defScope st))
  (hbody:∀ (cdv:Value) (A:Around) (outer:List Env) (s:Shared) (H:Hp) (E:XK),Room k (A.deeper (envOfC x (defScope st) s.heap.objs.size f cdv))→
   SSs (cxOf (CX1 P w) P w K mg base N x (defScope st) f cdv A outer s H E).nox E0 (defBody st) m):FnOk P w K mg base (CX1 P w) k1 f fd ps (spN K n0 (fnM n1 m)):=by
 subst hk h0 h1
 exact fn_okN F S hbody
end
end PD
namespace L2
open PySem PySem.Spec PyProof.Rows
section
variable {X:Cx} {pins:List (Addr × Obj)} {σ:St} {H:Hp} {s:Shared}
noncomputable abbrev Cx.with (X:Cx) (p:List (Addr × Obj)) (W:Value→Shared→Prop):Cx:={ X with pn:=p,xe:=W }
end
section
variable {X:Cx} {pins:List (Addr × Obj)} {σ:St} {H H':Hp} {s s':Shared} {B:Heap} {ea:Addr} {cls a0:Value} {h2:Heap}
end
end L2
namespace PD
open PySem PySem.Spec PyProof.Rows L2
section
variable {X:Cx} {E:XK}
end
end PD
namespace L2
open PySem PySem.Spec PyProof.Rows
section
variable {P:Program} {w:World} {K:PySem.W.Frag} {mg:Str→Option Value} {base:Heap}
end
section
variable {X:Cx} {k:Nat} {f:Addr} {fd:FuncData} {ps:List Str} {sp:Sp} {x:Str} {p pos:Pos} {e:Expr} {es:List Expr} {t:TA}
end
end L2
namespace PD
open PySem PySem.Spec PyProof.Rows L2
section
variable {X:Cx} {x:Str} {k n:Nat} {f:FM} {a:Expr} {es:List Expr} {ms:AM} {p pos:Pos}
end
section
variable {P:Program} {w:World} {K:PySem.W.Frag} {mg:Str→Option Value} {base:Heap}
end
end PD
namespace L2
open PySem PySem.Spec PyProof.Rows
section
variable {prog:Program} {w:World} {A:Around} {E:Value→Shared→Prop} {s:Shared} {K:PySem.W.Frag} {ea C:Addr} {ox:Obj} {od:Option Obj}
structure ExK (K:PySem.W.Frag) (C:Addr):Prop where
 ga:PySem.W.findIn K (.ref C) "__getattribute__" = some (some (.builtin "BaseException.__getattribute__"))
 gh:PySem.W.findIn K (.ref C) "__getattr__" = some none
 cl:PySem.W.findIn K (.ref C) "__class__" = some (some (.builtin "object.__class__"))
 bs:PySem.W.mroIn K C (.type "BaseException")=some true
 ob:PySem.W.mroIn K C (.type "object")=some true
 is:(PySem.W.clsIn K C).isSome=true
end
end L2
namespace PD
open PySem PySem.Spec PyProof.Rows L2
structure Cls (K:PySem.W.Frag) (cs ks:List Str) (isa:Str→Str→Bool):Prop where
 gt:PySem.W.specialIn K (.builtin "object.__class__") "__get__" = some (some (.builtin "getset_descriptor.__get__"))
 tk:PySem.W.takesIn K (.builtin "object.__class__")=some true
 ex:∀ c ∈ cs,∃ C,PySem.W.nsIn K mainGlobals c=some (some (.ref C))∧ExK K C∧PySem.W.kitOne K (.ref C) (.type "ValueError")=some true
 isa:∀ c ∈ cs,∀ k ∈ ks,∃ C D,PySem.W.nsIn K mainGlobals c=some (some C)∧PySem.W.nsIn K mainGlobals k=some (some D)∧PySem.W.kitOne K C D=some (isa c k)
section
variable {X:Cx} {E:XK} {cs ks:List Str} {isa:Str→Str→Bool}
end
end PD
namespace PD
open PySem PySem.Spec PyProof.Rows L2
section
variable {X:Cx} {E:XK}
noncomputable def intsOf:List D→Option (List Int)
 | []=>some []
 | .int b :: r=>(intsOf r).map (b :: ·)
 | _ :: _=>none
noncomputable def fSum:Sto→List D→Option D
 | S,[d]=>match seqOf S d with
  | some a=>(intsOf a).map fun ns=>.int ns.sum
  | none=>none
 | _,_=>none
theorem ints_len:∀ {ds:List D} {ns:List Int},intsOf ds=some ns→ns.length=ds.length
 | [],_,h=>by unfold intsOf at h; cases h; rfl
 | d :: ds,ns,h=>by
  cases d with
  | int i=>
   unfold intsOf at h
   cases e:intsOf ds with
   | none=>rw [e] at h; cases h
   | some cs=>rw [e] at h; cases h; simp [ints_len e]
  | _=>unfold intsOf at h; cases h
theorem ints_at {K:PySem.W.Frag} {w:Wd} {H:Hp}:∀ {ds:List D} {vs:List V} {us:List Value} {ns:List Int},RDs K w H ds vs→Vals vs us→intsOf ds=some ns→∀ (i:Nat) (v:Value),us[i]?=some v→∃ t,v=.int ((ns[i]?).getD 0) t
 | [],_,_,_,q,r,h,i,v,e=>by
  rw [q.nil_inv] at r
  cases r
  simp at e
 | d :: ds,_,_,ns,q,r,h,i,v,e=>by
  obtain ⟨y,vs,rfl,p,t⟩:=q.cons_inv
  cases d with
  | int b=>
   unfold intsOf at h
   cases e':intsOf ds with
   | none=>rw [e'] at h; cases h
   | some cs=>
    rw [e'] at h; cases h
    cases p.int
    cases r with
    | cons r1 r2=>
     cases i with
     | zero=>
      obtain ⟨t,rfl⟩:=r1
      simp at e
      exact ⟨t,by simp [e]⟩
     | succ i=>
      have z:=ints_at t r2 e' i v (by simpa using e)
      simpa using z
  | _=>unfold intsOf at h; cases h
theorem preSum_take (ns:List Int):∀ k,k≤ns.length→preSum (fun i=>(ns[i]?).getD 0) k=(ns.take k).sum
 | 0,_=>by simp [preSum]
 | k + 1,h=>by
  have hk:k < ns.length:=h
  show preSum _ k + (ns[k]?).getD 0=_
  rw [preSum_take ns k (Nat.le_of_lt hk),List.take_succ,List.sum_append,List.getElem?_eq_getElem hk]
  simp
theorem xc_sum (hc:X.calm=true):CallR X (.builtin "sum") (xC X.K E fSum):=by
 rintro pins s σ H xs us Q I r ⟨w,S,ds,hS,qs,p⟩
 obtain ⟨z,hz,p'⟩:=p.of
 clear p
 unfold fSum at hz
 split at hz
 ·rename_i d
  cases ea:seqOf S d with
  | none=>rw [ea] at hz; cases hz
  | some a=>
   rw [ea] at hz
   simp only at hz
   cases e:intsOf a with
   | none=>rw [e] at hz; cases hz
   | some ns=>
    rw [e] at hz; cases hz
    obtain ⟨v,rfl,q⟩:=qs.one_inv
    obtain ⟨pa,vs,rfl,sq,ra⟩:=seq_ok hS q ea
    obtain ⟨u,rfl,ru⟩:=vals1 r
    cases ru
    have hlen:=ints_len e
    have fin:∀ n,n=ns.length→preSum (fun i=>(ns[i]?).getD 0) n=ns.sum:=fun n hn=>by rw [hn,preSum_take ns _ (Nat.le_refl _),List.take_length]
    rcases sq with sq | sq
    ·obtain ⟨its,r1,⟨o,n,ho,hcl,hdn,hd⟩,_⟩:=I.list sq
     have hlt:pa < s.heap.objs.size:=Heap.lt_size ho
     have hl:s.heap.IsList pa its.toArray:=⟨o,ho,hcl,n,hd⟩
     refine call_sum_walkG (wpAny_pyIter_list hl ?_)
     refine ⟨s.heap.objs.size,[s.heap.objs.size,pa],[s.heap.objs.size],its.toArray.size,_,_,fun i=>(ns[i]?).getD 0,rfl,Walks.list (A:=X.A.in1) (I.ok.hd hc) _ pa (Nat.ne_of_lt hlt) its.toArray,
      ⟨⟨_,Heap.get?_push_size _ rfl,rfl,rfl⟩,hl.push _⟩,fun b hb=>?_,fun i v hP=>ints_at ra r1 e i v (by simpa using hP),fun h' tk t' hk=>?_⟩
     ·simp only [List.mem_cons,List.not_mem_nil,or_false] at hb
      rw [Heap.size_push]
      rcases hb with rfl | rfl
      ·exact Nat.lt_succ_self _
      ·exact Nat.lt_succ_of_lt hlt
     ·rw [fin _ (by rw [hlen,← ra.length,r1.length]; simp)]
      exact ⟨.int _,H,I.kept (LSm.kept_iter hk),⟨t',rfl⟩,p'.ret RD.mkI hS⟩
    ·obtain ⟨its,r1,⟨o,ho,hcl,n,hd⟩,_⟩:=I.tuple sq
     have hlt:pa < s.heap.objs.size:=Heap.lt_size ho
     have hl:s.heap.IsTuple pa its.toArray:=⟨o,ho,hcl,n,hd⟩
     refine call_sum_walkG (wpAny_pyIter_tuple hl ?_)
     refine ⟨s.heap.objs.size,[s.heap.objs.size,pa],[s.heap.objs.size],its.toArray.size,_,_,fun i=>(ns[i]?).getD 0,rfl,Walks.tuple (A:=X.A.in1) (I.ok.hd hc) _ pa (Nat.ne_of_lt hlt) its.toArray,
      ⟨⟨_,Heap.get?_push_size _ rfl,rfl,rfl⟩,hl.push _⟩,fun b hb=>?_,fun i v hP=>ints_at ra r1 e i v (by simpa using hP),fun h' tk t' hk=>?_⟩
     ·simp only [List.mem_cons,List.not_mem_nil,or_false] at hb
      rw [Heap.size_push]
      rcases hb with rfl | rfl
      ·exact Nat.lt_succ_self _
      ·exact Nat.lt_succ_of_lt hlt
     ·rw [fin _ (by rw [hlen,← ra.length,r1.length]; simp)]
      exact ⟨.int _,H,I.kept (LSm.kept_iter hk),⟨t',rfl⟩,p'.ret RD.mkI hS⟩
 ·cases hz
end
end PD
namespace PD
open PySem PySem.Spec PyProof.Rows L2
section
variable {X:Cx} {E:XK}
end
end PD
namespace PD
open PySem PySem.Spec PyProof.Rows L2
open Classical in
section
variable {X:Cx} {E:XK} {c:Expr} {body:List Stmt} {mt:TM} {m:SM} {pos:Pos}
end
end PD
namespace PD
open PySem PySem.Spec PyProof.Rows L2
section
variable {X:Cx} {E:XK}
noncomputable def eqP (a b:D):Option Bool:=match eqS a b with
 | some c=>some c
 | none=>match toPy a,toPy b with
  | some p,some q=>if SeqAt.shaped p=true∧SeqAt.shaped q=true then some (PyData.eqv p q) else none
  | _,_=>none
noncomputable def oEqP:Sto→D→D→Option D:=fun _ a b=>(eqP a b).map .bl
noncomputable def oNeP:Sto→D→D→Option D:=fun _ a b=>(eqP a b).map fun c=>.bl (!c)
theorem eqP_cases {a b:D} {c:Bool} (h:eqP a b=some c):eqS a b=some c ∨ ∃ p q,toPy a=some p∧toPy b=some q∧SeqAt.shaped p=true∧SeqAt.shaped q=true∧c=PyData.eqv p q:=by
 unfold eqP at h
 split at h
 ·rename_i c' e; cases h; exact .inl e
 ·split at h
  ·rename_i p q e1 e2
   split at h
   ·rename_i hs; cases h; exact .inr ⟨p,q,e1,e2,hs.1,hs.2,rfl⟩
   ·cases h
  ·cases h
theorem xo_eqP {k:Nat} (hr:Room k X.A):OpR X (compareOp .Eq) (xO X.K E oEqP):=by
 rintro pins s σ H x y v u Q I rx ry ⟨w,S,d,e,hS,qd,qe,p⟩
 obtain ⟨z,hz,p⟩:=p.of
 unfold oEqP at hz
 cases h:eqP d e with
 | none=>rw [h] at hz; cases hz
 | some c=>
  rw [h] at hz; cases hz
  rcases eqP_cases h with h | ⟨a,b,e1,e2,s1,s2,rfl⟩
  ·exact xo_eq pins s σ H x y v u Q I rx ry ⟨w,S,d,e,hS,qd,qe,by unfold oEq; rw [h]; exact p⟩
  ·obtain ⟨as,r1,_⟩:=reads_ok I d x v a qd rx e1
   obtain ⟨bs,r2,_⟩:=reads_ok I e y u b qe ry e2
   exact eq_dataH r1 r2 s1 s2 hr.units ⟨.bl _,H,I,rfl,p.ret RD.mkB hS⟩
theorem xo_neP {k:Nat} (hr:Room k X.A):OpR X (compareOp .NotEq) (xO X.K E oNeP):=by
 rintro pins s σ H x y v u Q I rx ry ⟨w,S,d,e,hS,qd,qe,p⟩
 obtain ⟨z,hz,p⟩:=p.of
 unfold oNeP at hz
 cases h:eqP d e with
 | none=>rw [h] at hz; cases hz
 | some c=>
  rw [h] at hz; cases hz
  rcases eqP_cases h with h | ⟨a,b,e1,e2,s1,s2,rfl⟩
  ·exact xo_ne pins s σ H x y v u Q I rx ry ⟨w,S,d,e,hS,qd,qe,by unfold oNe; rw [h]; exact p⟩
  ·obtain ⟨as,r1,_⟩:=reads_ok I d x v a qd rx e1
   obtain ⟨bs,r2,_⟩:=reads_ok I e y u b qe ry e2
   exact ne_dataH r1 r2 s1 s2 hr.units ⟨.bl _,H,I,rfl,p.ret RD.mkB hS⟩
end
end PD
namespace PD
open PySem PySem.Spec PyProof.Rows L2
theorem law_spN {f:FM} (h:∀ ns:List Int,ns.length≤63→∃ S,f [.fz (ns.map .int)] []=.ok (.bl true) S) (K:PySem.W.Frag) (H:Hp) (a:Addr) (ns:List Int) (hn:ns.length≤63) (ho:Only H) (hs:SqL K H a (ns.map V.int)):
  spN K 1 f [.ref a] H (fun v _=>v=.bl true) fun _ _ _=>False:=law_sp h K H a ns hn ho hs
theorem cx1_no {P:Program} {w:World} {l:List Env} {H:Hp} {s s':Shared} {e:Value} (h:CX1 P w l H s (fun _ _ _=>False) e s'):False:=by
 obtain ⟨_,_,_,_,_,_,_,_,_,z⟩:=h
 exact z
end PD
namespace SQ
open PySem PySem.Spec PyProof.Rows
open Sem (wp)
noncomputable def nm:Bool→String
 | true=>"tuple_iterator"
 | false=>"list_iterator"
noncomputable def It (k:Bool) (h:Heap) (it a:Addr) (i:Nat):Prop:=∃ o,h.get? it=some o∧o.cls=.type (nm k)∧o.data=.fields #[.ref a,.int i 0]
section
variable {prog:Program} {w:World} {A:Around} {E:Value→Shared→Prop} {s:Shared}
theorem sb {t b:Addr} {h h':Heap} {o:Obj} (hs:Heap.SameBut t h h') (n:b ≠ t) (e:h.get? b=some o):h'.get? b=some o:=(hs.2 b n).trans e
end
noncomputable abbrev z1 (k:Bool) (h:Heap) (l1:Addr):Heap:=h.push { cls:=.type (nm k),data:=.fields #[.ref l1,.int 0 0] }
noncomputable abbrev z2 (k m:Bool) (h:Heap) (l1 l2:Addr):Heap:=(z1 k h l1).push { cls:=.type (nm m),data:=.fields #[.ref l2,.int 0 0] }
noncomputable abbrev z3 (k m:Bool) (h:Heap) (l1 l2:Addr):Heap:=(z2 k m h l1 l2).push { cls:=.type "tuple",data:=.seq #[.ref h.objs.size,.ref (z1 k h l1).objs.size] }
noncomputable abbrev z4 (k m:Bool) (h:Heap) (l1 l2:Addr):Heap:=(z3 k m h l1 l2).push { cls:=.type "tuple",data:=.seq #[.none,.none] }
noncomputable abbrev z5 (k m:Bool) (h:Heap) (l1 l2:Addr):Heap:=(z4 k m h l1 l2).push { cls:=.type "zip",data:=.fields #[.none,.bool false,.bool false,.ref (z2 k m h l1 l2).objs.size,.ref (z3 k m h l1 l2).objs.size] }
section
variable {prog:Program} {w:World} {A:Around} {E:Value→Shared→Prop} {s:Shared}
end
section
variable {prog:Program} {w:World} {A:Around} {E:Value→Shared→Prop} {s:Shared}
end
end SQ
namespace L2
open PySem PySem.Spec PyProof.Rows
section
variable {X:Cx} {pins:List (Addr × Obj)} {σ:St} {H:Hp} {s:Shared} {h':Heap}
theorem Inv.turnedS {t':Nat} {fp:List Addr} (I:Inv X pins σ H s) (k:∀ b o,b ∉ fp→s.heap.get? b=some o→h'.get? b=some o) (hf:∀ b ∈ fp,FpOk X pins H b):Inv X pins σ H { s with heap:=h',toks:=t' }:=by
 refine I.step (g':=s.gens) (d':=s.drawn) (ch:=fp) (fun b hb=>?_) (fun b o _ _ hc e _=>k b o hc e) (fun b o _ _ hc e _=>⟨o.slots,k b o hc e⟩) (fun _ _ _ _ n=>n)
  (fun b o hc e=>⟨o,k b o hc e⟩) (fun _ _ e=>e) (fun _ _ _ e=>e) (fun b ps e=>⟨#[],by rw [e]; simp⟩) (fun m hm=>?_) (fun b u e=>?_) I.bare
 ·obtain ⟨f0,f1,f2,f3,f4,f5⟩:=hf b hb; exact ⟨f3,f1,f4,f5⟩
 ·obtain ⟨o,es,ep,ho,r⟩:=hm
  exact ⟨o,es,ep,k _ o (fun z=>(hf _ z).2.1 rfl) ho,r⟩
 ·refine (I.hok b u e).stay (fun c v hc q=>k c v (fun z=>?_) q) (fun _ q=>q) fun _ _ q=>q
  have hn:=(hf c z).1
  rcases hc with y | y
  ·rw [y,e] at hn; cases hn
  ·rw [y] at hn; cases hn
theorem Inv.turnedP {t':Nat} {fp:List Addr} {x y:V} {u v:Value} (I:Inv X pins σ H s) (hf:∀ b ∈ fp,FpOk X pins H b) (hlt:∀ b ∈ fp,b < s.heap.objs.size) (rx:RelV x u) (ry:RelV y v)
  (k:∀ b o,b ∉ fp→s.heap.get? b=some o→h'.get? b=some o) (hp:IsPair h' s.heap.objs.size u v):Inv X pins σ (upd H s.heap.objs.size (.tup [x,y])) { s with heap:=h',toks:=t' }:=by
 have I1:Inv X pins σ (upd H s.heap.objs.size (.tup [x,y])) { s with heap:=s.heap.push { cls:=.type "tuple",data:=.seq #[u,v] },toks:=t' }:=
  I.laid (t':=t') (fun b u e=>Heap.get?_push_of_some _ e) (Nat.le_refl _) ⟨by show 2≤sizeLine; decide,[u,v],.cons rx (.cons ry .nil),⟨_,Heap.get?_push_size _ rfl,rfl,_,rfl⟩⟩
 refine Inv.turnedS (s:={ s with heap:=s.heap.push { cls:=.type "tuple",data:=.seq #[u,v] },toks:=t' }) (fp:=fp) (t':=t') (h':=h') I1 (fun b o hb e=>?_) fun b hb=>?_
 ·rcases Heap.get?_push_cases e with ⟨rfl,rfl⟩ | e
  ·exact hp
  ·exact k b o hb e
 ·obtain ⟨f0,f1⟩:=hf b hb
  exact ⟨by rw [upd_ne (Nat.ne_of_lt (hlt b hb))]; exact f0,f1⟩
theorem fp_none {fp:List Addr} (hf:∀ b ∈ fp,FpOk X pins H b) (hlt:∀ b ∈ fp,b < s.heap.objs.size) {o:HO}:∀ b ∈ fp,upd H s.heap.objs.size o b=none:=fun b hb=>by
 rw [upd_ne (Nat.ne_of_lt (hlt b hb))]; exact (hf b hb).1
end
end L2
namespace L2
open PySem PySem.Spec PyProof.Rows
section
variable {X:Cx} {es:List Expr} {n:Nat} {tp:Pos}
end
end L2
namespace PD
open PySem PySem.Spec PyProof.Rows L2
section
variable {X:Cx} {E:XK} {a b:Expr} {pos:Pos}
end
end PD
namespace PD
open PySem PySem.Spec PyProof.Rows L2
end PD
namespace SQ
open PySem PySem.Spec PyProof.Rows
section
variable {prog:Program} {w:World} {A:Around} {E:Value→Shared→Prop} {s:Shared}
end
end SQ
namespace PD
open PySem PySem.Spec PyProof.Rows L2
section
variable {X:Cx} {E:XK}
theorem ints_are {K:PySem.W.Frag} {w:Wd} {H:Hp}:∀ {ds:List D} {vs:List V} {us:List Value} {ns:List Int},RDs K w H ds vs→Vals vs us→intsOf ds=some ns→IntsAre us ns
 | [],_,_,_,q,r,h=>by
  rw [q.nil_inv] at r
  cases r
  unfold intsOf at h
  cases h
  exact .nil
 | d :: ds,_,_,ns,q,r,h=>by
  obtain ⟨y,vs,rfl,p,t⟩:=q.cons_inv
  cases d with
  | int b=>
   unfold intsOf at h
   cases e':intsOf ds with
   | none=>rw [e'] at h; cases h
   | some cs=>
    rw [e'] at h; cases h
    cases p.int
    cases r with
    | cons r1 r2=>
     obtain ⟨t',rfl⟩:=r1
     exact .cons _ _ (ints_are t r2 e')
  | _=>unfold intsOf at h; cases h
end
end PD
namespace PD
open PySem PySem.Spec PyProof.Rows L2
section
variable {X:Cx} {E:XK} {a b:Expr} {es:List Expr} {ms:AM} {x:Str} {p pos:Pos}
noncomputable def toPyS (S:Sto) (d:D):Option PyData:=match d with
 | .ref n=>match S[n]? with
  | some (.lst xs)=>(toPys xs).map .list
  | _=>none
 | d=>toPy d
theorem reads_okS {pins:List (Addr × Obj)} {σ:L2.St} {H:Hp} {s:Shared} {w:Wd} {S:Sto} (I:Inv X pins σ H s) (hS:RS X.K w H S) {d:D} {v:V} {u:Value} {p:PyData} (q:RD X.K w H d v) (r:RelV v u) (h:toPyS S d=some p):∃ as,Reads s.heap u p as:=by
 unfold toPyS at h
 split at h
 ·rename_i n
  split at h
  ·rename_i xs hn
   obtain ⟨pp,rfl,hp⟩:=q.refI
   obtain ⟨p',hp',vs,hv,ra⟩:=hS.obj _ _ hn
   rw [hp] at hp'; cases hp'
   cases (show u=Value.ref pp from r)
   cases e:toPys xs with
   | none=>rw [e] at h; cases h
   | some ps=>
    rw [e] at h; cases h
    obtain ⟨its,r1,⟨o,n,ho,hc,_,hd⟩,_⟩:=I.list (SqL.of hv)
    obtain ⟨as,ra,hn⟩:=readss_ok I xs vs its ps ra r1 e
    exact ⟨pp :: as,.list ho hc hd ra⟩
  ·cases h
 ·obtain ⟨as,ra,_⟩:=reads_ok I _ _ _ _ q r h
  exact ⟨as,ra⟩
noncomputable def eqPS (S:Sto) (a b:D):Option Bool:=match eqP a b with
 | some c=>some c
 | none=>match toPyS S a,toPyS S b with
  | some p,some q=>if SeqAt.shaped p=true∧SeqAt.shaped q=true then some (PyData.eqv p q) else none
  | _,_=>none
noncomputable def oEqS:Sto→D→D→Option D:=fun S a b=>(eqPS S a b).map .bl
theorem eqPS_cases {S:Sto} {a b:D} {c:Bool} (h:eqPS S a b=some c):eqP a b=some c ∨ ∃ p q,toPyS S a=some p∧toPyS S b=some q∧SeqAt.shaped p=true∧SeqAt.shaped q=true∧c=PyData.eqv p q:=by
 unfold eqPS at h
 split at h
 ·rename_i c' e; cases h; exact .inl e
 ·split at h
  ·rename_i p q e1 e2
   split at h
   ·rename_i hs; cases h; exact .inr ⟨p,q,e1,e2,hs.1,hs.2,rfl⟩
   ·cases h
  ·cases h
theorem xo_eqS {k:Nat} (hr:Room k X.A):OpR X (compareOp .Eq) (xO X.K E oEqS):=by
 rintro pins s σ H x y v u Q I rx ry ⟨w,S,d,e,hS,qd,qe,p⟩
 obtain ⟨z,hz,p⟩:=p.of
 unfold oEqS at hz
 cases h:eqPS S d e with
 | none=>rw [h] at hz; cases hz
 | some c=>
  rw [h] at hz; cases hz
  rcases eqPS_cases h with h | ⟨a,b,e1,e2,s1,s2,rfl⟩
  ·exact xo_eqP hr pins s σ H x y v u Q I rx ry ⟨w,S,d,e,hS,qd,qe,by unfold oEqP; rw [h]; exact p⟩
  ·obtain ⟨as,r1⟩:=reads_okS I hS qd rx e1
   obtain ⟨bs,r2⟩:=reads_okS I hS qe ry e2
   exact eq_dataH r1 r2 s1 s2 hr.units ⟨.bl _,H,I,rfl,p.ret RD.mkB hS⟩
end
end PD
namespace PD
open PySem PySem.Spec PyProof.Rows L2
section
variable {M:Model} {A:Around} {E:Value→Shared→Prop} {s:Shared}
end
section
variable {X:Cx} {pins:List (Addr × Obj)} {σ:L2.St} {H:Hp} {s:Shared}
end
end PD
namespace PD
open PySem PySem.Spec PyProof.Rows L2
theorem comp_weak {X:Cx} {E:XK} {k:Nat} {caps:List Nat} {it:AM} {g:G} {mt:TM} {me:EM}:∀ s H Q,uE X.K E (eComp it k caps g mt me) s H Q→tComp (uI X.K E it) k caps (uG X.K g) (uT X.K E mt) (uE X.K E me) s H Q:=
 fun s H Q zq=>ex6 zq fun w r S hr hS hp=>⟨w,r,S,hr,hS,hp.bind hS fun ds S1 w1 H1 J x1 q1 s1 p1=>by
  intro p hp
  have hr1:=hr.ext x1
  have pno:p ∉ w1.hid:=(s1.fresh hp).2
  have hz:ds.length≤sizeLine:=by
   rcases Nat.lt_or_ge sizeLine ds.length with z | z
   ·rw [if_neg (by omega)] at p1; exact p1.elim
   ·exact z
  rw [if_pos hz] at p1
  -- the list is made at p,which is hidden
  refine ⟨fun i n s' H'=>n=ds.length - i∧i≤ds.length∧∃ w' r' S' ys vs,Ext w1 H1 w' H'∧p ∈ w'.hid∧RSt X.K w' H' r' s'∧RS X.K w' H' S'∧H' p=some (.lst vs)∧RDs X.K w' H' ys vs∧ys.length≤i∧
    Post X.K E (RD X.K) w1 H1 ((compL g mt me (ds.drop i) r' S').bind fun zs S2=>R.ok (.lst (ys ++ zs)) S2) Q,
   ⟨ds.length,by simp,Nat.zero_le _,w1.hide p,capOf k caps r,S1,[],[],Ext.hide hp,List.mem_cons_self,(cap_rel k caps hr1).ext (Ext.hide hp),s1.hide hp,upd_same,.nil,Nat.le_refl _,p1⟩,?_⟩
  rintro i n s2 H2 ⟨rfl,hi.out,w2,r2,S2,ys,vs,x2,hph,hr2,hS2,hpv,ry,hyl,hp2⟩
  have hpn:p ∉ w2.st:=(hS2.hid p hph).1
  by_cases hlt:i < ds.length
  ·obtain ⟨go,yld⟩:=(q1 i w2 H2 x2).1 hlt
   refine .inr ⟨go,fun s' H'=>∃ w' r' S' ys vs,Ext w1 H1 w' H'∧p ∈ w'.hid∧RSt X.K w' H' r' s'∧RS X.K w' H' S'∧H' p=some (.lst vs)∧RDs X.K w' H' ys vs∧ys.length≤i + 1∧
     Post X.K E (RD X.K) w1 H1 ((compL g mt me (ds.drop (i + 1)) r' S').bind fun zs S2=>R.ok (.lst (ys ++ zs)) S2) Q,
    fun s' H' hN=>⟨ds.length - (i + 1),by omega,rfl,hlt,hN⟩,fun x H3 hy=>?_⟩
   obtain ⟨gr,rd⟩:=yld x H3 hy
   obtain ⟨d,ed,qd⟩:=rd S2 hS2
   obtain ⟨x3,s3⟩:=grown_ok gr hS2
   have hdrop:ds.drop i=d :: ds.drop (i + 1):=by
    rw [List.drop_eq_getElem_cons hlt]
    rw [List.getElem?_eq_getElem hlt] at ed
    cases ed; rfl
   rw [hdrop] at hp2
   have hpv3:H3 p=some (.lst vs):=x3.keep _ _ hpv hpn
   have ry3:=RDs.ext x3 _ _ ry
   have x13:Ext w1 H1 w2 H3:=x2.trans' x3 s1 hS2
   unfold compL at hp2
   cases e:g.put d r2 with
   | none=>rw [e] at hp2; exact hp2.elim
   | some r3=>
    rw [e] at hp2
    refine ⟨w2,r2,d,r3,hr2.ext x3,qd,e,fun s4 hr4=>⟨w2,r3,S2,hr4,s3,?_⟩⟩
    -- hp2:(mt r3 S2).bind .. |>.bind ..
    have hass:∀ {A B C:Type} (r:R A) (f:A→Sto→R B) (h:B→Sto→R C),(r.bind f).bind h=r.bind fun a S=>(f a S).bind h:=fun r f h=>by cases r <;> rfl
    simp only [hass] at hp2
    refine Post.bindAt (rel:=RB) hp2 x13 s1 s3 fun c S5 w5 H5 c' x5 q5 s5 p5=>?_
    have ec:c'=c:=q5
    subst ec
    have x15:Ext w1 H1 w5 H5:=x13.trans' x5 s1 s3
    have hph5:p ∈ w5.hid:=x5.hid p hph
    have hpv5:H5 p=some (.lst vs):=x5.keep _ _ hpv3 hpn
    cases c' with
    | false=>
     refine iteF ⟨w5,r3,S5,ys,vs,x15,hph5,hr4.ext x5,s5,hpv5,RDs.ext x5 _ _ ry3,Nat.le_succ_of_le hyl,p5⟩
    | true=>
     refine iteT ⟨w5,r3,S5,hr4.ext x5,s5,?_⟩
     have p5':Post X.K E (RD X.K) w1 H1 (((me r3 S5).bind fun y S2=>(compL g mt me (ds.drop (i + 1)) r3 S2).bind fun ys S3=>R.ok (y :: ys) S3).bind fun zs S2=>R.ok (D.lst (ys ++ zs)) S2) Q:=p5
     simp only [hass] at p5'
     refine Post.bindAt (rel:=RD X.K) p5' x15 s1 s5 fun y S6 w6 H6 yv x6 q6 s6 p6=>?_
     have x16:Ext w1 H1 w6 H6:=x15.trans' x6 s1 s5
     have hph6:p ∈ w6.hid:=x6.hid p hph5
     have hpn5:p ∉ w5.st:=(s5.hid p hph5).1
     have hpn6:p ∉ w6.st:=(s6.hid p hph6).1
     have hpv6:H6 p=some (.lst vs):=x6.keep _ _ hpv5 hpn5
     have ry6:=RDs.ext x6 _ _ (RDs.ext x5 _ _ ry3)
     refine ⟨vs,hpv6,by rw [ry6.length]; omega,w6,r3,S6,ys ++ [y],vs ++ [yv],⟨fun a o h n=>?_,x16.sub,x16.hid,x16.hnew,fun a o u h=>by have z:=x16.frz a o u h; rw [upd_ne (fun e:a=p=>by rw [e,hpv6] at z; cases z)]; exact z⟩,hph6,(hr4.ext x5).ext x6 |>.mv (Mv.write hph6),s6.write hph6,upd_same,(RDs.mv (Mv.write hph6) _ _ ry6).append (.cons (RD.mv (Mv.write hph6) _ _ q6) .nil),by simp; omega,?_⟩
     ·have:a ≠ p:=ne_of_none h hp
      rw [upd_ne this]; exact x16.keep a o h n
     ·have he2:∀ zs:List D,(ys ++ [y]) ++ zs=ys ++ y :: zs:=fun zs=>by simp
      simp only [he2]
      exact p6
  ·have e:i=ds.length:=by omega
   subst e
   rw [List.drop_length] at hp2
   refine .inl ⟨(q1 _ w2 H2 x2).2 (Nat.le_refl _),?_⟩
   have hp3:Post X.K E (RD X.K) w1 H1 (R.ok (D.lst (ys ++ [])) S2) Q:=hp2
   rw [List.append_nil] at hp3
   refine Post.at hp3 (w1:=w2.unhide p) ⟨x2.keep,x2.sub,fun a h=>List.mem_filter.mpr ⟨x2.hid a h,decide_eq_true fun z=>pno (z ▸ h)⟩,fun a h=>x2.hnew a (Wd.mem_unhide h).1,x2.frz⟩ ?_ hS2.unhide
   unfold RD
   exact ⟨p,vs,rfl,⟨hpv,hpn,fun z=>(Wd.mem_unhide z).2 rfl⟩,RDs.mv Mv.unhide _ _ ry⟩⟩
theorem ps_setC {X:Cx} {elt tg iter:Expr} {ifs:List Expr} {scope:Scope} {pos pos' spos:Pos} {N:List Str} {i0:Nat} {x0:Str} {k:Nat} {caps:List Nat} {wi:TI} {g:TG} {tt:TT} {te:TE} (hN:X.N.Nodup) (hi0:X.N[i0]?=some x0) (hx0:Loc X.env.scope x0) (hX:X.calm=true) (hxe:∀ e s,¬ X.xe e s) (C:CompScope X N k caps scope)
  (hi:PI X tg iter wi) (hg:∀ cl s0 H0 ex,PG (cxC X N scope cl s0 H0 ex) tg g) (ht:∀ cl s0 H0 ex,PIfs (cxC X N scope cl s0 H0 ex) ifs tt) (he:∀ cl s0 H0 ex,PE (cxC X N scope cl s0 H0 ex) elt te)
  (hs:autoParam (∀ x,foldedSetIterable iter X.env x=pure x) Au.h4._auto_1) (hsw:autoParam (swapsWith (.ListComp elt [⟨tg,iter,ifs,0⟩] scope pos) (some (.Name x0 pos')) spos.line X.env=pure true) Au.h0._auto_1) (hf0:autoParam (X.fn x0=true ∨ X.env.scope.names.lookup x0=some .local) Au.h7._auto_1):PS X (.Assign [.Name x0 pos'] (.ListComp elt [⟨tg,iter,ifs,0⟩] scope pos) spos) (tAsg (tComp wi k caps g tt te) (gName i0)):=by
 intro pins s σ H D I h
 have h:tComp wi k caps g tt te σ H (fun v H1=>D.nx (σ.set i0 (some v)) H1):=h
 have noX:∀ {α:Type} {t:Sem α} {Q':α→Shared→Prop} {s':Shared},wpAny (model X.prog X.w) X.A t Q' X.xe s'→wpAny (model X.prog X.w) X.A t Q' (fun _ _=>False) s':=fun h=>wpAny_mono h (fun _ _ x=>x) fun e s z=>hxe e s z
 obtain ⟨cl,hclos,hcl,hcf⟩:=closure_for (scope:=scope) (env:=X.env) fun x hx hf=>I.ok.has _ (C.free x hx hf)
 rw [exec_Assign_Name_used _ _ _ _ hsw]; refine wpAny_bind (wpAny_standAt (wpAny_bind ?_))
 show wpAny _ X.A (do let _ ← comprehension (.ListComp elt [⟨tg,iter,ifs,0⟩] scope pos) scope X.env _ (newList []) false (eval iter X.env) (some (assign (.Name x0 pos') X.env))) _ _ s
 refine wpAny_bind (wpAny_mono (wpAny_comprehension_free (use:=some (assign (.Name x0 pos') X.env)) (Q:=fun _ s'=>∃ σ' H',Inv X pins σ' H' s'∧D.nx σ' H') (cl:=cl) rfl hs hclos C.kind C.names ?_) (fun _ s' hq=>wpAny_pure (wpAny_pure hq)) fun _ _ e=>e)
 refine thn (hi pins s σ H _ I h) fun v s1 h1=>thn h1 fun itv s2 h2=>?_
 obtain ⟨it,fp,tn,J,H2,e,I2,T,st2,f2,q⟩:=h2
 subst e
 refine wpAny_newList (items:=[]) ?_ (by show 0≤sizeLine; exact Nat.zero_le _)
 have hp:H2 s2.heap.objs.size=none:=I2.hok.fresh (Nat.le_refl _)
 obtain ⟨W,⟨m0,w0⟩,turn⟩:=q _ hp
 have I3:Inv X pins σ (upd H2 s2.heap.objs.size (.lst [])) { s2 with heap:=s2.heap.push { cls:=.type "list",data:=.seq ([]:List Value).toArray } }:=
  I2.laid (t':=s2.toks) (fun b u e=>Heap.get?_push_of_some _ e) (Nat.le_refl _) ⟨Nat.zero_le _,[],0,.nil,Heap.get?_push_size _ rfl⟩
 refine wpAny_newFunctionEnv C.nocell (fun x hx=>nomatch hx) (fun h4 hn4 hs4=>?_) C.kind
 have ltfp:∀ b ∈ fp,b < s2.heap.objs.size:=fun b hb=>by
  obtain ⟨o,ho,_⟩:=T.obj _ _ st2 b hb
  exact Heap.lt_size ho
 have hk4:∀ b o,(s2.heap.push { cls:=.type "list",data:=.seq ([]:List Value).toArray }).get? b=some o→h4.get? b=some o:=fun b o e=>by
  have ne:b ≠ (s2.heap.push { cls:=.type "list",data:=.seq ([]:List Value).toArray }).objs.size:=Nat.ne_of_lt (Heap.lt_size e)
  rw [hs4.2 b ne]
  exact Heap.get?_push_of_some _ e
 have f3:∀ b ∈ fp,FpOk X pins (upd H2 s2.heap.objs.size (.lst [])) b:=fun b hb=>by
  obtain ⟨a1,a2⟩:=f2 b hb
  exact ⟨by rw [upd_ne (Nat.ne_of_lt (ltfp b hb))]; exact a1,a2⟩
 have I4:=comp_start (N:=N) (k:=k) (caps:=caps) (scope:=scope) (cl:=cl) (fp:=fp) (t:=s2.toks + 0) I3 C hcl hcf (fun b hb=>⟨f3 b hb,by rw [show ({ s2 with heap:=s2.heap.push { cls:=.type "list",data:=.seq ([]:List Value).toArray } }:Shared).heap.objs.size=s2.heap.objs.size + 1 from Heap.size_push ..]; exact Nat.lt_succ_of_lt (ltfp b hb)⟩) hn4 hk4
 have tn4:tn 0 h4:=T.keep _ _ _ st2 fun b hb o e=>hk4 b o (Heap.get?_push_of_some _ e)
 have loop:codeAny (model X.prog X.w) X.A (.compLoop (.ListComp elt [⟨tg,iter,ifs,0⟩] scope pos) 0 (.ref it) (.ref s2.heap.objs.size) (compEnvC scope cl ({ s2 with heap:=s2.heap.push { cls:=.type "list",data:=.seq ([]:List Value).toArray } }:Shared).heap.objs.size X.env))
   (compPost (model X.prog X.w) X.A X.xe (some (assign (.Name x0 pos') X.env)) (fun _ s'=>∃ σ' H',Inv X pins σ' H' s'∧D.nx σ' H') (.ref s2.heap.objs.size) ({ s2 with heap:=s2.heap.push { cls:=.type "list",data:=.seq ([]:List Value).toArray } }:Shared).heap.objs.size) { s2 with heap:=h4,toks:=s2.toks + 0 }:=by
  generalize hs3:({ s2 with heap:=s2.heap.push { cls:=.type "list",data:=.seq ([]:List Value).toArray } }:Shared)=s3 at *
  have sz3:s2.heap.objs.size≤s3.heap.objs.size:=by rw [← hs3]; show _≤(s2.heap.push _).objs.size; rw [Heap.size_push]; exact Nat.le_succ _
  have k23:∀ b o,s2.heap.get? b=some o→s3.heap.get? b=some o:=fun b o e=>by rw [← hs3]; exact Heap.get?_push_of_some _ e
  have hos:s3.os=s2.os:=by rw [← hs3]
  have stat:∀ {H':Hp},(∀ b ∈ fp,H' b=none)→∀ b ∈ fp,FpOk (cxC X N scope cl s3 (upd H2 s2.heap.objs.size (.lst [])) fp) pins H' b:=fun {H'} hn b hb=>by
   obtain ⟨a1,a2,a3,a4,a5,a6⟩:=f3 b hb
   refine ⟨hn b hb,Nat.ne_of_lt (Nat.lt_of_lt_of_le (ltfp b hb) sz3),fun z=>?_,.inl hb,fun x c e=>a5 x c (hcl x c e),a6⟩
   rcases List.mem_cons.mp (I2.stkSub b z) with q | q
   ·exact a2 q
   ·exact a3 q
  have I4':Inv (cxC X N scope cl s3 (upd H2 s2.heap.objs.size (.lst [])) fp) pins (capSt k caps σ) (upd H2 s2.heap.objs.size (.lst [])) { s2 with heap:=h4,toks:=s2.toks + 0 }:=by subst hs3; exact I4
  refine compLoop_all (fun n s'=>∃ i σ' H',Inv (cxC X N scope cl s3 (upd H2 s2.heap.objs.size (.lst [])) fp) pins σ' H' s'∧tn i s'.heap∧(∀ b ∈ fp,H' b=none)∧W i n σ' H') ?_ m0 ⟨0,_,_,I4',tn4,fun b hb=>(f3 b hb).1,w0⟩
  rintro n s5 ⟨i,σ5,H5,I5,st5,fr5,w5⟩
  rcases turn i n σ5 H5 w5 with ⟨stop,qn⟩ | ⟨go,Nn,hN,step⟩
  ·refine thn (T.done (cxC X N scope cl s3 (upd H2 s2.heap.objs.size (.lst [])) fp) rfl rfl rfl (.inl hX) i pins s5 σ5 H5 _ I5 (stat fr5) st5 stop) fun r s6 zq=>?_
   obtain ⟨hr,I6⟩:=zq
   subst hr
   obtain ⟨m6,hn6,_⟩:=I6.loc
   have u1:Un (frs X.stack) fp H2 (upd H2 s2.heap.objs.size (.lst [])) s2.heap s3.heap:=Un.laid k23 (Nat.le_refl _) hp
   have u2:Un (frs X.stack) fp H2 H5 s2.heap s6.heap:=u1.trans I6.base
   have neC:∀ b o,s2.heap.get? b=some o→b ≠ s3.heap.objs.size:=fun b o e=>Nat.ne_of_lt (Nat.lt_of_lt_of_le (Heap.lt_size e) sz3)
   have hfree:H5 s3.heap.objs.size=none:=I6.free
   have IX:Inv X pins σ H5 s6:=by
    refine I2.call' (s':=s6) (ch:=fp) (by rw [← hos]; exact I6.os) ⟨fun b o e n hb hx=>?_,fun b o e n hb hx=>?_,u2.free,fun b o e hx=>?_,u2.tups,u2.frzs,u2.tbls⟩ (fun b ob e=>?_) I6.bare fun b hb=>?_
    ·exact u2.keep b o e n hb hx
    ·obtain ⟨sl,e1⟩:=u2.slot b o e n hb hx
     exact ⟨sl,e1⟩
    ·obtain ⟨o',e1⟩:=u2.there b o e hx
     exact ⟨o',e1⟩
    ·exact I6.hok b ob e
    ·obtain ⟨a1,a2,a3,a4,a5,a6⟩:=f2 b hb
     exact ⟨a4,a2,a5,a6⟩
   have lC:∀ b o,s2.heap.get? b=some o→b ≠ s3.heap.objs.size:=neC
   have nL:X.env.locals ≠ s3.heap.objs.size:=Nat.ne_of_lt (Nat.lt_of_lt_of_le I2.lt sz3)
   have nc:∀ x c,X.env.cells.lookup x=some c→c ≠ s3.heap.objs.size:=fun x c e=>by
    obtain ⟨v,o,ho,_⟩:=I2.cell x c e
    exact neC c o ho
   show wpAny _ X.A (assign (.Name x0 pos') X.env (.ref s2.heap.objs.size)) _ _ _
   refine wpAny_assign_Name (store_ok2 IX hN hi0 hx0 (v:=.ref s2.heap.objs.size) rfl (fun s8 I8 ⟨a,sa,ha⟩=>⟨m6,hn6.sameBut sa ?_,fun h9 hs9=>⟨_,H5,?_,qn⟩⟩) hf0)
   ·rcases ha with ha | ha
    ·rw [ha]; exact Ne.symm nL
    ·exact Ne.symm (nc _ _ ha)
   ·exact I8.turned (t':=s8.toks) (it:=s3.heap.objs.size) (fun b o n e=>(hs9.2 b n).trans e) hfree (Ne.symm nL) (.inr (Nat.le_trans I2.sz sz3)) nc fun p hp=>neC p.1 p.2 (I2.pin p hp).1
  ·refine thn (T.item (cxC X N scope cl s3 (upd H2 s2.heap.objs.size (.lst [])) fp) rfl rfl rfl (.inl hX) i pins s5 σ5 H5 _ I5 (stat fr5) st5 go) fun r s6 zq=>?_
   obtain ⟨u,hr,h6⟩:=zq
   subst hr
   refine thn h6 fun _ s7 zq=>?_
   obtain ⟨x,H7,I7,r7,y7,st7,fr7⟩:=zq
   have I7':=I7.pinned (stat fr7) (T.obj _ _ st7)
   refine noX (thn (hg cl s3 _ fp _ s7 σ5 H7 x u _ I7' r7 (step x H7 y7)) fun _ s8 zq=>?_)
   obtain ⟨σ8,H8,I8,q8⟩:=zq
   refine noX (thn (ht cl s3 _ fp _ s8 σ8 H8 _ I8 q8) fun ok s9 zq=>?_)
   obtain ⟨H9,I9,q9⟩:=zq
   have again:∀ {s':Shared} {σ':L2.St} {H':Hp},Inv (cxC X N scope cl s3 (upd H2 s2.heap.objs.size (.lst [])) fp) (pins ++ pinsAt fp s7.heap) σ' H' s'→Nn σ' H'→
     ∃ m,m < n∧∃ i σ' H',Inv (cxC X N scope cl s3 (upd H2 s2.heap.objs.size (.lst [])) fp) pins σ' H' s'∧tn i s'.heap∧(∀ b ∈ fp,H' b=none)∧W i m σ' H':=fun {s' σ' H'} I' n'=>by
    obtain ⟨m',hm,w'⟩:=hN σ' H' n'
    refine ⟨m',hm,i + 1,σ',H',I'.unpinned,T.keep _ _ _ st7 fun b hb o e=>(I'.pin (b,o) (List.mem_append_right _ (List.mem_append_right _ (mem_pinsAt hb e)))).1,fun b hb=>?_,w'⟩
    obtain ⟨o,e,d⟩:=T.obj _ _ st7 b hb
    exact (I'.pin (b,o) (List.mem_append_right _ (List.mem_append_right _ (mem_pinsAt hb e)))).2.1
   cases ok with
   | false=>exact again I9 q9
   | true=>
    refine noX (thn (he cl s3 _ fp _ s9 σ8 H9 _ I9 q9) fun y s10 zq=>?_)
    obtain ⟨yv,H10,I10,r10,ys,hys,hlt,q10⟩:=zq
    refine noX (thn (mt_append (X:=cxC X N scope cl s3 (upd H2 s2.heap.objs.size (.lst [])) fp) _ s10 σ8 H10 (.ref s2.heap.objs.size) [yv] _ [y] (fun _ H'=>Nn σ8 H') I10 rfl (.cons r10 .nil) ⟨_,ys,yv,rfl,rfl,hys,hlt,q10⟩) fun _ s11 zq=>?_)
    obtain ⟨_,H11,I11,_,q11⟩:=zq
    exact again I11 q11
 exact codeAny_compStart_list loop (T.self X.A 0 _ _ _ tn4 loop)
theorem ss_setC {X:Cx} {E:XK} {elt tg iter:Expr} {ifs:List Expr} {scope:Scope} {pos pos' spos:Pos} {N:List Str} {k i0:Nat} {x0:Str} {caps:List Nat} {it:AM} {g:G} {mt:TM} {me:EM} (hN:X.N.Nodup) (hi0:X.N[i0]?=some x0) (hx0:Loc X.env.scope x0) (hX:X.calm=true) (hxe:∀ e s,¬ X.xe e s) (C:CompScope X N k caps scope)
  (hi:SI X E tg iter it) (hg:∀ cl s0 H0 ex,SG (cxC X N scope cl s0 H0 ex) tg g) (ht:∀ cl s0 H0 ex,SIf (cxC X N scope cl s0 H0 ex) E ifs mt) (he:∀ cl s0 H0 ex,SE (cxC X N scope cl s0 H0 ex) E elt me)
  (hs:autoParam (∀ x,foldedSetIterable iter X.env x=pure x) Au.h4._auto_1) (hsw:autoParam (swapsWith (.ListComp elt [⟨tg,iter,ifs,0⟩] scope pos) (some (.Name x0 pos')) spos.line X.env=pure true) Au.h0._auto_1) (hf0:autoParam (X.fn x0=true ∨ X.env.scope.names.lookup x0=some .local) Au.h7._auto_1):
  SS X E (.Assign [.Name x0 pos'] (.ListComp elt [⟨tg,iter,ifs,0⟩] scope pos) spos) (sSet i0 (eComp it k caps g mt me)):=⟨
 ps_weak (ps_setC hN hi0 hx0 hX hxe C hi.out (g:=uG X.K g) (fun cl s0 H0 ex=>(hg cl s0 H0 ex).out) (tt:=uT X.K E mt) (fun cl s0 H0 ex=>(ht cl s0 H0 ex).out) (te:=uE X.K E me) (fun cl s0 H0 ex=>(he cl s0 H0 ex).out) hs hsw hf0) fun D s H zq=>ex6 zq fun w r S hr hS hp=>
  comp_weak s H _ ⟨w,r,S,hr,hS,hp.bind hS fun d S1 w1 H1 v x1 q1 s1 p1=>Post.ret (b:=FV.nx (s.set i0 (some v))) p1 ⟨_,rfl,(hr.ext x1).set i0 q1⟩ s1⟩⟩
end PD
namespace PD
open PySem PySem.Spec PyProof.Rows L2
noncomputable def dicOf (S:Sto):D→Option (List (KD × D))
 | .dic kvs=>some kvs
 | .ref n=>match S[n]? with
  | some (.dic kvs)=>some kvs
  | some (.fdic kvs)=>some kvs
  | _=>none
 | _=>none
noncomputable def getK (kvs:List (KD × D)) (k:KD):Option D:=(kvs.find? fun kv=>decide (kv.1=k)).map (·.2)
section
variable {K:PySem.W.Frag} {w:Wd} {H:Hp} {S:Sto}
theorem dic_at {d:D} {v:V} {kvs:List (KD × D)} (hS:RS K w H S) (q:RD K w H d v) (h:dicOf S d=some kvs):∃ p us,v=.ref p∧Rd H p (.dK us)∧RDk K w H kvs us:=by
 unfold dicOf at h
 split at h
 ·cases h
  unfold RD at q
  obtain ⟨p,us,rfl,z,r⟩:=q
  exact ⟨p,us,rfl,.inl z.1,r⟩
 ·rename_i n
  obtain ⟨p,rfl,hp⟩:=q.refI
  split at h
  ·rename_i e; cases h
   obtain ⟨p',hp',us,hv,r⟩:=hS.obj _ _ e
   rw [hp] at hp'; cases hp'
   exact ⟨p,us,rfl,.inl hv,r⟩
  ·rename_i e; cases h
   obtain ⟨p',hp',o,us,hv,r⟩:=hS.obj _ _ e
   rw [hp] at hp'; cases hp'
   exact ⟨p,us,rfl,.inr ⟨o,hv⟩,r⟩
  ·cases h
 ·cases h
theorem RDk.get (k:KD):∀ {ds:List (KD × D)} {us:List (Key × V)},RDk K w H ds us→(∀ d,getK ds k=some d→∃ v,valV us k=some v∧RD K w H d v)∧(getK ds k=none→valV us k=none)
 | [],us,q=>by
  rw [q.nil_inv]
  exact ⟨fun d h=>(by cases h),fun _=>rfl⟩
 | (j,d) :: ds,_,q=>by
  obtain ⟨v,r,rfl,p,t⟩:=q.cons_inv
  by_cases hj:j=k
  ·have e1:getK ((j,d) :: ds) k=some d:=by unfold getK; rw [List.find?_cons]; simp [hj]
   have e2:valV ((j,v) :: r) k=some v:=by unfold valV; rw [List.find?_cons]; simp [hj]
   rw [e1,e2]
   exact ⟨fun d' h=>by cases h; exact ⟨v,rfl,p⟩,fun h=>by cases h⟩
  ·have e1:getK ((j,d) :: ds) k=getK ds k:=by unfold getK; rw [List.find?_cons]; simp [hj]
   have e2:valV ((j,v) :: r) k=valV r k:=by unfold valV; rw [List.find?_cons]; simp [hj]
   rw [e1,e2]
   exact RDk.get k t
theorem RDk.getO {ds:List (KD × D)} {us:List (Key × V)} (q:RDk K w H ds us) (k:KD):(valV us k).isSome=(getK ds k).isSome:=by
 obtain ⟨h1,h2⟩:=q.get k
 cases e:getK ds k with
 | none=>rw [h2 e]; rfl
 | some d=>obtain ⟨v,hv,_⟩:=h1 d e; rw [hv]; rfl
end
section
variable {X:Cx} {E:XK}
theorem xo_or {f:Value→Value→Sem Value} {o o1 o2:Sto→D→D→Option D} (h1:OpR X f (xO X.K E o1)) (h2:OpR X f (xO X.K E o2)) (h:∀ S x y,o S x y=o1 S x y ∨ o S x y=o2 S x y):OpR X f (xO X.K E o):=by
 rintro pins s σ H x y v u Q I rx ry ⟨w,S,d,e,hS,qd,qe,p⟩
 rcases h S d e with z | z
 ·exact h1 pins s σ H x y v u Q I rx ry ⟨w,S,d,e,hS,qd,qe,z ▸ p⟩
 ·exact h2 pins s σ H x y v u Q I rx ry ⟨w,S,d,e,hS,qd,qe,z ▸ p⟩
theorem xi_or {o o1 o2:Sto→D→D→Option D} (h1:IxR X (xO X.K E o1)) (h2:IxR X (xO X.K E o2)) (h:∀ S x y,o S x y=o1 S x y ∨ o S x y=o2 S x y):IxR X (xO X.K E o):=by
 rintro va sl pins s σ H x y v u Q I rx ry ⟨w,S,d,e,hS,qd,qe,p⟩ hsub
 rcases h S d e with z | z
 ·exact h1 va sl pins s σ H x y v u Q I rx ry ⟨w,S,d,e,hS,qd,qe,z ▸ p⟩ hsub
 ·exact h2 va sl pins s σ H x y v u Q I rx ry ⟨w,S,d,e,hS,qd,qe,z ▸ p⟩ hsub
theorem Room.hu {k:Nat} {A:Around} (r:Room k A):A.units + 1 < cLine:=by have:=r.un; omega
noncomputable def oInK (neg:Bool):Sto→D→D→Option D:=fun S x y=>match dicOf S y,keyD x with
 | some kvs,some k=>some (.bl (if neg then !(getK kvs k).isSome else (getK kvs k).isSome))
 | _,_=>none
noncomputable def oInD (neg:Bool):Sto→D→D→Option D:=fun S x y=>if (seqOf S y).isSome then oIn neg S x y else oInK neg S x y
theorem xo_inK {k:Nat} (hr:Room k X.A):OpR X (compareOp .In) (xO X.K E (oInK false)):=by
 rintro pins s σ H x y v u Q I rx ry ⟨w,S,d,e,hS,qd,qe,p⟩
 obtain ⟨z,hz,p⟩:=p.of
 unfold oInK at hz
 split at hz
 ·rename_i kvs k e1 e2
  cases hz
  obtain ⟨pp,us,rfl,rd,rk⟩:=dic_at hS qe e1
  cases ry
  have ex:=keyD_ok qd e2
  subst ex
  refine d_in (Room.hu hr) I (.inl ⟨us,k,rd,rfl,rfl⟩) rx fun s' I'=>⟨.bl _,H,I',rfl,?_⟩
  rw [rk.getO k]
  exact p.ret RD.mkB hS
 ·cases hz
theorem xo_inD {k:Nat} (hr:Room k X.A):OpR X (compareOp .In) (xO X.K E (oInD false)):=xo_or xo_in (xo_inK hr) fun S x y=>by
 unfold oInD
 cases (seqOf S y).isSome with
 | true=>exact .inl rfl
 | false=>exact .inr rfl
noncomputable def oGet:Sto→D→D→Option D:=fun S x y=>match dicOf S x,keyD y with
 | some kvs,some k=>getK kvs k
 | _,_=>none
noncomputable def oIxD:Sto→D→D→Option D:=fun S x y=>if (seqOf S x).isSome then oIx S x y else oGet S x y
theorem xi_get {k:Nat} (hr:Room k X.A):IxR X (xO X.K E oGet):=by
 rintro va sl pins s σ H x y v u Q I rx ry ⟨w,S,d,e,hS,qd,qe,p⟩ hsub
 obtain ⟨z,hz,p⟩:=p.of
 unfold oGet at hz
 split at hz
 ·rename_i kvs k e1 e2
  obtain ⟨pp,us,rfl,rd,rk⟩:=dic_at hS qd e1
  cases rx
  have ey:=keyD_ok qe e2
  subst ey
  obtain ⟨vv,hv,rv⟩:=(rk.get k).1 z hz
  have g:DGet H pp (kV k) (some vv):=.inl ⟨us,k,rd,rfl,hv.symm⟩
  have hT:=dict_typeIs I g
  have h2:wpAny (model X.prog X.w) X.A (getItem (.ref pp) u) (EP X pins σ Q) X.xe s:=d_getItem (Room.hu hr) I g ry fun w' s' I' r'=>⟨vv,H,I',r',p.ret rv hS⟩
  unfold subscriptTail; refine wpAny_bind ?_; rw [getitemInPython_of_ne hT.not_modules]; refine wpAny_bind (wpAny_specialOf hT PySem.F.slot_dict_getitem.lookup ?_)
  have fin:wpAny (model X.prog X.w) X.A (subscripted sl false (.ref pp) u) (fun r s₃=>wpAny (model X.prog X.w) X.A (letTemporaryGo va (.ref pp) r >>= fun _=>pure r) (EP X pins σ Q) X.xe s₃) X.xe s:=by
   rw [hsub]; exact wpAny_operating (wpAny_mono h2 (fun r s₃ h₃=>wpAny_bind (wpAny_letTemporaryGo (wpAny_pure h₃))) fun _ _ x=>x)
  first | exact wpAny_pure (wpAny_bind fin) | exact wpAny_bind (wpAny_pure (wpAny_bind fin)) | exact wpAny_bind fin
 ·cases hz
theorem xi_ixD {k:Nat} (hr:Room k X.A):IxR X (xO X.K E oIxD):=xi_or xi_ix (xi_get hr) fun S x y=>by
 unfold oIxD
 cases (seqOf S x).isSome with
 | true=>exact .inl rfl
 | false=>exact .inr rfl
noncomputable def fPutK:Sto→D→D→D→Option Sto
 | S,.ref n,y,v=>match S[n]? with
  | some (.dic kvs)=>match keyD y with
   | some k=>if kvs.length < sizeLine then some (S.set n (.dic (putD kvs k v))) else none
   | none=>none
  | _=>none
 | _,_,_,_=>none
noncomputable def isDic (S:Sto):D→Bool
 | .ref n=>match S[n]? with
  | some (.dic _)=>true
  | _=>false
 | _=>false
noncomputable def fPutD:Sto→D→D→D→Option Sto:=fun S x y v=>if isDic S x then fPutK S x y v else fPut S x y v
theorem xs_putK {k:Nat} (hr:Room k X.A):PSet X (xS X.K fPutK):=by
 rintro pins s σ H o i v ov iv u Q I ro ri ru ⟨w,S,x,y,z,S',hS,qx,qy,qz,hf,kk⟩
 unfold fPutK at hf
 split at hf
 ·rename_i n
  split at hf
  ·rename_i kvs hn
   split at hf
   ·rename_i ky hk
    split at hf
    ·rename_i hl
     cases hf
     obtain ⟨pp,rfl,hp⟩:=qx.refI
     cases ro
     obtain ⟨p',hp',us,hv,rk⟩:=hS.obj _ _ hn
     rw [hp] at hp'; cases hp'
     have ey:=keyD_ok qy hk
     subst ey
     have hm:pp ∈ w.st:=List.mem_of_getElem? hp
     have hul:us.length < sizeLine:=by rw [rk.length]; exact hl
     refine d_setItem (Room.hu hr) I (DPut.k hv hul) ri ru fun s' I'=>⟨_,I',kk w _ (Ext.mut hm hv) (hS.mut hp hv ⟨_,upd_same,?_⟩)⟩
     exact RDk.ext (Ext.mut hm hv) _ _ (rk.put ky qz)
    ·cases hf
   ·cases hf
  ·cases hf
 ·cases hf
theorem xs_or {f f1 f2:Sto→D→D→D→Option Sto} (h1:PSet X (xS X.K f1)) (h2:PSet X (xS X.K f2)) (h:∀ S x y v,f S x y v=f1 S x y v ∨ f S x y v=f2 S x y v):PSet X (xS X.K f):=by
 rintro pins s σ H o i v ov iv u Q I ro ri ru ⟨w,S,x,y,z,S',hS,qx,qy,qz,hf,kk⟩
 rcases h S x y z with e | e
 ·exact h1 pins s σ H o i v ov iv u Q I ro ri ru ⟨w,S,x,y,z,S',hS,qx,qy,qz,e ▸ hf,kk⟩
 ·exact h2 pins s σ H o i v ov iv u Q I ro ri ru ⟨w,S,x,y,z,S',hS,qx,qy,qz,e ▸ hf,kk⟩
theorem xs_putD {k:Nat} (hr:Room k X.A):PSet X (xS X.K fPutD):=xs_or (xs_putK hr) xs_put fun S x y v=>by
 unfold fPutD
 cases isDic S x with
 | true=>exact .inl rfl
 | false=>exact .inr rfl
noncomputable def eGet2 (o a b:EM):EM:=fun r S=>(o r S).bind fun d S1=>if (dicOf S1 d).isSome=true then (a r S1).bind fun y S2=>(b r S2).bind fun z S3=>(match dicOf S3 d,keyD y with
  | some kvs,some k=>R.ok ((getK kvs k).getD z) S3
  | _,_=>R.bad) else R.bad
theorem m2_mk {o e f:Expr} {m:Str} {apos cpos:Pos} (h1:attributeBase o m X.env (eval o X.env)=eval o X.env) (h2:((backTo cpos (starEach [e,f] X.env)).all (fun x=>!x.1) && (backToKw cpos (keywordEach [] X.env)).all (fun x=>x.1.isSome)
  && decide (([e,f]:List Expr).length + ([]:List Keyword).length + (if ([]:List Keyword).isEmpty then 0 else 1) < 30))=true) (h3:(apos.endLine == cpos.line)=true) (h4:backTo cpos (starEach [e,f] X.env)=[(false,eval e X.env),(false,eval f X.env)]):M2 X o m apos e f cpos:=⟨h1,h2,h3,h4⟩
theorem se_get2 {o e f:Expr} {mo ma mb:EM} {apos cpos:Pos} {k:Nat} (hr:Room k X.A) (ho:SE X E o mo) (ha:SE X E e ma) (hb:SE X E f mb) (m:M2 X o "get" apos e f cpos):SE X E (.Call (.Attribute o "get" apos) [e,f] [] cpos) (eGet2 mo ma mb):=⟨
 pe_weak (pe_dget2 (Room.hu hr) ho.out ha.out hb.out m) fun s H Q zq=>ex6 zq fun w r S hrr hS hp=>⟨w,r,S,hrr,hS,hp.bind hS fun d S1 w1 H1 v x1 q1 s1 p1=>by
  cases hd:dicOf S1 d with
  | none=>rw [hd] at p1; exact p1.elim
  | some kvs=>
   rw [hd] at p1
   obtain ⟨pp,us,rfl,rd,rk⟩:=dic_at s1 q1 hd
   refine ⟨pp,rfl,.inl ⟨us,rd⟩,w1,r,S1,hrr.ext x1,s1,Post.bind (rel:=RD X.K) p1 s1 fun y S2 w2 H2 vy x2 q2 s2 p2=>⟨w2,r,S2,(hrr.ext x1).ext x2,s2,Post.bind (rel:=RD X.K) p2 s2 fun z S3 w3 H3 vz x3 q3 s3 p3=>?_⟩⟩
   have q1':=RD.ext x3 _ _ (RD.ext x2 _ _ q1)
   have q2':=RD.ext x3 _ _ q2
   cases hd3:dicOf S3 d with
   | none=>rw [hd3] at p3; exact p3.elim
   | some kvs3=>
    cases hk:keyD y with
    | none=>rw [hd3,hk] at p3; exact p3.elim
    | some ky=>
     rw [hd3,hk] at p3
     obtain ⟨pp3,us3,e3,rd3,rk3⟩:=dic_at s3 q1' hd3
     cases e3
     have ey:=keyD_ok q2' hk
     subst ey
     refine ⟨valV us3 ky,.inl ⟨us3,ky,rd3,rfl,rfl⟩,?_⟩
     obtain ⟨g1,g2⟩:=rk3.get ky
     have p4:Post X.K E (RD X.K) w3 H3 (R.ok ((getK kvs3 ky).getD z) S3) Q:=p3
     cases hg:getK kvs3 ky with
     | none=>rw [hg] at p4; rw [g2 hg]; exact Post.ret p4 q3 s3
     | some dd=>rw [hg] at p4; obtain ⟨vd,hv,rv⟩:=g1 dd hg; rw [hv]; exact Post.ret p4 rv s3⟩⟩
end
end PD
namespace L2
open PySem PySem.Spec PyProof.Rows
theorem kV_of_is {P:Program} {w:World} {k:Key} {u:Value} (h:(mixKind P w).is k u=true):RelV (kV k) u:=by
 rw [mixKind_is] at h
 cases k with
 | inl i=>obtain ⟨t,e⟩:=Value.isInt_shape (k:=i) (v:=u) h; exact ⟨t,e⟩
 | inr x=>obtain ⟨t,e⟩:=Value.isStrOf_shape (x:=x) (v:=u) h; exact ⟨t,e⟩
theorem KV.getI {kvs:List (Key × V)} {vs:List (Key × Value)} (r:KV kvs vs) {i:Nat} {k:Key} {x:V} (h:kvs[i]?=some (k,x)):∃ v,vs[i]?=some (k,v)∧RelV x v:=by
 unfold KV at r
 induction r generalizing i with
 | nil=>simp at h
 | cons hd tl ih=>
  cases i with
  | zero=>
   simp at h
   rename_i p q _ _
   obtain ⟨e,rv⟩:=hd
   subst h
   exact ⟨q.2,by simp; exact Prod.ext e.symm rfl,rv⟩
  | succ i=>simpa using ih (by simpa using h)
noncomputable def Iti (a:Addr) (o:Obj) (us:List (Key × V)):It:=
  ⟨fun i H=>H a=some (.frz o (.dK us))∧∃ kv,us[i]?=some kv,
   fun i H v H'=>∃ p k x,v=.ref p∧H p=none∧H'=upd H p (.tup [kV k,x])∧us[i]?=some (k,x),
   fun i H=>H a=some (.frz o (.dK us))∧us.length≤i⟩
theorem frz_at {X:Cx} {pins:List (Addr × Obj)} {σ:St} {H:Hp} {s:Shared} {a:Addr} {o:Obj} {us:List (Key × V)} {es:Array DictEntry} {ep:Nat} (I:Inv X pins σ H s) (h:H a=some (.frz o (.dK us))) (ed:o.data=.dict es ep):
  ∃ vs,KV us vs∧s.heap.DictAt (mixKind X.prog X.w) a vs ep∧(a == sysModules)=false:=by
 obtain ⟨e,z,hd,vs,rel,⟨o',es',ep',ho,hx,hdat,k1,k2,k3⟩⟩:s.heap.get? a=some o∧ObjOk X.prog X.w H s.heap a (.dK us):=I.hok a _ h
 rw [e] at ho; cases ho
 rw [ed] at hdat; cases hdat
 exact ⟨vs,rel,⟨o,es,e,hx,ed,k1,k2,k3⟩,hd⟩
theorem entry_itemit:entryFor table "dict_itemiterator.__iter__" = some Builtin.«dict_keyiterator.__iter__»:=
 entryFor_alias (id':="dict_keyiterator.__iter__") (by kernel_rfl) (by first | rfl | decide +kernel | (unfold String.splitOn; simp +decide [String.splitOnAux])) (by decide +kernel) (by kernel_rfl)
theorem iter_itemit {prog:Program} {w:World} {A:Around} {E:Value→Shared→Prop} {s:Shared} {it d:Addr} {i n ep:Nat} {ok ov:Value} {Q:Value→Shared→Prop} (hz:IsItemIter s.heap it d i n ep ok ov) (h:Q (.ref it) s):wpAny (model prog w) A (pyIter (.ref it)) Q E s:=by
 have hT:s.TypeIs (.ref it) "dict_itemiterator":=⟨_,hz,rfl⟩
 refine wpAny_pyIter_slot hT F.slot_dict_itemiterator_iter (wpAny_call_entry F.slot_dict_itemiterator_iter hT entry_itemit ?_ (F.args_dict_itemiterator_iter_1 _))
 show wpAny _ _ (ret (.ref it)) _ _ s
 exact wpAny_pure ⟨_,rfl,"dict_itemiterator",_,hT,F.slot_dict_itemiterator_next.lookup,h⟩
theorem turn_items {P:Program} {w:World} {K:PySem.W.Frag} {es:List Expr} {n:Nat} {pos:Pos} (it a:Addr) (o:Obj) (us:List (Key × V)) (ee:Array DictEntry) (ep:Nat) (ed:o.data=.dict ee ep) (na:a ≠ it):
  Turn false P w K (.Tuple es n pos) (Iti a o us) [it] it (fun i h=>∃ ok ov,IsItemIter h it a i us.length ep ok ov) where
 mem:=by simp
 obj:=fun i h ⟨ok,ov,st⟩ c hc=>by
  simp only [List.mem_cons,List.not_mem_nil,or_false] at hc
  subst hc
  exact ⟨_,st,fun v z=>by cases z⟩
 keep:=fun i h h' ⟨ok,ov,st⟩ q=>⟨ok,ov,q it (by simp) _ st⟩
 item:=by
  intro X hP hw hK hc i pins s σ H E I hf ⟨ok,ov,st⟩ hg
  subst hP hw hK
  obtain ⟨ha,⟨k,x⟩,hx⟩:=hg
  obtain ⟨vs,rel,dd,_⟩:=frz_at I ha ed
  obtain ⟨v,hv,rv⟩:=rel.getI hx
  have hl:=rel.length
  rw [hl] at st
  have hlt:∀ c ∈ [it],c < s.heap.objs.size:=fun c hc=>by
   simp only [List.mem_cons,List.not_mem_nil,or_false] at hc
   subst hc
   exact Heap.lt_size st
  refine wpAny_pyNext_items_item st dd hv fun key h' hk a1 a2 a3 a4=>⟨_,rfl,?_⟩
  refine wpAny_letOwnedTupleGo_items (s:={ s with heap:=h' }) a1 fun h2' hz' hs'=>?_
  have up:∀ c ob,c ≠ it→h'.get? c=some ob→h2'.get? c=some ob:=fun c ob n q=>SQ.sb hs' n q
  refine ⟨.ref s.heap.objs.size,_,I.turnedP (t':=s.toks) (h':=h2') hf hlt (kV_of_is hk) rv (fun c ob hc q=>up c ob (fun r=>hc (by simp [r])) (a4 c ob (fun r=>hc (by simp [r])) q)) (up _ _ (Nat.ne_of_gt (Heap.lt_size st)) a2),rfl,
   ⟨_,k,x,rfl,I.fresh,rfl,hx⟩,⟨_,_,by rw [hl]; exact hz'⟩,fp_none hf hlt⟩
 done:=by
  intro X hP hw hK hc i pins s σ H E I hf ⟨ok,ov,st⟩ hg
  subst hP hw hK
  obtain ⟨ha,hx⟩:=hg
  obtain ⟨vs,rel,dd,_⟩:=frz_at I ha ed
  have hl:=rel.length
  rw [hl] at st
  exact wpAny_pyNext_items_end (I.ok.hd hc.cm) st dd (by simp; omega) fun h' eb=>⟨rfl,I.turnedS (t':=s.toks) (fun b ob hb q=>eb b ob (fun r=>hb (by simp [r])) q) hf⟩
 self:=fun _ _ _ _ _ ⟨_,_,st⟩ h=>iter_itemit st h
theorem Inv.freeze {X:Cx} {pins:List (Addr × Obj)} {σ:St} {H:Hp} {s:Shared} {a:Addr} {us:List (Key × V)} (I:Inv X pins σ H s) (h:H a=some (.dK us)):∃ o,Inv X pins σ (upd H a (.frz o (.dK us))) s:=by
 obtain ⟨z,hd,vs,rel,⟨o,es,ep,ho,r⟩⟩:ObjOk X.prog X.w H s.heap a (.dK us):=I.hok a _ h
 have I2:Inv X pins σ (upd H a (.frz o (.dK us))) { s with heap:=s.heap,toks:=s.toks }:=I.write (x:=a) (e:=a) (by rw [h]; exact True.intro) (.inl rfl) (fun b u _ q=>q) ⟨o,ho⟩ ⟨ho,z,hd,vs,rel,⟨o,es,ep,ho,r⟩⟩
 exact ⟨o,I2⟩
noncomputable def iItems (td:TE):TI:=fun σ H R=>td σ H fun x H1=>∃ a us,x=.ref a∧((H1 a=some (.dK us)∧∀ o,R (Iti a o us) (upd H1 a (.frz o (.dK us)))) ∨ ∃ o,H1 a=some (.frz o (.dK us))∧R (Iti a o us) H1)
theorem pi_items {X:Cx} {es:List Expr} {n:Nat} {tp:Pos} {d:Expr} {td:TE} {apos pos:Pos} (hd:PE X d td) (hbase:autoParam (attributeBase d "items" X.env (eval d X.env)=eval d X.env) Au.h0._auto_1) (hline:autoParam ((apos.endLine == pos.line)=true) Au.h0._auto_1)
  (hfew:autoParam (((backTo pos (starEach [] X.env)).all (fun x=>!x.1) && (backToKw pos (keywordEach [] X.env)).all (fun x=>x.1.isSome) && decide (([]:List Expr).length + ([]:List Keyword).length + (if ([]:List Keyword).isEmpty then 0 else 1) < 30))=true) Au.h0._auto_1):
  PI X (.Tuple es n tp) (.Call (.Attribute d "items" apos) [] [] pos) (iItems td):=by
 intro pins s σ H R I h
 refine wpAny_Call_method (T:="dict") (id:="dict.items") hbase hfew hline F.plainAttrs_dict F.slot_dict_items F.type_dict_items (thn (hd pins s σ H _ I h) fun u s1 zq=>?_)
 obtain ⟨x,H1,I1,rx,a,us,ex,q1⟩:=zq
 subst ex
 obtain rfl:u=Value.ref a:=rx
 have main:∀ (H2:Hp) (o:Obj),Inv X pins σ H2 s1→H2 a=some (.frz o (.dK us))→R (Iti a o us) H2→s1.TypeIs (.ref a) "dict"∧(∀ b,Value.ref a=.ref b→∃ ob,s1.heap.get? b=some ob∧ob.dict=none)∧
   wpAny (model X.prog X.w) X.A (callWith pos (.builtin "dict.items") [.ref a] (backTo pos (starEach [] X.env)) []) (fun v s2=>wpAny (model X.prog X.w) X.A (pyIter v) (PIE X pins σ (.Tuple es n tp) R) X.xe s2) X.xe s1:=fun H2 o I2 hH2 q=>by
  obtain ⟨t1,t2,t3⟩:=isD_at I2 (a:=a) (.inl ⟨us,.inr ⟨o,hH2⟩⟩)
  refine ⟨t1,t2,?_⟩
  obtain ⟨eo,z,hdd,vs,rel,⟨o',ee,ep,ho,hx,hdat,k1,k2,k3⟩⟩:s1.heap.get? a=some o∧ObjOk X.prog X.w H2 s1.heap a (.dK us):=I2.hok a _ hH2
  rw [eo] at ho; cases ho
  have dat:s1.heap.DictAt (mixKind X.prog X.w) a vs ep:=⟨o,ee,eo,hx,hdat,k1,k2,k3⟩
  show wpAny _ _ (callWith pos (.builtin "dict.items") [.ref a] [] []) _ _ s1
  refine method_meetsIn F.slot_dict_items F.entry_dict_items rfl (PySem.evalArgs_none ⟨rfl,t1,F.args_dict_items_1 _,_,meets_dict_items (mixKind X.prog X.w) a t3,⟨vs,dat.dictOf⟩,?_⟩)
  have I3:Inv X pins σ H2 { s1 with heap:=s1.heap.push { cls:=.type "dict_items",data:=.fields #[.ref a] } }:=I2.kept (t':=s1.toks) fun b u e=>Heap.get?_push_of_some _ e
  refine wpAny_pyIter_items (s:={ s1 with heap:=s1.heap.push { cls:=.type "dict_items",data:=.fields #[.ref a] } }) ⟨_,Heap.get?_push_size _ rfl,rfl,rfl⟩ (dat.push _) ?_
  have hl:=rel.length
  have la:a < s1.heap.objs.size:=Heap.lt_size eo
  have sz:({ s1 with heap:=s1.heap.push { cls:=.type "dict_items",data:=.fields #[.ref a] } }:Shared).heap.objs.size=s1.heap.objs.size + 1:=Heap.size_push ..
  refine ⟨_,[_],_,_,H2,rfl,I3.kept (t':=s1.toks) fun b u e=>Heap.get?_push_of_some _ e,turn_items _ a o us ee ep hdat (by rw [sz]; exact Nat.ne_of_lt (Nat.lt_succ_of_lt la)),⟨.none,.none,by rw [hl]; exact Heap.get?_push_size _ rfl⟩,fun c hc=>?_,q⟩
  have ec:c=({ s1 with heap:=s1.heap.push { cls:=.type "dict_items",data:=.fields #[.ref a] } }:Shared).heap.objs.size:=by simpa using hc
  subst ec
  exact I3.fpOk (Nat.le_refl _) (I3.hok.fresh (Nat.le_refl _))
 rcases q1 with ⟨hH,q⟩ | ⟨o,hH,q⟩
 ·obtain ⟨o,I2⟩:=I1.freeze hH
  exact main _ o I2 upd_same (q o)
 ·exact main _ o I1 hH q
end L2
namespace PD
open PySem PySem.Spec PyProof.Rows L2
noncomputable def kD:KD→D
 | .inl i=>.int i
 | .inr x=>.str x
noncomputable def pairD (kv:KD × D):D:=.tup [kD kv.1,kv.2]
noncomputable def aItems (m:EM):AM:=fun r S=>(m r S).bind fun d S1=>match d with
 | .ref n=>match S1[n]? with
  | some (.dic kvs)=>.ok (kvs.map pairD) (S1.set n (.fdic kvs))
  | some (.fdic kvs)=>.ok (kvs.map pairD) S1
  | _=>.bad
 | _=>.bad
theorem RDk.getI {K:PySem.W.Frag} {w:Wd} {H:Hp}:∀ {ds:List (KD × D)} {us:List (Key × V)} {i:Nat} {k:KD} {d:D},RDk K w H ds us→ds[i]?=some (k,d)→∃ v,us[i]?=some (k,v)∧RD K w H d v
 | [],_,_,_,_,_,h=>by simp at h
 | (j,e) :: ds,_,i,k,d,q,h=>by
  obtain ⟨v,r,rfl,p,t⟩:=q.cons_inv
  cases i with
  | zero=>simp at h; obtain ⟨rfl,rfl⟩:=h; exact ⟨v,by simp,p⟩
  | succ i=>simpa using RDk.getI t (by simpa using h)
theorem kD_rel {K:PySem.W.Frag} {w:Wd} {H:Hp} (k:KD):RD K w H (kD k) (kV k):=by
 cases k with
 | inl i=>unfold kD RD; rfl
 | inr x=>unfold kD RD; rfl
theorem ri_items {K:PySem.W.Frag} {w:Wd} {H:Hp} {a:Addr} {o:Obj} {kvs:List (KD × D)} {us:List (Key × V)} (hst:∀ w' H',Ext w H w' H'→H' a=some (.frz o (.dK us))) (rk:RDk K w H kvs us):RI K w H (kvs.map pairD) (Iti a o us):=by
 intro i w' H' x'
 have rk':=RDk.ext x' _ _ rk
 have hl:=rk.length
 have ha:=hst w' H' x'
 refine ⟨fun hi=>?_,fun hi=>⟨ha,by rw [List.length_map] at hi; omega⟩⟩
 rw [List.length_map] at hi
 refine ⟨⟨ha,us[i]'(by omega),List.getElem?_eq_getElem _⟩,fun v H'' y=>?_⟩
 obtain ⟨p,k,x,rfl,hp,rfl,hx⟩:=y
 obtain ⟨v2,e2,r2⟩:=rk'.getI (i:=i) (k:=kvs[i].1) (d:=kvs[i].2) (by rw [List.getElem?_eq_getElem hi])
 rw [hx] at e2
 cases e2
 refine ⟨.inr ⟨p,_,hp,rfl⟩,fun S hS=>⟨pairD kvs[i],by simp [hi],?_⟩⟩
 unfold pairD RD
 refine ⟨p,[kV kvs[i].1,x],rfl,.inl ⟨upd_same,hS.fresh hp⟩,?_⟩
 unfold RDs RDs RDs
 exact ⟨_,_,rfl,kD_rel _,_,_,rfl,RD.ext (Ext.new hp) _ _ r2,rfl⟩
section
variable {X:Cx} {E:XK}
theorem si_items {es:List Expr} {n:Nat} {tp:Pos} {d:Expr} {md:EM} {apos pos:Pos} (ha:SE X E d md) (hbase:autoParam (attributeBase d "items" X.env (eval d X.env)=eval d X.env) Au.h0._auto_1) (hline:autoParam ((apos.endLine == pos.line)=true) Au.h0._auto_1)
  (hfew:autoParam (((backTo pos (starEach [] X.env)).all (fun x=>!x.1) && (backToKw pos (keywordEach [] X.env)).all (fun x=>x.1.isSome) && decide (([]:List Expr).length + ([]:List Keyword).length + (if ([]:List Keyword).isEmpty then 0 else 1) < 30))=true) Au.h0._auto_1):
  SI X E (.Tuple es n tp) (.Call (.Attribute d "items" apos) [] [] pos) (aItems md):=⟨
 pi_weak (pi_items ha.out hbase hline hfew) fun s H Q zq=>ex6 zq fun w r S hr hS hp=>⟨w,r,S,hr,hS,hp.bind hS fun d S1 w1 H1 v x1 q1 s1 p1=>by
  cases d with
  | ref m=>
   obtain ⟨pp,rfl,hp⟩:=q1.refI
   have hm:pp ∈ w1.st:=List.mem_of_getElem? hp
   cases e:S1[m]? with
   | none=>simp only [e] at p1; exact p1.elim
   | some ob=>
    obtain ⟨p',hp',ro⟩:=s1.obj _ _ e
    rw [hp] at hp'; cases hp'
    cases ob with
    | dic kvs=>
     simp only [e] at p1
     obtain ⟨us,hv,rk⟩:=ro
     refine ⟨pp,us,rfl,.inl ⟨hv,fun o=>?_⟩⟩
     have rk':=RDk.ext (Ext.mut hm hv (o:=.frz o (.dK us))) _ _ rk
     exact Post.at p1 (Ext.mut hm hv) (ri_items (fun w' H' x'=>x'.frz _ _ _ upd_same) rk') (s1.mut hp hv ⟨o,us,upd_same,rk'⟩)
    | fdic kvs=>
     simp only [e] at p1
     obtain ⟨o,us,hv,rk⟩:=ro
     exact ⟨pp,us,rfl,.inr ⟨o,hv,Post.ret p1 (ri_items (fun w' H' x'=>x'.frz _ _ _ hv) rk) s1⟩⟩
    | lst xs=>simp only [e] at p1; exact p1.elim
    | ins c fs=>simp only [e] at p1; exact p1.elim
    | flst xs=>simp only [e] at p1; exact p1.elim
  | _=>exact p1.elim⟩⟩
end
end PD
namespace PD
open PySem PySem.Spec PyProof.Rows L2
noncomputable def TupAt (K:PySem.W.Frag) (mg:Str→Option Value) (x:Str) (is:List Int):Prop:=∃ a,mg x=some (.ref a)∧KTup K a (is.map .int)
section
variable {X:Cx} {E:XK}
theorem rdi {K:PySem.W.Frag} {w:Wd} {H:Hp}:∀ is:List Int,RDs K w H (is.map .int) (is.map .int)
 | []=>.nil
 | i :: is=>.cons (by unfold RD; rfl) (rdi is)
theorem se_gt {x:Str} {is:List Int} {pos:Pos} (h:TupAt X.K X.mg x is) (hg:Gl X x) (hd:autoParam ((x == ("__debug__":Str))=false) Au.h3._auto_1):SE X E (.Name x pos) (eC (.tup (is.map .int))):=by
 obtain ⟨a,hm,k⟩:=h
 exact se_c (pe_glob hg hm (v:=.ref a) rfl hd) fun _ _=>by unfold RD; exact ⟨a,_,rfl,.inr k,rdi is⟩
end
theorem tup2_mk {K:PySem.W.Frag} {h:Heap} {mg:Str→Option Value} (X:K.In h) (G:h.Ns mainGlobals mg) {x:Str} {a:Addr} {od:Option Addr} {n:Nat} {sl:Array (Option Value)} {i j:Int} {t1 t2:Tok} (hn:PySem.W.nsIn K mainGlobals x=some (some (.ref a))) (hl:K.lookup a=some ⟨.type "tuple",od,.seq #[.int i t1,.int j t2] n,sl⟩):TupAt K mg x [i,j]:=
 ⟨a,PySem.W.mg_of X G hn,_,_,n,hl,rfl,rfl,by show 2≤sizeLine; decide,.cons ⟨t1,rfl⟩ (.cons ⟨t2,rfl⟩ .nil)⟩
section
variable {K:PySem.W.Frag} {w:Wd} {H:Hp}
theorem Mv.adopt {p:Addr} {o:HO} (hh:p ∈ w.hid):Mv w H ((w.unhide p).add p) (upd H p o):=
  ⟨fun n a h=>by
      show (w.st ++ [p])[n]?=some a
      rw [List.getElem?_append_left (List.getElem?_eq_some_iff.mp h).1]; exact h,
   fun a u h=>⟨by rw [upd_ne (fun z:a=p=>h.2.2 (z ▸ hh))]; exact h.1,fun z=>by
      rcases List.mem_append.mp z with z | z
      · exact h.2.1 z
      · exact h.2.2 (by rw [List.mem_singleton.mp z]; exact hh),fun z=>h.2.2 (Wd.mem_unhide z).1⟩⟩
theorem RS.adopt {p:Addr} {o:HO} {so:SO} {S:Sto} (s:RS K w H S) (hh:p ∈ w.hid) (r:RO K ((w.unhide p).add p) (upd H p o) p so):RS K ((w.unhide p).add p) (upd H p o) (S ++ [so]):=by
 have np:=(s.hid p hh).1
 refine ⟨?_,by simp [Wd.add,Wd.unhide,s.len],fun n so' e=>?_,fun a ha=>?_⟩
 ·show (w.st ++ [p]).Nodup
  rw [List.nodup_append]
  exact ⟨s.nd,by simp,fun a ha b hb=>by
   have:b=p:=by simpa using hb
   subst this
   rintro rfl
   exact np ha⟩
 ·by_cases hn:n < S.length
  ·rw [List.getElem?_append_left hn] at e
   obtain ⟨a,ha,q⟩:=s.obj n so' e
   have ne:a ≠ p:=fun z=>np (z ▸ List.mem_of_getElem? ha)
   exact ⟨a,(Mv.adopt (H:=H) (o:=o) hh).st n a ha,q.mv (Mv.adopt hh) fun u z=>by rw [upd_ne ne]; exact z⟩
  ·have hn':n=S.length:=by
    have:=(List.getElem?_eq_some_iff.mp e).1
    simp at this; omega
   subst hn'
   simp at e; subst e
   exact ⟨p,by show (w.st ++ [p])[S.length]?=some p; rw [← s.len]; simp,r⟩
 ·obtain ⟨h1,h2⟩:=Wd.mem_unhide ha
  obtain ⟨h3,u,e⟩:=s.hid a h1
  refine ⟨?_,u,by rw [upd_ne h2]; exact e⟩
  show a ∉ w.st ++ [p]
  intro z
  rcases List.mem_append.mp z with z | z
  ·exact h3 z
  ·exact h2 (by simpa using z)
end
section
variable {X:Cx} {E:XK} {pos:Pos}
theorem se_dicN {keys:List (Option Expr)} {values:List Expr} {ms:List (EM × EM)} (h:SPs X E pos keys values ms) (hall:autoParam (keys.all (·.isSome)=true) Au.h0._auto_1) (hl:autoParam (keys.length=values.length) Au.h0._auto_1) (h0:keys ≠ []:=by intro z; cases z) (h15:autoParam (keys.length≤15) Au.h3._auto_1):
  SE X E (.Dict keys values pos) (eDicN ms):=⟨
 pe_weak (pe_disp h.out hall hl h0 h15) fun s H Q q=>disp_core (keys:=keys) (values:=values) (m:=eDicN ms) (fin:=fun kvs S1=>R.ok (D.ref S1.length) (S1 ++ [SO.dic (mergeD [] kvs)])) (fun r S=>rfl) (fun kvs us w0 w H0 H S0 S p hp s0 s x hh rk p1=>by
  have hpn:=(s.hid p hh).1
  refine Post.at p1 (w1:=(w.unhide p).add p) ⟨fun a o h n=>by rw [upd_ne (ne_of_none h hp)]; exact x.keep a o h n,?_,fun a h=>List.mem_filter.mpr ⟨x.hid a h,decide_eq_true fun z=>(s0.fresh hp).2 (z ▸ h)⟩,fun a h=>x.hnew a (Wd.mem_unhide h).1,fun a o u h=>by rw [upd_ne (ne_of_none h hp)]; exact x.frz a o u h⟩ ?_ (s.adopt hh ⟨_,upd_same,RDk.mv (Mv.adopt hh) _ _ rk⟩)
  ·obtain ⟨l,e,f⟩:=x.sub
   exact ⟨l ++ [p],by show w.st ++ [p]=_; rw [e,List.append_assoc],fun a ha=>(List.mem_append.mp ha).elim (f a) fun z=>by rw [List.mem_singleton.mp z]; exact hp⟩
  ·unfold RD
   exact ⟨p,rfl,by show (w.st ++ [p])[S.length]?=some p; rw [← s.len]; simp⟩) q⟩
noncomputable def eDicE:EM:=fun _ S=>.ok (.ref S.length) (S ++ [.dic []])
theorem se_dicE:SE X E (.Dict [] [] pos) eDicE:=⟨
 pe_weak pe_dnewK fun s H Q zq=>ex6 zq fun w r S hr hS hp=>fun p hpn=>Post.at hp (Ext.alloc hpn) hS.lastRef (hS.alloc hpn ⟨[],upd_same,RDk.nil⟩)⟩
end
end PD
namespace PD
open PySem PySem.Spec PyProof.Rows L2
noncomputable def minZ:Int→List Int→Int
 | m,[]=>m
 | m,x :: r=>minZ (if x < m then x else m) r
theorem minZ_le:∀ (l:List Int) (m:Int),(minZ m l≤m∧∀ x ∈ l,minZ m l≤x)∧(minZ m l=m ∨ minZ m l ∈ l)
 | [],m=>⟨⟨Int.le_refl _,fun x h=>nomatch h⟩,.inl rfl⟩
 | x :: r,m=>by
  obtain ⟨⟨h1,h2⟩,h3⟩:=minZ_le r (if x < m then x else m)
  show (minZ (if x < m then x else m) r≤m∧∀ y ∈ x :: r,minZ (if x < m then x else m) r≤y)∧(minZ (if x < m then x else m) r=m ∨ minZ (if x < m then x else m) r ∈ x :: r)
  generalize minZ (if x < m then x else m) r=z at *
  by_cases hx:x < m
  ·rw [if_pos hx] at h1 h3
   refine ⟨⟨by omega,fun y hy=>?_⟩,.inr ?_⟩
   ·rcases List.mem_cons.mp hy with e | hy
    ·rw [e]; exact h1
    ·exact h2 y hy
   ·rcases h3 with e | h3
    ·rw [e]; exact .head _
    ·exact .tail _ h3
  ·rw [if_neg hx] at h1 h3
   refine ⟨⟨h1,fun y hy=>?_⟩,?_⟩
   ·rcases List.mem_cons.mp hy with e | hy
    ·rw [e]; omega
    ·exact h2 y hy
   ·rcases h3 with e | h3
    ·exact .inl e
    ·exact .inr (.tail _ h3)
noncomputable def isLst (S:Sto):D→Option (List D)
 | .lst a=>some a
 | .ref n=>match S[n]? with
  | some (.lst a)=>some a
  | _=>none
 | _=>none
noncomputable def fMinL:Sto→List D→Option D
 | S,[d]=>match isLst S d with
  | some a=>match intsOf a with
   | some (n :: ns)=>some (.int (minZ n ns))
   | _=>none
  | none=>none
 | _,_=>none
noncomputable def fMin2:Sto→List D→Option D:=fun S ds=>if ds.length=1 then fMinL S ds else fMin S ds
section
variable {X:Cx} {E:XK}
theorem min_list_kept {prog:Program} {w:World} {A:Around} {Ex:Value→Shared→Prop} {s:Shared} {l:Addr} {vs:List Value} {ns:List Int} {Q:Value→Shared→Prop} (hh:A.handled=none) (hl:s.heap.IsList l vs.toArray) (hi:IntsAre vs ns) (hne:0 < ns.length)
  (h:∀ h' M (t:Tok) tk,(∀ b o,s.heap.get? b=some o→h'.get? b=some o)→M ∈ ns→(∀ a,a ∈ ns→M≤a)→Q (.int M t) { s with heap:=h',toks:=tk }):wpAny (model prog w) A (call (.builtin "min") [.ref l]) Q Ex s:=by
 obtain ⟨xs,e⟩:=hi.allInts.items
 have hns:ns=xs.toList.map (·.1):=(by rw [← hi.numsOf,← nums_intItems,← e])
 have hsz:0 < xs.size:=(by have h3:=hne; rw [hns,List.length_map,Array.length_toList] at h3; exact h3)
 rw [e] at hl
 refine min_intList hh hl hsz fun v h' tk hv hk=>?_
 obtain ⟨t,rfl⟩:=intItems_at hv; obtain ⟨h1,h2⟩:=argBest_lt (numAt xs) (xs.size - 1)
 refine h _ _ t tk hk ?_ fun a ha=>?_
 ·rw [hns,numAt_eq]; exact getD_mem (by rw [List.length_map,Array.length_toList]; omega)
 ·rw [hns] at ha; obtain ⟨j,hj,rfl⟩:=mem_getD ha; rw [List.length_map,Array.length_toList] at hj; rw [← numAt_eq]; exact h2 j (by omega)
theorem lst_at {K:PySem.W.Frag} {w:Wd} {H:Hp} {S:Sto} {d:D} {v:V} {a:List D} (s:RS K w H S) (q:RD K w H d v) (h:isLst S d=some a):∃ p vs,v=.ref p∧SqL K H p vs∧RDs K w H a vs:=by
 unfold isLst at h
 split at h
 ·cases h; obtain ⟨p,vs,e,z,r⟩:=q.lstI; exact ⟨p,vs,e,SqL.of z.1,r⟩
 ·rename_i n
  split at h
  ·rename_i e; cases h
   obtain ⟨p,rfl,hp⟩:=q.refI
   obtain ⟨p',hp',vs,hv,r⟩:=s.obj _ _ e
   rw [hp] at hp'; cases hp'
   exact ⟨p,vs,rfl,SqL.of hv,r⟩
  ·cases h
 ·cases h
theorem xc_minL (hc:X.calm=true):CallR X (.builtin "min") (xC X.K E fMinL):=by
 rintro pins s σ H xs us Q I r ⟨w,S,ds,hS,qs,p⟩
 obtain ⟨z,hz,p'⟩:=p.of
 clear p
 unfold fMinL at hz
 split at hz
 ·rename_i d
  obtain ⟨v,rfl,q⟩:=qs.one_inv
  split at hz
  ·rename_i a ha
   split at hz
   ·rename_i n ns hns
    cases hz
    obtain ⟨pa,vs,rfl,sq,ra⟩:=lst_at hS q ha
    obtain ⟨u,rfl,rx⟩:=vals1 r
    cases rx
    obtain ⟨its,r',pl,hz⟩:=I.list sq
    refine min_list_kept (I.ok.hd hc) pl.isList (ints_are ra r' hns) (by simp) fun h' M t tk hk h1 h2=>?_
    have eM:M=minZ n ns:=by
     obtain ⟨⟨a1,a2⟩,a3⟩:=minZ_le ns n
     have b1:=h2 (minZ n ns) (by rcases a3 with e | h; rw [e]; exact .head _; exact .tail _ h)
     have b2:minZ n ns≤M:=by
      rcases List.mem_cons.mp h1 with e | h
      ·rw [e]; exact a1
      ·exact a2 M h
     omega
    subst eM
    exact ⟨.int _,H,I.kept (t':=tk) hk,⟨t,rfl⟩,p'.ret (by unfold RD; rfl) hS⟩
   ·cases hz
  ·cases hz
 ·cases hz
theorem xc_or {f:Value} {g g1 g2:Sto→List D→Option D} (h1:CallR X f (xC X.K E g1)) (h2:CallR X f (xC X.K E g2)) (h:∀ S ds,g S ds=g1 S ds ∨ g S ds=g2 S ds):CallR X f (xC X.K E g):=by
 rintro pins s σ H xs us Q I r ⟨w,S,ds,hS,qs,p⟩
 rcases h S ds with z | z
 ·exact h1 pins s σ H xs us Q I r ⟨w,S,ds,hS,qs,z ▸ p⟩
 ·exact h2 pins s σ H xs us Q I r ⟨w,S,ds,hS,qs,z ▸ p⟩
theorem xc_min2 (hc:X.calm=true):CallR X (.builtin "min") (xC X.K E fMin2):=xc_or (xc_minL hc) (xc_min hc) fun S ds=>by
 unfold fMin2
 split
 ·exact .inl rfl
 ·exact .inr rfl
end
end PD
namespace L2
open PySem PySem.Spec PyProof.Rows
section
variable {X:Cx} {tg:Expr}
end
end L2
namespace PD
open PySem PySem.Spec PyProof.Rows L2
section
variable {X:Cx} {E:XK} {a b c:Expr} {pos:Pos}
end
end PD
namespace PySem
open PyProof.Rows
namespace F
end F
section
variable {prog:Program} {w:World} {A:Around} {E:Value→Shared→Prop} {s:Shared}
end
end PySem
namespace L2
open PySem PySem.Spec PyProof.Rows
section
variable {X:Cx} {tg:Expr}
end
end L2
namespace PD
open PySem PySem.Spec PyProof.Rows L2
section
variable {X:Cx} {E:XK} {a:Expr} {pos:Pos}
end
end PD
namespace PD
open PySem PySem.Spec PyProof.Rows L2
section
variable {X:Cx} {E:XK} {pos:Pos}
end
end PD
namespace L2
open PySem PySem.Spec PyProof.Rows
section
variable {X:Cx} {tg:Expr}
end
end L2
namespace PD
open PySem PySem.Spec PyProof.Rows L2
section
variable {X:Cx} {E:XK}
end
end PD
namespace L2
open PySem PySem.Spec PyProof.Rows
end L2
namespace PD
open PySem PySem.Spec PyProof.Rows L2
section
variable {X:Cx} {E:XK}
end
end PD
namespace PySem
open PyProof.Rows
section
variable {prog:Program} {w:World} {A:Around} {E:Value→Shared→Prop} {s:Shared} {K:Type} [DecidableEq K] {knd:KeyKind prog w K}
end
end PySem
namespace PD
open PySem PySem.Spec PyProof.Rows L2
section
variable {X:Cx} {E:XK}
end
end PD
namespace PD
open PySem PySem.Spec PyProof.Rows L2
open AutoSeq1 (wpAny_loadPart')
open MeetsSeq MeetsSeq2 MeetsSeq3 SeqRoads2 PySem.SeqAt
noncomputable def ltZ:List Int→List Int→Bool
 | [],[]=>false
 | [],_ :: _=>true
 | _ :: _,[]=>false
 | x :: xs,y :: ys=>if x=y then ltZ xs ys else decide (x < y)
theorem ltZ_eq {x y:Int} {xs ys:List Int} (h:x=y):ltZ (x :: xs) (y :: ys)=ltZ xs ys:=if_pos h
theorem ltZ_ne {x y:Int} {xs ys:List Int} (h:¬ x=y):ltZ (x :: xs) (y :: ys)=decide (x < y):=if_neg h
theorem intLtAt {A:Around} {s:Shared} {a b:Int} {t u:Tok} (prog:Program) (w:World) {E:Value→Shared→Prop} {Q:Value→Shared→Prop} (h:Q (.bool (decide (a < b))) s):wpAny (model prog w) A (richCompare .Lt (.int a t) (.int b u)) Q E s:=
 richCompare_gives (op:=.Lt) (typeIs_int s _ t) (typeIs_int s _ u) F.slot_int_lt F.entry_int_lt (F.args_int_lt_2 _ _) (gives_int_lt _ _ t u) (fun x=>nomatch x) h
theorem tuple_ltInts (l b:Addr) (items items2:Array Value) (n n2:Nat) (dd dd2:Option Addr) (sl sl2:Array (Option Value)) {xs ys:List Int} (hx:IntsAre items.toList xs) (hy:IntsAre items2.toList ys):
  Meets (Builtin.«tuple.__lt__» ⟨[.ref l,.ref b],[]⟩)
   (fun A R s=>s.heap.get? l=some { cls:=.type "tuple",dict:=dd,data:=.seq items n,slots:=sl }∧s.heap.get? b=some { cls:=.type "tuple",dict:=dd2,data:=.seq items2 n2,slots:=sl2 }∧
    R (.ok (.ret (.bool (ltZ xs ys)))) s):=
 .of_wp fun prog w A R s h=>by
  obtain ⟨hp,g,d,tk,os⟩:=s; obtain ⟨hl,hb,h⟩:=h
  have f2:=AutoSeq1.sub_tuple_tuple
  wp_walk using wpAny_loadPart' hl,wpAny_loadPart' hb,wpAny_forIn_list _ (fun rest b s'=>b.1=none∧s'=⟨hp,g,d,tk,os⟩∧∃ (as bs:List Value) (xs ys:List Int),rest=as.zip bs∧IntsAre as xs∧IntsAre bs ys∧as.length + items2.size=bs.length + items.size∧
   R (.ok (.ret (.bool (ltZ xs ys)))) ⟨hp,g,d,tk,os⟩) _
  case turn=>
   rintro ⟨y,x⟩ rest b s' ⟨hb',rfl,as,bs,xs,ys,hz,h1,h2,hlen,hR⟩
   cases h1 with
   | nil=>cases hz
   | cons a t h1=>
    cases h2 with
    | nil=>cases hz
    | cons c u h2=>
     cases hz
     refine wpAny_bind (EqAt.int_int a t c u prog w _ _ ?_)
     by_cases hac:a=c
     ·have e:(a == c)=true:=by simp [hac]
      rw [e]
      wp_walk
      refine ⟨rfl,rfl,_,_,_,_,rfl,h1,h2,by simp only [List.length_cons] at hlen; omega,?_⟩
      rw [ltZ_eq hac] at hR
      exact hR
     ·have e:(a == c)=false:=by simp [hac]
      rw [ltZ_ne hac] at hR
      rw [e]
      simp only [Bool.not_false,if_true]
      refine wpAny_bind (wpAny_rule ?_)
      refine wpAny_bind (intLtAt prog w ?_)
      wp_walk
      exact ⟨_,rfl,hR⟩
  case fin=>
   rintro ⟨b1,b2⟩ s' ⟨hb',rfl,as,bs,xs,ys,hz,h1,h2,hlen,hR⟩
   simp only at hb'
   subst hb'
   have e:ltZ xs ys=decide (items.size < items2.size):=by
    cases h1 with
    | nil=>
     cases h2 with
     | nil=>simp only [List.length_nil] at hlen; unfold ltZ; exact (decide_eq_false (by omega)).symm
     | cons c u h2=>simp only [List.length_nil,List.length_cons] at hlen; unfold ltZ; exact (decide_eq_true (by omega)).symm
    | cons a t h1=>
     cases h2 with
     | nil=>simp only [List.length_nil,List.length_cons] at hlen; unfold ltZ; exact (decide_eq_false (by omega)).symm
     | cons c u h2=>cases hz
   rw [e] at hR
   wp_walk
   exact ⟨_,rfl,by simpa [Builtin.Tuple.tupleCompareSizes] using hR⟩
  case h=>
   exact ⟨rfl,rfl,_,_,_,_,rfl,hx,hy,by simp [Nat.add_comm],h⟩
theorem tupLtAt {A:Around} {s:Shared} {l b:Addr} {items items2:Array Value} {xs ys:List Int} (hl:s.heap.IsTuple l items) (hb:s.heap.IsTuple b items2) (hx:IntsAre items.toList xs) (hy:IntsAre items2.toList ys) (hu:A.units < cLine) (prog:Program) (w:World) {E:Value→Shared→Prop} {Q:Value→Shared→Prop}
  (h:Q (.bool (ltZ xs ys)) s):wpAny (model prog w) A (richCompare .Lt (.ref l) (.ref b)) Q E s:=by
 obtain ⟨⟨cls,dd,data,sl⟩,ho,hc,n,hd⟩:=id hl
 obtain ⟨⟨cls2,dd2,data2,sl2⟩,ho2,hc2,n2,hd2⟩:=id hb
 simp only at hc hd hc2 hd2
 subst hc hd hc2 hd2
 exact richCompare_meets_room (op:=.Lt) ⟨_,ho,rfl⟩ ⟨_,ho2,rfl⟩ F.slot_tuple_lt F.entry_tuple_lt (F.args_tuple_lt_2 _ _) (tuple_ltInts l b items items2 n n2 dd dd2 sl sl2 hx hy)
  ⟨ho,ho2,show Value.bool (ltZ xs ys) ≠ Value.notImplemented∧Q (.bool (ltZ xs ys)) s from ⟨(fun x=>nomatch x),h⟩⟩ hu
end PD
namespace PD
open PySem PySem.Spec PyProof.Rows L2
noncomputable def KCmp (prog:Program) (w:World) (A:Around) (h0:Heap) (P:Nat→Value→Prop) (bt:Nat→Nat→Bool):Prop:=
 ∀ (i j:Nat) (vi vj:Value) (s:Shared) (Q:Value→Shared→Prop) (E:Value→Shared→Prop),(∀ b o,h0.get? b=some o→s.heap.get? b=some o)→P i vi→P j vj→Q (.bool (bt i j)) s→wpAny (model prog w) A (richCompare .Lt vi vj) Q E s
noncomputable abbrev cellS (vs:Array Value) (c:Nat):Obj:={ cls:=.type "list",dict:=none,data:=.seq vs c,slots:=#[] }
section
variable {prog:Program} {w:World} {A:Around} {R:Result→Shared→Prop} {I:Addr} {fp wr:List Addr} {n:Nat} {P:Nat→Value→Prop} {St:Nat→Heap→Prop} {h0:Heap} {bt:Nat→Nat→Bool} {S:Addr} {kw:List (Str × Value)}
theorem min_loopK (W:Walks prog w A.in1 I fp wr n P St) (hcmp:KCmp prog w A.in1 h0 P bt) (hSf:S ∉ fp) (hw:∀ b ∈ wr,h0.get? b=none) (hS0:h0.get? S=none):
  ∀ (k j:Nat) (s:Shared) (vb:Value) (c:Nat),n - (j + 1)=k→j + 1≤n→St (j + 1) s.heap→P (argBest bt j) vb→s.heap.get? S=some (cellS #[vb,vb] c)→(∀ b o,h0.get? b=some o→s.heap.get? b=some o)→
  (∀ v h' tk,P (argBest bt (n - 1)) v→(∀ b o,h0.get? b=some o→h'.get? b=some o)→R (.ok (.ret v)) { s with heap:=h',toks:=tk })→
  codeAny (model prog w) A (.builtin "min.loop" ⟨[.ref I,.none,.ref S],kw⟩) R s:=by
 have hSw:S ∉ wr:=fun h=>hSf (W.sub _ h)
 have nw:∀ {b:Addr} {o:Obj},h0.get? b=some o→b ∉ wr:=fun e h=>by rw [hw _ h] at e; cases e
 have nS:∀ {b:Addr} {o:Obj},h0.get? b=some o→S ≠ b:=fun e h=>by rw [← h,hS0] at e; cases e
 have hname:(toString "min" ++ toString ".loop":String) = "min.loop":=by decide
 intro k
 induction k with
 | zero=>
  intro j s vb c hk hj hst hPb hS hkp hR
  have hin:j + 1=n:=by omega
  refine codeAny_builtin F.entry_min_loop ?_
  rw [Around.under_plainId F.plain_min_loop _]
  show wpAny _ A.in1 (seqItems? (.ref S) >>= _) _ _ s
  refine wpAny_bind (wpAny_seqItems hS rfl ?_)
  show wpAny _ A.in1 (tryCatch (pyNext (.ref I)) _ >>= _) _ _ s
  refine wpAny_bind (wpAny_tryCatch (W.done s _ _ (hin ▸ hst) fun h' tk hk'=>?_))
  show wpAny _ A.in1 (updateSeq S (fun _=>#[]) >>= _) _ _ _
  refine wpAny_bind ?_
  refine wpAny_updateSeq (hk' S _ hSw hS) rfl (wpAny_bind (wpAny_letGo (wpAny_pure ?_)))
  exact hR vb _ tk (by rw [← hin]; exact hPb) fun b o e=>(Heap.get?_update_other _ _ (nS e)).trans (hk' b o (nw e) (hkp b o e))
 | succ k ih=>
  intro j s vb c hk hj hst hPb hS hkp hR
  have hlt:j + 1 < n:=by omega
  refine codeAny_builtin F.entry_min_loop ?_
  rw [Around.under_plainId F.plain_min_loop _]
  show wpAny _ A.in1 (seqItems? (.ref S) >>= _) _ _ s
  refine wpAny_bind (wpAny_seqItems hS rfl ?_)
  show wpAny _ A.in1 (tryCatch (pyNext (.ref I)) _ >>= _) _ _ s
  refine wpAny_bind (wpAny_tryCatch (W.item (j + 1) s _ _ hlt hst fun v h' tk hP hst' hk'=>?_))
  have hS':=hk' S _ hSw hS
  have hkp':∀ b o,h0.get? b=some o→h'.get? b=some o:=fun b o e=>hk' b o (nw e) (hkp b o e)
  show wpAny _ A.in1 (tryCatch (holding [v,v] (richCompare .Lt v vb >>= _)) _ >>= _) _ _ _
  refine wpAny_bind (wpAny_tryCatch (wpAny_holding (wpAny_bind (hcmp (j + 1) (argBest bt j) v vb _ _ _ hkp' hP hPb ?_))))
  refine wpAny_bind (wpAny_holding (wpAny_truthy_bool ?_))
  refine wpAny_bind (wpAny_letGo (wpAny_pure ?_))
  cases hb:bt (j + 1) (argBest bt j) with
  | true=>
   simp only [if_true]
   refine wpAny_bind ?_
   refine wpAny_updateSeq hS' rfl (wpAny_bind (wpAny_letGo ?_))
   rw [hname]
   refine wpAny_pure ⟨plainId_quiet F.plain_min_loop _,ih (j + 1) _ v _ (by omega) hlt (W.frame _ _ _ hst' fun b hbf o e=>(Heap.get?_update_other _ _ (fun h:S=b=>hSf (by rw [h]; exact hbf))).trans e) (by simp only [argBest,hb,if_true]; exact hP) (Heap.get?_update_self _ hS' rfl)
    (fun b o e=>(Heap.get?_update_other _ _ (nS e)).trans (hkp' b o e)) fun v' h'' tk'' hP' hk''=>hR v' h'' tk'' hP' hk''⟩
  | false=>
   simp only [Bool.false_eq_true,if_false]
   refine wpAny_bind (wpAny_letGo ?_)
   rw [hname]
   exact wpAny_pure ⟨plainId_quiet F.plain_min_loop _,ih (j + 1) _ vb c (by omega) hlt hst' (by simp only [argBest,hb,Bool.false_eq_true,if_false]; exact hPb) hS' hkp' fun v' h'' tk'' hP' hk''=>hR v' h'' tk'' hP' hk''⟩
theorem min_firstK (W:Walks prog w A.in1 I fp wr n P St) (hcmp:KCmp prog w A.in1 h0 P bt) (hSf:S ∉ fp) (hw:∀ b ∈ wr,h0.get? b=none) (hS0:h0.get? S=none) (hn:0 < n) {s:Shared} {c:Nat} (hst:St 0 s.heap)
  (hS:s.heap.get? S=some (cellS #[] c)) (hkp:∀ b o,h0.get? b=some o→s.heap.get? b=some o)
  (hR:∀ v h' tk,P (argBest bt (n - 1)) v→(∀ b o,h0.get? b=some o→h'.get? b=some o)→R (.ok (.ret v)) { s with heap:=h',toks:=tk }):
  codeAny (model prog w) A (.builtin "min.loop" ⟨[.ref I,.none,.ref S],kw⟩) R s:=by
 have hSw:S ∉ wr:=fun h=>hSf (W.sub _ h)
 have nw:∀ {b:Addr} {o:Obj},h0.get? b=some o→b ∉ wr:=fun e h=>by rw [hw _ h] at e; cases e
 have nS:∀ {b:Addr} {o:Obj},h0.get? b=some o→S ≠ b:=fun e h=>by rw [← h,hS0] at e; cases e
 have hname:(toString "min" ++ toString ".loop":String) = "min.loop":=by decide
 refine codeAny_builtin F.entry_min_loop ?_
 rw [Around.under_plainId F.plain_min_loop _]
 show wpAny _ A.in1 (seqItems? (.ref S) >>= _) _ _ s
 refine wpAny_bind (wpAny_seqItems hS rfl ?_)
 show wpAny _ A.in1 (tryCatch (pyNext (.ref I)) _ >>= _) _ _ s
 refine wpAny_bind (wpAny_tryCatch (W.item 0 s _ _ hn hst fun v h' tk hP hst' hk'=>?_))
 have hS':=hk' S _ hSw hS
 have hkp':∀ b o,h0.get? b=some o→h'.get? b=some o:=fun b o e=>hk' b o (nw e) (hkp b o e)
 show wpAny _ A.in1 (updateSeq S (fun _=>#[v,v]) >>= _) _ _ _
 refine wpAny_bind ?_
 refine wpAny_updateSeq hS' rfl ?_
 rw [hname]
 exact wpAny_pure ⟨plainId_quiet F.plain_min_loop _,min_loopK W hcmp hSf hw hS0 _ 0 _ v _ rfl hn (W.frame _ _ _ hst' fun b hbf o e=>(Heap.get?_update_other _ _ (fun h:S=b=>hSf (by rw [h]; exact hbf))).trans e) hP (Heap.get?_update_self _ hS' rfl)
  (fun b o e=>(Heap.get?_update_other _ _ (nS e)).trans (hkp' b o e)) fun v' h'' tk'' hP' hk''=>hR v' h'' tk'' hP' hk''⟩
theorem min_noneK {d:Value} {nm:Str} (W:Walks prog w A.in1 I fp wr 0 P St) (hSf:S ∉ fp) {s:Shared} {c:Nat} (hst:St 0 s.heap) (hS:s.heap.get? S=some (cellS #[] c))
  (hR:∀ h' tk,(∀ b o,b ∉ wr→s.heap.get? b=some o→h'.get? b=some o)→R (.ok (.ret d)) { s with heap:=h',toks:=tk }):
  codeAny (model prog w) A (.builtin "min.loop" ⟨[.ref I,.none,.ref S],[(nm,d)]⟩) R s:=by
 refine codeAny_builtin F.entry_min_loop ?_
 rw [Around.under_plainId F.plain_min_loop _]
 show wpAny _ A.in1 (seqItems? (.ref S) >>= _) _ _ s
 refine wpAny_bind (wpAny_seqItems hS rfl ?_)
 show wpAny _ A.in1 (tryCatch (pyNext (.ref I)) _ >>= _) _ _ s
 refine wpAny_bind (wpAny_tryCatch (W.done s _ _ hst fun h' tk hk'=>?_))
 show wpAny _ A.in1 (rule _ >>= _) _ _ _
 refine wpAny_bind (wpAny_rule (wpAny_pure ?_))
 exact hR h' tk hk'
theorem call_kw {id:String} {b:Builtin} {args:List Value} {Q:Value→Shared→Prop} {E:Value→Shared→Prop} {s:Shared} (hk:builtinKind id=none) (hp:plainId id=true)
  (hb:entryFor table id=some b) (ha:argsOk id ⟨args,kw⟩)
  (hc:wpAny (model prog w) A.in1 (b ⟨args,kw⟩) (fun fin s'=>match fin with
   | .done f=>(match (Except.ok f:Result) with | .ok (.ret v)=>Q v s' | .ok _=>False | .error e=>E e s')
   | .again c'=>c'.quiet=true∧codeAny (model prog w) A c' (fun r s'=>match r with | .ok (.ret v)=>Q v s' | .ok _=>False | .error e=>E e s') s') E s):
  wpAny (model prog w) A (call (.builtin id) args kw) Q E s:=by
 refine wpAny_call (codeAny_call_builtin hp hb ?_)
 simp only [checkBuiltinCall,hk]
 cases hsig:Manifest.signature? id with
 | none=>exact wpAny_pure hc
 | some sig=>
  have h2:Bind.checkArgs id sig ⟨args,kw⟩=pure ():=by simpa only [argsOk,hsig] using ha
  simp only [h2]
  exact wpAny_pure hc
theorem args_minD (a d:Value):argsOk "min" ⟨[a],[("default",d)]⟩:=by unfold argsOk; kernel_rfl
end
end PD
namespace PD
open PySem PySem.Spec PyProof.Rows L2
noncomputable def minT (m:List Int) (l:List (List Int)):List Int:=l.foldl (fun m x=>if ltZ x m=true then x else m) m
noncomputable def tupsOf:List D→Option (List (List Int))
 | []=>some []
 | .tup a :: r=>match intsOf a,tupsOf r with
  | some n,some ns=>some (n :: ns)
  | _,_=>none
 | _ :: _=>none
noncomputable def TupsAre (h:Heap) (us:List Value) (ns:List (List Int)):Prop:=us.length=ns.length∧∀ (i:Nat) (v:Value),us[i]?=some v→∃ a items,v=.ref a∧h.IsTuple a items∧IntsAre items.toList (ns.getD i [])
theorem argBest_T (ns:List (List Int)):∀ k:Nat,k < ns.length→argBest (fun i j=>ltZ (ns.getD i []) (ns.getD j [])) k≤k∧ns.getD (argBest (fun i j=>ltZ (ns.getD i []) (ns.getD j [])) k) []=minT (ns.getD 0 []) ((ns.drop 1).take k)
 | 0,h=>⟨Nat.le_refl _,rfl⟩
 | k + 1,h=>by
  obtain ⟨h1,h2⟩:=argBest_T ns k (by omega)
  have hd:(ns.drop 1)[k]?=some (ns.getD (k + 1) []):=by
   rw [List.getElem?_drop,Nat.add_comm 1 k,List.getD_eq_getElem?_getD,List.getElem?_eq_getElem h]; rfl
  have ht:(ns.drop 1).take (k + 1)=(ns.drop 1).take k ++ [ns.getD (k + 1) []]:=by
   rw [List.take_succ,hd]; rfl
  rw [ht]
  unfold minT at h2 ⊢
  rw [List.foldl_append,← h2]
  simp only [argBest,List.foldl_cons,List.foldl_nil]
  by_cases hb:ltZ (ns.getD (k + 1) []) (ns.getD (argBest (fun i j=>ltZ (ns.getD i []) (ns.getD j [])) k) [])=true
  ·rw [if_pos hb,if_pos hb]; exact ⟨Nat.le_refl _,rfl⟩
  ·rw [if_neg hb,if_neg hb]; exact ⟨by omega,rfl⟩
theorem ints_back:∀ {ds:List D} {ns:List Int},intsOf ds=some ns→ds=ns.map .int
 | [],ns,h=>by unfold intsOf at h; cases h; rfl
 | d :: r,ns,h=>by
  unfold intsOf at h
  split at h
  ·rename_i e; cases e
  ·rename_i b r' e
   cases e
   cases e:intsOf r with
   | none=>rw [e] at h; cases h
   | some cs=>rw [e] at h; cases h; rw [ints_back e]; rfl
  ·cases h
section
variable {X:Cx} {E:XK} {pins:List (Addr × Obj)} {σ:L2.St} {H:Hp} {s:Shared}
theorem tups_are {w:Wd} (I:Inv X pins σ H s):∀ {ds:List D} {vs:List V} {us:List Value} {ns:List (List Int)},RDs X.K w H ds vs→Vals vs us→tupsOf ds=some ns→TupsAre s.heap us ns∧∀ (i:Nat) (v:Value),us[i]?=some v→∃ y,RelV y v∧RD X.K w H (.tup ((ns.getD i []).map .int)) y
 | [],_,_,_,q,r,h=>by
  rw [q.nil_inv] at r
  cases r
  unfold tupsOf at h
  cases h
  exact ⟨⟨rfl,fun i v h=>by simp at h⟩,fun i v h=>by simp at h⟩
 | d :: ds,_,_,ns,q,r,h=>by
  obtain ⟨y,vs,rfl,p,t⟩:=q.cons_inv
  unfold tupsOf at h
  split at h
  ·rename_i e; cases e
  ·rename_i a r' eq
   cases eq
   split at h
   ·rename_i n ns' e1 e2
    cases h
    cases r with
    | cons rv rr=>
     obtain ⟨⟨l,g⟩,g2⟩:=tups_are I t rr e2
     obtain ⟨pa,xs,rfl,za,ra⟩:=p.tupI
     obtain ⟨its,r1,p1,_⟩:=I.tuple (SqT_of za)
     cases rv
     refine ⟨⟨by simp [l],fun i v hv=>?_⟩,fun i v hv=>?_⟩
     ·cases i with
      | zero=>cases hv; exact ⟨pa,its.toArray,rfl,p1,by simpa using ints_are ra r1 e1⟩
      | succ i=>exact g i v (by simpa using hv)
     ·cases i with
      | zero=>cases hv; exact ⟨.ref pa,rfl,by have:=ints_back e1; subst this; exact p⟩
      | succ i=>exact g2 i v (by simpa using hv)
   ·cases h
  ·cases h
end
section
variable {prog:Program} {w:World} {A:Around} {E:Value→Shared→Prop} {s:Shared}
theorem kcmp_tups {h0:Heap} {us:List Value} {ns:List (List Int)} (t:TupsAre h0 us ns) (hu:A.units < cLine):KCmp prog w A h0 (fun i v=>us.toArray[i]?=some v) fun i j=>ltZ (ns.getD i []) (ns.getD j []):=by
 intro i j vi vj s Q E hk hi hj h
 obtain ⟨a,xs,rfl,ta,ia⟩:=t.2 i vi (by simpa using hi)
 obtain ⟨b,ys,rfl,tb,ib⟩:=t.2 j vj (by simpa using hj)
 exact tupLtAt (ta.at fun o e=>hk _ o e) (tb.at fun o e=>hk _ o e) ia ib hu prog w h
theorem min_listK {l:Addr} {us:List Value} {bt:Nat→Nat→Bool} {kw:List (Str × Value)} {df:Option Value} {Q:Value→Shared→Prop} (hh:A.handled=none) (hl:s.heap.IsList l us.toArray) (hne:0 < us.length)
  (ha:argsOk "min" ⟨[.ref l],kw⟩) (hb:Builtin.Builtins.bindParams "min" ["key","default"] 0 ⟨[],kw⟩=pure [none,df])
  (hcmp:KCmp prog w A.in1 s.heap (fun i v=>us.toArray[i]?=some v) bt)
  (h:∀ v h' tk,us[argBest bt (us.length - 1)]?=some v→(∀ b o,s.heap.get? b=some o→h'.get? b=some o)→Q v { s with heap:=h',toks:=tk }):
  wpAny (model prog w) A (call (.builtin "min") [.ref l] kw) Q E s:=by
 have hname:(toString "min" ++ toString ".loop":String) = "min.loop":=by decide
 have hlt:l < s.heap.objs.size:=by obtain ⟨_,e,_⟩:=hl; exact Heap.lt_size e
 refine call_kw F.kind_min F.plain_min F.entry_min ha ?_
 show wpAny _ A.in1 (Builtin.Builtins.bindParams "min" ["key","default"] 0 ⟨[],kw⟩ >>= _) _ _ s
 refine wpAny_bind (wpAny_of_eq hb ?_)
 refine wpAny_bind (wpAny_pure ?_)
 refine wpAny_bind (wpAny_pyIter_list hl ?_)
 refine wpAny_bind (wpAny_newObj_type ?_)
 have hsz:(s.heap.push { cls:=.type "list_iterator",data:=.fields #[.ref l,.int 0 0] }).objs.size=s.heap.objs.size + 1:=Heap.size_push ..
 have W:=Walks.list (prog:=prog) (w:=w) (A:=A.in1) hh s.heap.objs.size l (Nat.ne_of_lt hlt) us.toArray
 have hSf:s.heap.objs.size + 1 ∉ [s.heap.objs.size,l]:=fun hm=>by
  rcases List.mem_cons.mp hm with e | hm
  ·exact absurd e (Nat.succ_ne_self _)
  ·rcases List.mem_cons.mp hm with e | hm
   ·exact Nat.lt_irrefl _ (Nat.lt_of_succ_lt (e ▸ hlt:s.heap.objs.size + 1 < s.heap.objs.size))
   ·cases hm
 rw [hname]
 refine wpAny_pure ⟨plainId_quiet F.plain_min_loop _,?_⟩
 show codeAny _ A (.builtin "min.loop" ⟨[.ref s.heap.objs.size,.none,.ref (s.heap.push _).objs.size],_⟩) _ _
 rw [hsz]
 refine min_firstK (h0:=s.heap) W hcmp hSf (fun b hb=>?_) (Heap.get?_none_of_le (Nat.le_succ _)) (by simpa using hne) (W.frame _ _ _ ⟨⟨_,Heap.get?_push_size _ rfl,rfl,rfl⟩,hl.push _⟩ fun b _ o e=>Heap.get?_push_of_some _ e) (by rw [← hsz]; exact Heap.get?_push_size _ rfl)
  (fun b o e=>Heap.get?_push_of_some _ (Heap.get?_push_of_some _ e)) fun v h' tk hP hk=>h v h' tk (by simpa using hP) hk
 ·simp at hb; rw [hb]; exact Heap.get?_none_of_le (Nat.le_refl _)
theorem min_emptyK {l:Addr} {d:Value} {Q:Value→Shared→Prop} (hh:A.handled=none) (hl:s.heap.IsList l #[])
  (h:∀ h' tk,(∀ b o,s.heap.get? b=some o→h'.get? b=some o)→Q d { s with heap:=h',toks:=tk }):
  wpAny (model prog w) A (call (.builtin "min") [.ref l] [("default",d)]) Q E s:=by
 have hname:(toString "min" ++ toString ".loop":String) = "min.loop":=by decide
 have hlt:l < s.heap.objs.size:=by obtain ⟨_,e,_⟩:=hl; exact Heap.lt_size e
 refine call_kw F.kind_min F.plain_min F.entry_min (args_minD _ _) ?_
 show wpAny _ A.in1 (Builtin.Builtins.bindParams "min" ["key","default"] 0 ⟨[],[("default",d)]⟩ >>= _) _ _ s
 refine wpAny_bind (wpAny_of_eq (show Builtin.Builtins.bindParams "min" ["key","default"] 0 ⟨[],[("default",d)]⟩=pure [none,some d] from rfl) ?_)
 refine wpAny_bind (wpAny_pure ?_)
 refine wpAny_bind (wpAny_pyIter_list hl ?_)
 refine wpAny_bind (wpAny_newObj_type ?_)
 have hsz:(s.heap.push { cls:=.type "list_iterator",data:=.fields #[.ref l,.int 0 0] }).objs.size=s.heap.objs.size + 1:=Heap.size_push ..
 have W:=Walks.list (prog:=prog) (w:=w) (A:=A.in1) hh s.heap.objs.size l (Nat.ne_of_lt hlt) #[]
 have hSf:s.heap.objs.size + 1 ∉ [s.heap.objs.size,l]:=fun hm=>by
  rcases List.mem_cons.mp hm with e | hm
  ·exact absurd e (Nat.succ_ne_self _)
  ·rcases List.mem_cons.mp hm with e | hm
   ·exact Nat.lt_irrefl _ (Nat.lt_of_succ_lt (e ▸ hlt:s.heap.objs.size + 1 < s.heap.objs.size))
   ·cases hm
 rw [hname]
 refine wpAny_pure ⟨plainId_quiet F.plain_min_loop _,?_⟩
 show codeAny _ A (.builtin "min.loop" ⟨[.ref s.heap.objs.size,.none,.ref (s.heap.push _).objs.size],[("default",d)]⟩) _ _
 rw [hsz]
 refine min_noneK W hSf (W.frame _ _ _ ⟨⟨_,Heap.get?_push_size _ rfl,rfl,rfl⟩,hl.push _⟩ fun b _ o e=>Heap.get?_push_of_some _ e) (by rw [← hsz]; exact Heap.get?_push_size _ rfl) fun h' tk hk=>h h' tk fun b o e=>hk b o (fun hm=>?_) (Heap.get?_push_of_some _ (Heap.get?_push_of_some _ e))
 simp at hm
 exact absurd (hm ▸ Heap.lt_size e) (Nat.lt_irrefl _)
end
end PD
namespace PD
open PySem PySem.Spec PyProof.Rows L2
section
variable {prog:Program} {w:World} {A:Around} {E:Value→Shared→Prop} {s:Shared}
theorem min_twoK {x y:Value} {bt:Nat→Nat→Bool} {Q:Value→Shared→Prop} (hh:A.handled=none)
  (hcmp:KCmp prog w A.in1 s.heap (fun i v=>([x,y]:List Value).toArray[i]?=some v) bt)
  (h:∀ h' tk,(∀ b o,s.heap.get? b=some o→h'.get? b=some o)→Q (if bt 1 0=true then y else x) { s with heap:=h',toks:=tk }):
  wpAny (model prog w) A (call (.builtin "min") [x,y]) Q E s:=by
 have hname:(toString "min" ++ toString ".loop":String) = "min.loop":=by decide
 refine call_kw F.kind_min F.plain_min F.entry_min (F.args_min2 _ _) ?_
 show wpAny _ A.in1 (Builtin.Builtins.bindParams "min" ["key","default"] 0 ⟨[],[]⟩ >>= _) _ _ s
 refine wpAny_bind (wpAny_of_eq (show Builtin.Builtins.bindParams "min" ["key","default"] 0 ⟨[],[]⟩=pure [none,none] from rfl) ?_)
 show wpAny _ A.in1 (newTuple [x,y] >>= _) _ _ s
 refine wpAny_bind (wpAny_newObj_type ?_)
 have hT:(s.heap.push { cls:=.type "tuple",data:=.seq ([x,y]:List Value).toArray }).IsTuple s.heap.objs.size ([x,y]:List Value).toArray:=⟨_,Heap.get?_push_size _ rfl,rfl,0,rfl⟩
 refine wpAny_bind (wpAny_pyIter_tuple hT ?_)
 refine wpAny_bind (wpAny_newObj_type ?_)
 have hsz:(s.heap.push { cls:=.type "tuple",data:=.seq ([x,y]:List Value).toArray }).objs.size=s.heap.objs.size + 1:=Heap.size_push ..
 have W:=Walks.tuple (prog:=prog) (w:=w) (A:=A.in1) hh (s.heap.objs.size + 1) s.heap.objs.size (Nat.ne_of_lt (Nat.lt_succ_self _)) ([x,y]:List Value).toArray
 have hSf:s.heap.objs.size + 2 ∉ [s.heap.objs.size + 1,s.heap.objs.size]:=fun hm=>by
  rcases List.mem_cons.mp hm with e | hm
  ·exact absurd e (Nat.succ_ne_self _)
  ·rcases List.mem_cons.mp hm with e | hm
   ·exact absurd e (Nat.ne_of_gt (Nat.lt_succ_of_lt (Nat.lt_succ_self _)))
   ·cases hm
 rw [hname]
 refine wpAny_pure ⟨plainId_quiet F.plain_min_loop _,?_⟩
 have hsz2:∀ o:Obj,((s.heap.push { cls:=.type "tuple",data:=.seq ([x,y]:List Value).toArray }).push o).objs.size=s.heap.objs.size + 2:=fun o=>by rw [Heap.size_push,hsz]
 show codeAny _ A (.builtin "min.loop" ⟨[.ref (s.heap.push { cls:=.type "tuple",data:=.seq ([x,y]:List Value).toArray }).objs.size,.none,.ref ((s.heap.push { cls:=.type "tuple",data:=.seq ([x,y]:List Value).toArray }).push _).objs.size],[]⟩) _ _
 rw [hsz2,hsz]
 refine min_firstK (h0:=s.heap) W hcmp hSf (fun b hb=>?_) (Heap.get?_none_of_le (Nat.le_succ_of_le (Nat.le_succ _))) (Nat.succ_pos _) (W.frame _ _ _ ⟨⟨_,by rw [← hsz]; exact Heap.get?_push_size _ rfl,rfl,rfl⟩,hT.push _⟩ fun b _ o e=>Heap.get?_push_of_some _ e) (by rw [← hsz2]; exact Heap.get?_push_size _ rfl)
  (fun b o e=>Heap.get?_push_of_some _ (Heap.get?_push_of_some _ (Heap.get?_push_of_some _ e))) fun v h' tk hP hk=>?_
 ·rcases List.mem_cons.mp hb with e | hb
  ·rw [e]; exact Heap.get?_none_of_le (Nat.le_succ _)
  ·cases hb
 ·have hv:v=if bt 1 0=true then y else x:=by
   have hP':([x,y]:List Value).toArray[argBest bt 1]?=some v:=hP
   by_cases hb:bt 1 0=true
   ·have e:argBest bt 1=1:=by simp [argBest,hb]
    rw [e] at hP'; rw [if_pos hb]; cases hP'; rfl
   ·have e:argBest bt 1=0:=by simp [argBest,hb]
    rw [e] at hP'; rw [if_neg hb]; cases hP'; rfl
  rw [hv]
  exact h h' tk hk
end
theorem minZ_app:∀ (l:List Int) (m x:Int),minZ m (l ++ [x])=if x < minZ m l then x else minZ m l
 | [],m,x=>rfl
 | y :: l,m,x=>minZ_app l (if y < m then y else m) x
theorem argBest_Z (ns:List Int):∀ k:Nat,k < ns.length→ns.getD (argBest (fun i j=>decide (ns.getD i 0 < ns.getD j 0)) k) 0=minZ (ns.getD 0 0) ((ns.drop 1).take k)
 | 0,h=>rfl
 | k + 1,h=>by
  have h2:=argBest_Z ns k (by omega)
  have hd:(ns.drop 1)[k]?=some (ns.getD (k + 1) 0):=by
   rw [List.getElem?_drop,Nat.add_comm 1 k,List.getD_eq_getElem?_getD,List.getElem?_eq_getElem h]; rfl
  have ht:(ns.drop 1).take (k + 1)=(ns.drop 1).take k ++ [ns.getD (k + 1) 0]:=by
   rw [List.take_succ,hd]; rfl
  rw [ht,minZ_app,← h2]
  simp only [argBest]
  by_cases hb:ns.getD (k + 1) 0 < ns.getD (argBest (fun i j=>decide (ns.getD i 0 < ns.getD j 0)) k) 0
  ·rw [if_pos (decide_eq_true hb),if_pos hb]
  ·rw [if_neg (by simpa using hb),if_neg hb]
theorem intsAt:∀ {vs:List Value} {ns:List Int},IntsAre vs ns→∀ (i:Nat) (v:Value),vs[i]?=some v→∃ t,v=.int (ns.getD i 0) t
 | _,_,.nil,i,v,h=>by simp at h
 | _,_,.cons n t r,0,v,h=>by cases h; exact ⟨t,rfl⟩
 | _,_,.cons n t r,i + 1,v,h=>intsAt r i v (by simpa using h)
noncomputable def fMinT:Sto→List D→Option D
 | _,[.tup a,.tup b]=>match intsOf a,intsOf b with
  | some n,some m=>some (if ltZ m n=true then .tup (m.map .int) else .tup (n.map .int))
  | _,_=>none
 | _,_=>none
noncomputable def fMin3:Sto→List D→Option D
 | S,[.tup a,.tup b]=>fMinT S [.tup a,.tup b]
 | S,ds=>fMin2 S ds
noncomputable def fMinD:Sto→List D→Option D
 | S,[d]=>match isLst S d with
  | some []=>some .non
  | some (x :: a)=>match tupsOf (x :: a),intsOf (x :: a) with
   | some (n :: ns),_=>some (.tup ((minT n ns).map .int))
   | none,some (n :: ns)=>some (.int (minZ n ns))
   | _,_=>none
  | none=>none
 | _,_=>none
noncomputable def CallK (X:Cx) (f:Value) (kw:List (Str × Value)) (r:List V→Hp→VK→Prop):Prop:=
 ∀ (pins:List (Addr × Obj)) (s:Shared) (σ:L2.St) (H:Hp) (xs:List V) (us:List Value) (Q:VK),Inv X pins σ H s→Vals xs us→r xs H Q→
  wpAny (model X.prog X.w) X.A (call f us kw) (EP X pins σ Q) X.xe s
theorem two_are {α:Type} {us:List α} (h:us.length=2):∃ x y,us=[x,y]:=by
 rcases us with _ | ⟨x,_ | ⟨y,_ | ⟨z,r⟩⟩⟩
 ·simp at h
 ·simp at h
 ·exact ⟨x,y,rfl⟩
 ·simp at h
section
variable {X:Cx} {E:XK}
theorem xc_minT {k:Nat} (hc:X.calm=true) (hr:Room k X.A):CallR X (.builtin "min") (xC X.K E fMinT):=by
 rintro pins s σ H xs us Q I r ⟨w,S,ds,hS,qs,p⟩
 obtain ⟨z,hz,p'⟩:=p.of
 clear p
 unfold fMinT at hz
 split at hz
 ·rename_i a b
  split at hz
  ·rename_i n m e1 e2
   cases hz
   have e:tupsOf [.tup a,.tup b]=some [n,m]:=by simp only [tupsOf,e1,e2]
   obtain ⟨t,g⟩:=tups_are I qs r e
   obtain ⟨x,y,rfl⟩:∃ x y,us=[x,y]:=two_are t.1
   refine min_twoK (I.ok.hd hc) (kcmp_tups t (by have:=hr.un; show X.A.units + 1 < cLine; omega)) fun h' tk hk=>?_
   have e0:ltZ (([n,m]:List (List Int)).getD 1 []) (([n,m]:List (List Int)).getD 0 [])=ltZ m n:=rfl
   rw [e0]
   by_cases hb:ltZ m n=true
   ·rw [if_pos hb] at p' ⊢
    obtain ⟨v,rv,rd⟩:=g 1 y rfl
    exact ⟨v,H,I.kept (t':=tk) hk,rv,p'.ret rd hS⟩
   ·rw [if_neg hb] at p' ⊢
    obtain ⟨v,rv,rd⟩:=g 0 x rfl
    exact ⟨v,H,I.kept (t':=tk) hk,rv,p'.ret rd hS⟩
  ·cases hz
 ·cases hz
theorem xc_min3 {k:Nat} (hc:X.calm=true) (hr:Room k X.A):CallR X (.builtin "min") (xC X.K E fMin3):=xc_or (xc_minT hc hr) (xc_min2 hc) fun S ds=>by
 unfold fMin3
 split
 ·exact .inl rfl
 ·exact .inr rfl
theorem xk_minD {k:Nat} (hc:X.calm=true) (hr:Room k X.A):CallK X (.builtin "min") [("default",.none)] (xC X.K E fMinD):=by
 rintro pins s σ H xs us Q I r ⟨w,S,ds,hS,qs,p⟩
 obtain ⟨z,hz,p'⟩:=p.of
 clear p
 unfold fMinD at hz
 split at hz
 ·rename_i d
  obtain ⟨v,rfl,q⟩:=qs.one_inv
  obtain ⟨u,rfl,rx⟩:=vals1 r
  split at hz
  ·rename_i ha
   cases hz
   obtain ⟨pa,vs,rfl,sq,ra⟩:=lst_at hS q ha
   cases rx
   obtain ⟨its,r',pl,_⟩:=I.list sq
   rw [ra.nil_inv] at r'
   cases r'
   exact min_emptyK (I.ok.hd hc) pl.isList fun h' tk hk=>⟨.non,H,I.kept (t':=tk) hk,rfl,p'.ret (by unfold RD; rfl) hS⟩
  ·rename_i x a ha
   obtain ⟨pa,vs,rfl,sq,ra⟩:=lst_at hS q ha
   cases rx
   obtain ⟨its,r',pl,_⟩:=I.list sq
   split at hz
   ·rename_i n ns e
    cases hz
    obtain ⟨t,g⟩:=tups_are I ra r' e
    have hl:its.length=ns.length + 1:=by rw [t.1]; rfl
    refine min_listK (df:=some .none) (I.ok.hd hc) pl.isList (by omega) (args_minD _ _) rfl (kcmp_tups t (by have:=hr.un; show X.A.units + 1 < cLine; omega)) fun v h' tk hv hk=>?_
    obtain ⟨y,ry,rd⟩:=g _ v hv
    obtain ⟨_,b2⟩:=argBest_T (n :: ns) (its.length - 1) (by rw [hl]; exact Nat.lt_succ_self _)
    have b3:minT ((n :: ns).getD 0 []) (((n :: ns).drop 1).take (its.length - 1))=minT n ns:=by
     rw [hl]
     show minT n (ns.take ns.length)=minT n ns
     rw [List.take_length]
    rw [b2,b3] at rd
    exact ⟨y,H,I.kept (t':=tk) hk,ry,p'.ret rd hS⟩
   ·rename_i n ns _ e
    cases hz
    have ia:=ints_are ra r' e
    have hl:its.length=(n :: ns).length:=ia.length
    have hcmp:KCmp X.prog X.w X.A.in1 s.heap (fun i v=>its.toArray[i]?=some v) (fun i j=>decide ((n :: ns).getD i 0 < (n :: ns).getD j 0)):=by
     intro i j vi vj s1 Q1 E1 hk hi hj h
     obtain ⟨t1,rfl⟩:=intsAt ia i vi (by simpa using hi)
     obtain ⟨t2,rfl⟩:=intsAt ia j vj (by simpa using hj)
     exact intLtAt X.prog X.w h
    refine min_listK (df:=some .none) (I.ok.hd hc) pl.isList (by rw [hl]; exact Nat.succ_pos _) (args_minD _ _) rfl hcmp fun v h' tk hv hk=>?_
    obtain ⟨t1,rfl⟩:=intsAt ia _ v hv
    have b:=argBest_Z (n :: ns) (its.length - 1) (by rw [hl]; exact Nat.lt_succ_self _)
    have b3:minZ ((n :: ns).getD 0 0) (((n :: ns).drop 1).take (its.length - 1))=minZ n ns:=by
     rw [hl]
     show minZ n (ns.take ns.length)=minZ n ns
     rw [List.take_length]
    rw [b3] at b
    refine ⟨.int (minZ n ns),H,I.kept (t':=tk) hk,⟨t1,?_⟩,p'.ret RD.mkI hS⟩
    rw [b]
   ·cases hz
  ·cases hz
 ·cases hz
variable {a:Expr} {ms:AM} {x:Str} {p pos kp:Pos} {id:String} {nm:Str}
theorem pe_callBD {r:List V→Hp→VK→Prop} {t:TA} {j:Nat} {cp:Pos} (hc:CallK X (.builtin id) [(nm,.none)] r) (hg:Gl X x) (hm:X.mg x=none) (hv:bootBuiltins x=some (.builtin id)) (ha:PA X [a] t) (hn:autoParam (x ≠ "__name__") Au.h2._auto_1) (hdb:autoParam ((x == ("__debug__":Str))=false) Au.h2._auto_1)
  (he:autoParam (backTo pos (starEach [a] X.env)=(false,eval a X.env) :: backTo pos (starEach [] X.env)) Au.h1._auto_1) (hpl:autoParam ((backTo pos (starEach [a] X.env)).any (·.1)=false) Au.h1._auto_1):PE X (.Call (.Name x p) [a] [⟨some nm,.Constant .none j cp,kp⟩] pos) (tCB r t):=by
 intro pins s σ H Q I h
 refine wpAny_Call_Name_kw (ld_blt I hg hm hv ?_ hn hdb)
 refine callWith_kw (thn (ha pos pins s σ H _ I h) fun us s1 zq=>ex5 zq fun vs H1 I1 r1 q1=>kws_cons ?_) he hpl
 exact Constant_none (kws_nil (hc pins s1 σ H1 vs us Q I1 r1 q1))
theorem se_callBD {f:Sto→List D→Option D} {j:Nat} {cp:Pos} (hc:CallK X (.builtin id) [(nm,.none)] (xC X.K E f)) (hg:Gl X x) (hm:X.mg x=none) (hv:bootBuiltins x=some (.builtin id)) (ha:SA X E [a] ms) (hn:autoParam (x ≠ "__name__") Au.h3._auto_1) (hdb:autoParam ((x == ("__debug__":Str))=false) Au.h3._auto_1)
  (he:autoParam (backTo pos (starEach [a] X.env)=(false,eval a X.env) :: backTo pos (starEach [] X.env)) Au.h0._auto_1) (hpl:autoParam ((backTo pos (starEach [a] X.env)).any (·.1)=false) Au.h0._auto_1):SE X E (.Call (.Name x p) [a] [⟨some nm,.Constant .none j cp,kp⟩] pos) (eB f ms):=⟨
 pe_weak (pe_callBD hc hg hm hv ha.out hn hdb he hpl) fun s H Q zq=>ex6 zq fun w r S hr hS hp=>⟨w,r,S,hr,hS,hp.bind hS fun ds S1 w1 H1 vs x1 q1 s1 p1=>⟨w1,S1,ds,s1,q1,p1⟩⟩⟩
end
end PD
namespace SR
open PySem PyProof.Rows
noncomputable abbrev SM (α:Type):=StateT SortSt Sem α
section
variable {prog:Program} {w:World} {A:Around} {E:Value→Shared→Prop} {s:Shared}
end
section
variable {prog:Program} {w:World} {A:Around} {E:Value→Shared→Prop} {s:Shared}
end
end SR
namespace SR
open PySem PyProof.Rows
section
variable {a b o:Array Keyed} {i j k:Nat}
end
section
variable {prog:Program} {w:World} {A:Around} {E:Value→Shared→Prop} {s:Shared}
end
end SR
namespace SR
open PySem PyProof.Rows
section
variable {prog:Program} {w:World} {A:Around} {E:Value→Shared→Prop} {s:Shared}
end
end SR
namespace SR
open PySem PyProof.Rows
section
variable {a b o:Array Keyed} {i j k z:Nat}
end
section
variable {prog:Program} {w:World} {A:Around} {E:Value→Shared→Prop} {s:Shared}
end
end SR
namespace SR
open PySem PyProof.Rows
section
variable {prog:Program} {w:World} {A:Around} {E:Value→Shared→Prop} {s:Shared} {a0 A0:Array Keyed} {P:Array (Nat × Nat × Nat)} {lo:Nat}
end
end SR
namespace SR
open PySem PyProof.Rows
section
variable {prog:Program} {w:World} {A:Around} {E:Value→Shared→Prop} {s:Shared} {a0 A0:Array Keyed} {P:Array (Nat × Nat × Nat)} {lo:Nat}
end
end SR
namespace SR
open PySem PyProof.Rows
section
variable {prog:Program} {w:World} {A:Around} {E:Value→Shared→Prop} {s:Shared} {a0:Array Keyed}
end
end SR
namespace SR
open PySem PyProof.Rows
section
variable {prog:Program} {w:World} {A:Around} {E:Value→Shared→Prop} {s:Shared} {a0:Array Keyed}
end
end SR
namespace SR
open PySem PyProof.Rows
section
variable {prog:Program} {w:World} {A:Around} {E:Value→Shared→Prop} {s:Shared}
end
end SR
namespace SQ
open PySem PySem.Spec PyProof.Rows
section
variable {prog:Program} {w:World} {A:Around} {E:Value→Shared→Prop} {s:Shared}
end
end SQ
namespace PD
open PySem PySem.Spec PyProof.Rows L2
section
variable {X:Cx} {E:XK}
end
end PD
namespace PD
open PySem PySem.Spec PyProof.Rows L2
section
variable {prog:Program} {w:World} {A:Around} {R:Result→Shared→Prop} {I:Addr} {fp wr:List Addr} {n:Nat} {P:Nat→Value→Prop} {St:Nat→Heap→Prop} {h0:Heap} {bt:Nat→Nat→Bool} {S:Addr} {kw:List (Str × Value)}
end
section
variable {prog:Program} {w:World} {A:Around} {E:Value→Shared→Prop} {s:Shared}
end
section
variable {X:Cx} {E:XK}
end
end PD
namespace L2
open PySem PySem.Spec PyProof.Rows
section
variable {X:Cx} {tg:Expr}
end
end L2
namespace PD
open PySem PySem.Spec PyProof.Rows L2
section
variable {X:Cx} {E:XK}
end
end PD
namespace PD
open PySem PySem.Spec PyProof.Rows L2
section
variable {X:Cx} {E:XK}
end
end PD
namespace PD
open PySem PySem.Spec PyProof.Rows L2
section
variable {X:Cx} {E:XK} {a:Expr} {ma:EM}
end
end PD
namespace PySem
open PyProof.Rows
namespace F
end F
section
variable {prog:Program} {w:World} {A:Around} {E:Value→Shared→Prop} {s:Shared}
open AutoSeq1 (wpAny_loadPart')
end
end PySem
namespace L2
open PySem PySem.Spec PyProof.Rows
section
variable {X:Cx}
end
end L2
namespace PD
open PySem PySem.Spec PyProof.Rows L2
section
variable {X:Cx} {E:XK} {a:Expr}
end
end PD
namespace L2
open PySem PySem.Spec PyProof.Rows
section
variable {X:Cx}
end
end L2
namespace PD
open PySem PySem.Spec PyProof.Rows L2
section
variable {X:Cx} {E:XK}
end
end PD
namespace PySem
section
variable {M:Model} {A:Around} {E:Value→Shared→Prop} {s:Shared} {env:Env}
end
end PySem
namespace L2
open PySem PySem.Spec PyProof.Rows
section
variable {X:Cx} {pins:List (Addr × Obj)} {σ:St} {H:Hp} {s:Shared}
end
end L2
namespace PD
open PySem PySem.Spec PyProof.Rows L2
section
variable {X:Cx} {E:XK}
end
end PD
namespace PD
open PySem PySem.Spec PyProof.Rows L2
section
variable {X:Cx} {E:XK}
end
end PD
namespace PD
open PySem PySem.Spec PyProof.Rows L2
section
variable {prog:Program} {w:World} {A:Around} {Ex:Value→Shared→Prop} {s:Shared}
end
section
variable {X:Cx} {E:XK}
end
end PD
namespace L2
open PySem PySem.Spec PyProof.Rows
section
variable {X:Cx}
end
end L2
namespace PD
open PySem PySem.Spec PyProof.Rows L2
section
variable {X:Cx} {E:XK} {a:Expr}
end
end PD
namespace PySem
open PyProof.Rows
open Sem (wp)
namespace F
end F
section
variable {prog:Program} {w:World} {A:Around} {E:Value→Shared→Prop}
end
section
variable {prog:Program} {w:World} {K:Type} [DecidableEq K] {knd:KeyKind prog w K} {A:Around} {R:Result→Shared→Prop}
end
section
variable {prog:Program} {w:World} {K:Type} [DecidableEq K] {knd:KeyKind prog w K} {A:Around} {E:Value→Shared→Prop} {s:Shared}
end
end PySem
namespace L2
open PySem PySem.Spec PyProof.Rows
section
variable {X:Cx}
end
end L2
namespace PD
open PySem PySem.Spec PyProof.Rows L2
section
variable {X:Cx} {E:XK}
end
end PD
namespace L2
open PySem PySem.Spec PyProof.Rows
section
variable {X:Cx}
end
end L2
namespace PD
open PySem PySem.Spec PyProof.Rows L2
section
variable {X:Cx} {E:XK}
variable {d:Expr} {md:EM} {x:Str} {p pos0 apos pos:Pos}
end
section
variable {X:Cx} {E:XK}
end
end PD
namespace PD
open PySem PySem.Spec PyProof.Rows L2
noncomputable def putFD (f:Str) (v:D):List (Str × D)→List (Str × D)
 | []=>[(f,v)]
 | (g,x) :: r=>if g=f then (g,v) :: r else (g,x) :: putFD f v r
section
variable {K:PySem.W.Frag} {w w':Wd} {H H':Hp}
theorem RDf.nil:RDf K w H [] []:=⟨rfl,.nil⟩
theorem RDf.ext {fs:List (Str × D)} {us:List (Str × V)} (x:Ext w H w' H') (q:RDf K w H fs us):RDf K w' H' fs us:=⟨q.1,RDs.ext x _ _ q.2⟩
theorem RDf.get (f:Str):∀ {fs:List (Str × D)} {us:List (Str × V)},RDf K w H fs us→(∀ d,fs.lookup f=some d→∃ v,us.lookup f=some v∧RD K w H d v)∧(fs.lookup f=none→us.lookup f=none)
 | [],us,q=>by
  have:us=[]:=by have:=congrArg List.length q.1; simpa using this.symm
  rw [this]
  exact ⟨fun d h=>(by cases h),fun _=>rfl⟩
 | (g,d) :: fs,us,q=>by
  obtain ⟨q1,q2⟩:=q
  cases us with
  | nil=>cases q1
  | cons u us=>
   rw [List.map_cons,List.map_cons] at q1 q2
   injection q1 with e1 e2
   obtain ⟨v,r,e,p,t⟩:=q2.cons_inv
   injection e with e3 e4
   subst e4
   obtain ⟨h1,h2⟩:=RDf.get f (fs:=fs) (us:=us) ⟨e2,t⟩
   have eg:u.1=g:=e1.symm
   rw [← e3] at p
   obtain ⟨ug,uv⟩:=u
   cases (show ug=g from eg)
   rw [List.lookup_cons,List.lookup_cons]
   cases hg:f == g with
   | true=>exact ⟨fun d' h=>by cases h; exact ⟨uv,rfl,p⟩,fun h=>by cases h⟩
   | false=>exact ⟨h1,h2⟩
theorem RDf.put (f:Str) {d:D} {v:V} (hd:RD K w H d v):∀ {fs:List (Str × D)} {us:List (Str × V)},RDf K w H fs us→RDf K w H (putFD f d fs) (putF f v us)
 | [],us,q=>by
  have:us=[]:=by have:=congrArg List.length q.1; simpa using this.symm
  rw [this]
  exact ⟨rfl,.cons hd .nil⟩
 | (g,e) :: fs,us,q=>by
  obtain ⟨q1,q2⟩:=q
  cases us with
  | nil=>cases q1
  | cons u us=>
   rw [List.map_cons,List.map_cons] at q1 q2
   injection q1 with e1 e2
   obtain ⟨v',r,e',p,t⟩:=q2.cons_inv
   injection e' with e3 e4
   subst e4
   rw [← e3] at p
   obtain ⟨ug,uv⟩:=u
   cases (show ug=g from e1.symm)
   unfold putFD putF
   by_cases hg:g=f
   ·rw [if_pos hg,if_pos hg]
    exact ⟨by rw [List.map_cons,List.map_cons,e2],.cons hd t⟩
   ·rw [if_neg hg,if_neg hg]
    obtain ⟨a,b⟩:=RDf.put f hd (fs:=fs) (us:=us) ⟨e2,t⟩
    exact ⟨by rw [List.map_cons,List.map_cons,a],.cons p b⟩
theorem RDf.len {fs:List (Str × D)} {us:List (Str × V)} (q:RDf K w H fs us):us.length=fs.length:=by
 have:=congrArg List.length q.1
 simpa using this.symm
end
noncomputable def ClsI (K:PySem.W.Frag) (c:Str):Prop:=∃ C,PySem.W.nsIn K mainGlobals c=some (some (.ref C))∧L2.Cls K C
noncomputable def NoA (K:PySem.W.Frag) (c f:Str):Prop:=∃ C,PySem.W.nsIn K mainGlobals c=some (some (.ref C))∧NoAttr K C f
structure MetN (P:Program) (w:World) (K:PySem.W.Frag) (mg:Str→Option Value) (base:Heap) (c m:Str) (k n:Nat) (f:FM):Prop where
 ex:∃ (C fa:Addr) (fd:FuncData) (ps:List Str),PySem.W.nsIn K mainGlobals c=some (some (.ref C))∧L2.Cls K C∧Meth K C m fa∧Binds K fd ps []∧FnOk P w K mg base (CX1 P w) k fa fd ps (spN K n f)
structure MakN (P:Program) (w:World) (K:PySem.W.Frag) (mg:Str→Option Value) (base:Heap) (c:Str) (k:Nat) (f:FM):Prop where
 ex:∃ (C fa:Addr) (fd:FuncData) (ps:List Str),PySem.W.nsIn K mainGlobals c=some (some (.ref C))∧mg c=some (.ref C)∧Mk K C fa∧Binds K fd ps []∧FnOk P w K mg base (CX1 P w) k fa fd ps (spN K 1 f)
noncomputable def insOf (c:Str) (S:Sto):D→Option (Nat × List (Str × D))
 | .ref n=>match S[n]? with
  | some (.ins c' fs)=>if c'=c then some (n,fs) else none
  | _=>none
 | _=>none
noncomputable def eFld (c f:Str) (a:EM):EM:=fun r S=>(a r S).bind fun x S1=>match insOf c S1 x with
 | some (_,fs)=>R.of S1 (fs.lookup f)
 | none=>.bad
noncomputable def sFldP (c f:Str) (o v:EM):SM:=fun r S=>(v r S).bind fun y S1=>(o r S1).bind fun x S2=>match insOf c S2 x with
 | some (n,fs)=>if fs.length < 1000 then .ok (.nx r) (S2.set n (.ins c (putFD f y fs))) else .bad
 | none=>.bad
noncomputable def eMet (c m:Str) (f:FM) (o:EM) (t:AM):EM:=fun r S=>(o r S).bind fun x S1=>match insOf c S1 x with
 | some (_,fs)=>if fs.lookup m=none then (t r S1).bind fun ds S2=>f (x :: ds) S2 else .bad
 | none=>.bad
noncomputable def eMak (c:Str) (f:FM):EM:=fun _ S=>(f [.ref S.length] (S ++ [.ins c []])).bind fun d S1=>match d with
 | .non=>.ok (.ref S.length) S1
 | _=>.bad
theorem ins_at {K:PySem.W.Frag} {w:Wd} {H:Hp} {S:Sto} {c:Str} {d:D} {v:V} {n:Nat} {fs:List (Str × D)} (hS:RS K w H S) (q:RD K w H d v) (h:insOf c S d=some (n,fs)):∃ p C dx us,v=.ref p∧w.st[n]?=some p∧d=.ref n∧S[n]?=some (.ins c fs)∧PySem.W.nsIn K mainGlobals c=some (some (.ref C))∧H p=some (.ins C dx us)∧RDf K w H fs us:=by
 unfold insOf at h
 split at h
 ·rename_i m
  split at h
  ·rename_i c' fs' e
   split at h
   ·rename_i hc
    subst hc
    cases h
    obtain ⟨p,rfl,hp⟩:=q.refI
    obtain ⟨p',hp',C,dx,us,ns,hv,r⟩:=hS.obj _ _ e
    rw [hp] at hp'; cases hp'
    exact ⟨p,C,dx,us,rfl,hp,rfl,e,ns,hv,r⟩
   ·cases h
  ·cases h
 ·cases h
section
variable {X:Cx} {E:XK} {c f m x:Str} {a b o v:Expr} {ma mo mv:EM} {es:List Expr} {ms:AM} {k n:Nat} {F:FM} {p pos apos tpos:Pos}
theorem se_fld (hc:ClsI X.K c) (hn:NoA X.K c f) (ha:SE X E a ma) (hb:autoParam (attributeBase a f X.env (eval a X.env)=eval a X.env) Au.h0._auto_1):SE X E (.Attribute a f pos) (eFld c f ma):=⟨
 pe_weak (pe_fld ha.out hb) fun s H Q zq=>ex6 zq fun w r S hr hS hp=>⟨w,r,S,hr,hS,hp.bind hS fun d S1 w1 H1 u x1 q1 s1 p1=>by
  cases e:insOf c S1 d with
  | none=>simp only [e] at p1; exact p1.elim
  | some z=>
   obtain ⟨n,fs⟩:=z
   simp only [e] at p1
   obtain ⟨y,hy,p⟩:=p1.of
   obtain ⟨pp,C,dx,us,rfl,hpp,rfl,hs,ns,hv,rf⟩:=ins_at s1 q1 e
   obtain ⟨C1,n1,c1⟩:=hc
   obtain ⟨C2,n2,c2⟩:=hn
   rw [ns] at n1 n2
   cases n1; cases n2
   obtain ⟨vv,h1,h2⟩:=(rf.get f).1 y hy
   exact ⟨pp,C,dx,us,vv,rfl,hv,c1,c2,h1,p.ret h2 s1⟩⟩⟩
theorem ss_fld (hc:ClsI X.K c) (hn:NoA X.K c f) (ho:SE X E o mo) (hv:SE X E v mv) (hs:autoParam (swapsWith v (some (.Attribute o f tpos)) pos.line X.env=pure false) Au.h0._auto_1):SS X E (.Assign [.Attribute o f tpos] v pos) (sFldP c f mo mv):=⟨
 ps_weak (ps_fld ho.out hv.out hs) fun D s H zq=>ex6 zq fun w r S hr hS hp=>⟨w,r,S,hr,hS,hp.bind hS fun y S1 w1 H1 vy x1 q1 s1 p1=>⟨w1,r,S1,hr.ext x1,s1,p1.bind s1 fun d S2 w2 H2 u x2 q2 s2 p2=>by
  cases e:insOf c S2 d with
  | none=>simp only [e] at p2; exact p2.elim
  | some z=>
   obtain ⟨n,fs⟩:=z
   simp only [e] at p2
   by_cases hl:fs.length < 1000
   ·rw [if_pos hl] at p2
    obtain ⟨pp,C,dx,us,rfl,hpp,rfl,hs,ns,hv,rf⟩:=ins_at s2 q2 e
    obtain ⟨C1,n1,c1⟩:=hc
    obtain ⟨C2,n2,c2⟩:=hn
    have n1':=n1
    rw [ns] at n1 n2
    cases n1; cases n2
    have hm:pp ∈ w2.st:=List.mem_of_getElem? hpp
    refine ⟨pp,C,dx,us,rfl,hv,c1,c2,by rw [rf.len]; exact hl,?_⟩
    have rf':RDf X.K w2 (upd H2 pp (.ins C dx (putF f vy us))) (putFD f y fs) (putF f vy us):=RDf.ext (Ext.mut hm hv) (rf.put f (RD.ext x2 _ _ q1))
    exact Post.at (b:=FV.nx s) p2 (Ext.mut hm hv) ⟨s,rfl,((hr.ext x1).ext x2).ext (Ext.mut hm hv)⟩ (s2.mut hpp hv ⟨C,dx,_,n1',upd_same,rf'⟩)
   ·rw [if_neg hl] at p2; exact p2.elim⟩⟩⟩
theorem met_core {sp:Sp} {C:Addr} {w:Wd} {H:Hp} {r:Rho} {S:Sto} {Q:VK} {s:L2.St} (ns:PySem.W.nsIn X.K mainGlobals c=some (some (.ref C))) (hn:ALen ms n) (hr:RSt X.K w H r s) (hS:RS X.K w H S) (hp:Post X.K E (RD X.K) w H (eMet c m F mo ms r S) Q)
  (hsp:∀ (vs:List V) (H2:Hp),vs.length=n + 1→(∃ w2 S2 ds,RS X.K w2 H2 S2∧RDs X.K w2 H2 ds vs∧Post X.K E (RD X.K) w2 H2 (F ds S2) Q)→sp vs H2 Q E):
  Post X.K E (RD X.K) w H (mo r S) fun x H1=>∃ a dx fs,x=.ref a∧H1 a=some (.ins C dx fs)∧fs.lookup m=none∧uA X.K E ms s H1 fun vs H2=>sp (x :: (vs ++ [])) H2 Q E:=by
 refine Post.bind (r:=mo r S) hp hS fun d S1 w1 H1 u x1 q1 s1 p1=>?_
 cases e:insOf c S1 d with
 | none=>simp only [e] at p1; exact p1.elim
 | some z=>
  obtain ⟨i,fs⟩:=z
  simp only [e] at p1
  by_cases hl:fs.lookup m=none
  ·rw [if_pos hl] at p1
   obtain ⟨pp,C',dx,us,rfl,hpp,rfl,hs,ns',hv,rf⟩:=ins_at s1 q1 e
   rw [ns] at ns'
   cases ns'
   refine ⟨pp,dx,us,rfl,hv,(rf.get m).2 hl,w1,r,S1,hr.ext x1,s1,?_⟩
   cases ea:ms r S1 with
   | bad=>rw [ea] at p1; exact p1.elim
   | err y S'=>rw [ea] at p1; exact p1
   | ok ds S'=>
    rw [ea] at p1
    intro w2 H2 vs x2 q2 s2
    rw [List.append_nil]
    exact hsp _ _ (by rw [List.length_cons,q2.length,hn r S1 ds S' ea]) ⟨w2,S',.ref i :: ds,s2,.cons (RD.ext x2 _ _ q1) q2,Post.ext (r:=F (.ref i :: ds) S') p1 x2 s1 s2⟩
  ·rw [if_neg hl] at p1; exact p1.elim
theorem se_metN {pl:Sem Bool} (M:MetN X.prog X.w X.K X.mg X.base c m k (n + 1) F) (hr:Room k X.A) (ho:SE X E0 o mo) (ha:SA X E0 (a :: es) ms) (hn:ALen ms n)
  (hst:autoParam (starEach (a :: es) X.env=(false,eval a X.env) :: starEach es X.env) Au.h0._auto_1) (hpl:autoParam ((backTo pos (starEach es X.env)).any (·.1)=false) Au.h0._auto_1)
  (ht:autoParam (eval (.Call (.Attribute o m apos) (a :: es) [] pos) X.env=(do
   let ov ← eval o X.env
   standAt apos.atName
   let (g,first) ← holding [ov] (getMethod ov m pl)
   callWith pos g first (backTo pos (starEach (a :: es) X.env)) (backToKw pos (keywordEach [] X.env)))) Au.h1._auto_1):SE X E0 (.Call (.Attribute o m apos) (a :: es) [] pos) (eMet c m F mo ms):=by
 obtain ⟨C,fa,fd,ps,ns,hc,hm,hb,Fo⟩:=M.ex
 exact ⟨pe_weak (pe_meth ho.out hc hm Fo hr hb (dvs:=[]) .nil passes_no ha.out hst hpl ht) fun s H Q zq=>ex6 zq fun w r S hr hS hp=>⟨w,r,S,hr,hS,met_core ns hn hr hS hp fun vs H2 hl h=>⟨hl,h⟩⟩⟩
theorem se_metN0 {pl:Sem Bool} (M:MetN X.prog X.w X.K X.mg X.base c m k 1 F) (hr:Room k X.A) (ho:SE X E0 o mo)
  (ht:autoParam (eval (.Call (.Attribute o m apos) [] [] pos) X.env=(do
   let ov ← eval o X.env
   standAt apos.atName
   let (g,first) ← holding [ov] (getMethod ov m pl)
   callWith pos g first (backTo pos (starEach [] X.env)) (backToKw pos (keywordEach [] X.env)))) Au.h1._auto_1):SE X E0 (.Call (.Attribute o m apos) [] [] pos) (eMet c m F mo aNil):=by
 obtain ⟨C,fa,fd,ps,ns,hc,hm,hb,Fo⟩:=M.ex
 refine ⟨pe_weak (pe_meth0 ho.out hc hm Fo hr hb (dvs:=[]) .nil passes_no ht) fun s H Q zq=>ex6 zq fun w r S hr hS hp=>⟨w,r,S,hr,hS,?_⟩⟩
 have z:=met_core (n:=0) (sp:=spN X.K 1 F) (E:=E0) ns alen_nil hr hS hp fun vs H2 hl h=>⟨hl,h⟩
 cases e:mo r S with
 | bad=>rw [e] at z; exact z
 | err y S'=>rw [e] at z; exact z
 | ok d S'=>
  rw [e] at z
  intro w1 H1 u x1 q1 s1
  obtain ⟨a,dx,fs,e1,e2,e3,w2,r2,S2,_,s2,pp⟩:=z w1 H1 u x1 q1 s1
  exact ⟨a,dx,fs,e1,e2,e3,Post.ret (a:=([]:List D)) (b:=([]:List V)) pp .nil s2⟩
theorem se_mak (M:MakN X.prog X.w X.K X.mg X.base c k F) (hr:Room (k + 1) X.A) (hg:Gl X c) (hdb:autoParam ((c == ("__debug__":Str))=false) Au.h3._auto_1):SE X E0 (.Call (.Name c p) [] [] pos) (eMak c F):=by
 obtain ⟨C,fa,fd,ps,ns,hmg,hm,hb,Fo⟩:=M.ex
 refine ⟨pe_weak (pe_make0 hm Fo hr hg hmg hb (dvs:=[]) .nil passes_no hdb) fun s H Q zq=>?_⟩
 obtain ⟨w,r,S,hr,hS,hp⟩:=zq
 intro y dx hy hdx hne
 have hy':(upd H dx (.own y)) y=none:=by rw [upd_ne (Ne.symm hne)]; exact hy
 have s0:RS X.K w (upd H dx (.own y)) S:=hS.new hdx
 have s1:RS X.K (w.add y) (upd (upd H dx (.own y)) y (.ins C dx [])) (S ++ [.ins c []]):=s0.alloc hy' ⟨C,dx,[],ns,upd_same,.nil⟩
 have x1:Ext w H (w.add y) (upd (upd H dx (.own y)) y (.ins C dx [])):=(Ext.new hdx).trans' (Ext.alloc hy') hS s0
 have hp1:Post X.K E0 (RD X.K) (w.add y) (upd (upd H dx (.own y)) y (.ins C dx [])) ((F [.ref S.length] (S ++ [.ins c []])).bind fun d S1=>match d with
  | .non=>.ok (.ref S.length) S1
  | _=>.bad) Q:=Post.ext hp x1 hS s1
 refine ⟨rfl,w.add y,S ++ [.ins c []],[.ref S.length],s1,.cons s0.lastRef .nil,?_⟩
 refine Post.bind (r:=F [.ref S.length] (S ++ [.ins c []])) hp1 s1 fun d S2 w2 H2 u x2 q2 s2 p2=>?_
 cases d with
 | non=>
  refine ⟨?_,Post.ret p2 (RD.ext x2 _ _ s0.lastRef) s2⟩
  unfold RD at q2
  exact q2
 | _=>exact p2.elim
end
section
variable {P:Program} {w:World} {K:PySem.W.Frag} {mg:Str→Option Value} {base:Heap}
theorem met_ofN {c x q:Str} {st:Stmt} {C f:Addr} {fd:FuncData} {m:SM} (N ps:List Str) (k k1 n0 n1:Nat) (hk:k1=k + 1) (h0:n0=ps.length) (h1:n1=N.length) (F:Fun K x q st f fd) (ns:PySem.W.nsIn K mainGlobals c=some (some (.ref C))) (hc:L2.Cls K C) (hm:Meth K C x f) (hb:Binds K fd ps []) (S:FnScope N ps (defScope st))
  (hbody:∀ (cdv:Value) (A:Around) (outer:List Env) (s:Shared) (H:Hp) (E:XK),Room k (A.deeper (envOfC q (defScope st) s.heap.objs.size f cdv))→
   SSs (cxOf (CX1 P w) P w K mg base N q (defScope st) f cdv A outer s H E).nox E0 (defBody st) m):MetN P w K mg base c x k1 n0 (fnM n1 m):=by
 subst hk h0 h1
 exact ⟨C,f,fd,ps,ns,hc,hm,hb,fn_okN F S hbody⟩
theorem mak_of {c q:Str} {st:Stmt} {C f:Addr} {fd:FuncData} {m:SM} (N ps:List Str) (k k1 n1:Nat) (hk:k1=k + 1) (h0:1=ps.length) (h1:n1=N.length) (F:Fun K "__init__" q st f fd) (ns:PySem.W.nsIn K mainGlobals c=some (some (.ref C))) (hmg:mg c=some (.ref C)) (hm:Mk K C f) (hb:Binds K fd ps []) (S:FnScope N ps (defScope st))
  (hbody:∀ (cdv:Value) (A:Around) (outer:List Env) (s:Shared) (H:Hp) (E:XK),Room k (A.deeper (envOfC q (defScope st) s.heap.objs.size f cdv))→
   SSs (cxOf (CX1 P w) P w K mg base N q (defScope st) f cdv A outer s H E).nox E0 (defBody st) m):MakN P w K mg base c k1 (fnM n1 m):=by
 subst hk h1
 have z:=fn_okN F S hbody
 rw [← h0] at z
 exact ⟨C,f,fd,ps,ns,hmg,hm,hb,z⟩
end
end PD
namespace PD
open PySem PySem.Spec PyProof.Rows L2
noncomputable def mPop0:Sto→D→R D
 | S,.ref n=>match S[n]? with
  | some (.lst a)=>match a[a.length - 1]? with
   | some y=>.ok y (S.set n (.lst a.dropLast))
   | none=>.bad
  | _=>.bad
 | _,_=>.bad
noncomputable def ePop0 (o:EM):EM:=fun r S=>(o r S).bind fun x S1=>mPop0 S1 x
section
variable {X:Cx} {E:XK} {o:Expr} {mo:EM} {apos cpos:Pos}
theorem drop_rds {K:PySem.W.Frag} {w:Wd} {H:Hp} {ds:List D} {vs:List V} (q:RDs K w H ds vs):RDs K w H ds.dropLast vs.dropLast:=by
 rw [List.dropLast_eq_take,List.dropLast_eq_take,q.length]
 exact q.take _
theorem se_pop0 (ho:SE X E o mo) (hbase:autoParam (attributeBase o "pop" X.env (eval o X.env)=eval o X.env) Au.h0._auto_1) (hline:autoParam ((apos.endLine == cpos.line)=true) Au.h0._auto_1):SE X E (.Call (.Attribute o "pop" apos) [] [] cpos) (ePop0 mo):=⟨
 pe_weak (pe_bm0 PySem.F.plainAttrs_list PySem.F.slot_list_pop PySem.F.type_list_pop mt_pop ho.out hbase hline) fun s H Q zq=>ex6 zq fun w r S hr hS hp=>⟨w,r,S,hr,hS,hp.bind hS fun d S1 w1 H1 v x1 q1 s1 p1=>by
  unfold mPop0 at p1
  split at p1
  ·rename_i n
   split at p1
   ·rename_i a hn
    split at p1
    ·rename_i y hy
     obtain ⟨pp,rfl,hpp⟩:=q1.refI
     obtain ⟨p',hp',vs,hv,ra⟩:=s1.obj _ _ hn
     rw [hpp] at hp'; cases hp'
     have hm:pp ∈ w1.st:=List.mem_of_getElem? hpp
     obtain ⟨yv,hyv,ry⟩:=ra.get hy
     refine ⟨?_,pp,vs,yv,rfl,rfl,hv,by rw [ra.length]; exact hyv,Post.at p1 (Ext.mut hm hv) (RD.ext (Ext.mut hm hv) _ _ ry) ?_⟩
     ·exact isL_ok s1 (d:=.ref n) (by unfold RD; exact ⟨pp,rfl,hpp⟩) (by simp only [isL,hn])
     ·exact s1.mut hpp hv ⟨_,upd_same,RDs.ext (Ext.mut hm hv) _ _ (drop_rds ra)⟩
    ·exact p1.elim
   ·exact p1.elim
  ·exact p1.elim⟩⟩
end
end PD
namespace PD
open PySem PySem.Spec PyProof.Rows L2
noncomputable def fLenD:Sto→List D→Option D
 | S,[d]=>match dicOf S d with
  | some kvs=>some (.int kvs.length)
  | none=>fLen S [d]
 | _,_=>none
section
variable {X:Cx} {E:XK} {a b c:Expr} {ma mb mc:EM} {pos:Pos}
theorem xc_lenD:CallR X (.builtin "len") (xC X.K E fLenD):=by
 rintro pins s σ H xs us Q I r ⟨w,S,ds,hS,qs,p⟩
 obtain ⟨z,hz,p'⟩:=p.of
 unfold fLenD at hz
 split at hz
 ·rename_i d
  split at hz
  ·rename_i kvs e
   cases hz
   obtain ⟨v,rfl,q⟩:=qs.one_inv
   obtain ⟨pp,us',rfl,rd,rk⟩:=dic_at hS q e
   obtain ⟨u,rfl,ru⟩:=vals1 r
   cases ru
   refine d_len I rd fun t s' I'=>⟨.int us'.length,H,I',⟨t,rfl⟩,?_⟩
   rw [rk.length]
   exact p'.ret RD.mkI hS
  ·exact xc_len pins s σ H xs us Q I r ⟨w,S,[d],hS,qs,by unfold R.of; rw [hz]; exact p'⟩
 ·cases hz
theorem st_chain {op op':CmpOp} {f g:Sto→D→D→Option D} (ho:OpR X (compareOp op) (xO X.K E f)) (ho':OpR X (compareOp op') (xO X.K E g)) (ha:SE X E a ma) (hb:SE X E b mb) (hc:SE X E c mc)
  (hm:autoParam (lastMarks [op,op'] [b,c]=false) Au.h0._auto_1):ST X E (.Compare a [op,op'] [b,c] pos) (tV (eChain f g ma mb mc)):=⟨
 pt_weak (pt_chain ho ho' ha.out hb.out hc.out hm) fun s H Q q=>by
  obtain ⟨w,r,S,hr,hS,hp⟩:=uT_of q
  refine ⟨w,r,S,hr,hS,hp.bind hS fun d S1 w1 H1 v x1 q1 s1 p1=>⟨w1,r,S1,hr.ext x1,s1,p1.bind s1 fun e S2 w2 H2 u x2 q2 s2 p2=>?_⟩⟩
  refine ⟨w2,S2,d,e,s2,RD.ext x2 d v q1,q2,?_⟩
  cases hf:f S2 d e with
  | none=>rw [hf] at p2; exact p2.elim
  | some z=>
   rw [hf] at p2
   intro w3 H3 z' x3 q3 s3
   cases z with
   | bl k=>
    unfold RD at q3
    subst q3
    refine ⟨k,rfl,?_⟩
    cases k with
    | true=>
     refine iteT ⟨w3,r,S2,((hr.ext x1).ext x2).ext x3,s3,?_⟩
     have p3:=Post.ext p2 x3 s2 s3
     refine p3.bind s3 fun t S4 w4 H4 u' x4 q4 s4 p4=>⟨w4,S4,e,t,s4,RD.ext x4 e u (RD.ext x3 e u q2),q4,p4⟩
    | false=>exact iteF (Post.at p2 x3 (by unfold RD; rfl) s3)
   | _=>exact p2.elim⟩
end
end PD
namespace Lw
open PySem PySem.Spec PyProof.Rows L2 PD
noncomputable def raisedX:List Str:=[]
noncomputable def askedX:List Str:=[]
noncomputable def isaX (c k:Str):Bool:=c == k || k == "PlusError"
noncomputable abbrev st_Keeper___init__:Stmt:=inClass (top 25) 0
noncomputable def m_Keeper___init__:SM:=(sSeq (sFldP "Keeper" "numbers" (eVar 0) (eTup aNil)) (sFldP "Keeper" "earlier" (eVar 0) (eNew aNil)))
noncomputable def F_Keeper___init__:FM:=fnM 1 m_Keeper___init__
noncomputable abbrev st_Keeper_back_n:Stmt:=inClass (top 25) 4
noncomputable def m_Keeper_back_n:SM:=(sSeq (sIf (tV (eOp oEqS (eFld "Keeper" "earlier" (eVar 0)) (eLst aNil))) sBad sSkip) (sSeq (sFldP "Keeper" "numbers" (eVar 0) (ePop0 (eFld "Keeper" "earlier" (eVar 0)))) (sRet (eB fLen (aCons (eFld "Keeper" "numbers" (eVar 0)) aNil)))))
noncomputable def F_Keeper_back_n:FM:=fnM 1 m_Keeper_back_n
noncomputable abbrev st_firsts_stepped:Stmt:=top 21
noncomputable def m_firsts_stepped:SM:=(sSeq (sSet 2 eDicE) (sSeq (sFor (aItems (eVar 0)) (.tp [(.nm 3),(.nm 4)]) (sFor (aSeq (eC (.tup (([(-1),(1)]:List Int).map .int))) itSeq) (.nm 5) (sSeq (sSet 6 (eOp oAdd (eVar 3) (eOp oMul (eVar 5) (eVar 1)))) (sSeq (sSet 7 (eOp oAdd (eVar 4) (eTup (aCons (eVar 5) aNil)))) (sPut fPutD (eB fMin3 (aCons (eVar 7) (aCons (eGet2 (eVar 2) (eVar 6) (eVar 7)) aNil))) (eVar 2) (eVar 6)))))) (sRet (eVar 2))))
noncomputable def F_firsts_stepped:FM:=fnM 8 m_firsts_stepped
noncomputable abbrev st_firsts_of:Stmt:=top 22
noncomputable def m_firsts_of:SM:=(sSeq (sSet 1 (eDicN [((eC (.int 0)),(eTup aNil))])) (sSeq (sFor (aSeq (eVar 0) itSeq) (.nm 2) (sSet 1 (eCall F_firsts_stepped (aCons (eVar 1) (aCons (eVar 2) aNil))))) (sRet (eVar 1))))
noncomputable def F_firsts_of:FM:=fnM 3 m_firsts_of
noncomputable abbrev st_halves_of:Stmt:=top 19
noncomputable def m_halves_of:SM:=(sSeq (sSet 1 (eOp oFdiv (eB fLen (aCons (eVar 0) aNil)) (eC (.int 2)))) (sRet (eTup (aCons (eSl fSlT (eVar 0) oNo (oPart (eVar 1))) (aCons (eSl fSlT (eVar 0) (oPart (eVar 1)) oNo) aNil)))))
noncomputable def F_halves_of:FM:=fnM 2 m_halves_of
noncomputable abbrev st_is_whole:Stmt:=top 8
noncomputable def m_is_whole:SM:=(sRet (eAnd (eB fIsi (aCons (eVar 0) (aCons (eC (.ty "int")) aNil))) (eNot (eB fIsi (aCons (eVar 0) (aCons (eC (.ty "bool")) aNil))))))
noncomputable def F_is_whole:FM:=fnM 1 m_is_whole
noncomputable abbrev st_need_number_n:Stmt:=top 11
noncomputable def m_need_number_n:SM:=(sIf (PD.tNot (tV (eCall F_is_whole (aCons (eVar 0) aNil)))) sBad sSkip)
noncomputable def F_need_number_n:FM:=fnM 1 m_need_number_n
noncomputable abbrev st_is_row:Stmt:=top 9
noncomputable def m_is_row:SM:=(sSeq (sIf (PD.tOr (PD.tNot (tV (eB fIsi (aCons (eVar 0) (aCons (eC (.ty "tuple")) aNil))))) (tV (eOp oGt (eB fLen (aCons (eVar 0) aNil)) (eC (.int (16)))))) (sRet (eC (.bl false))) sSkip) (sRet (eB fAll (aCons (eComp (aSeq (eVar 0) itSeq) 1 [] (.nm 0) tTrue (eAnd (eCall F_is_whole (aCons (eVar 0) aNil)) (eOp oGe (eVar 0) (eC (.int 1))))) aNil))))
noncomputable def F_is_row:FM:=fnM 1 m_is_row
noncomputable abbrev st_need_row_n:Stmt:=top 10
noncomputable def m_need_row_n:SM:=(sIf (PD.tNot (tV (eCall F_is_row (aCons (eVar 0) aNil)))) sBad sSkip)
noncomputable def F_need_row_n:FM:=fnM 1 m_need_row_n
noncomputable abbrev st_need_row_and_number_n:Stmt:=top 13
noncomputable def m_need_row_and_number_n:SM:=(sSeq (sDrop (eCall F_need_row_n (aCons (eVar 0) aNil))) (sDrop (eCall F_need_number_n (aCons (eVar 1) aNil))))
noncomputable def F_need_row_and_number_n:FM:=fnM 2 m_need_row_and_number_n
noncomputable abbrev st_first_met_n:Stmt:=top 23
noncomputable def m_first_met_n:SM:=(sSeq (sDrop (eCall F_need_row_and_number_n (aCons (eVar 0) (aCons (eVar 1) aNil)))) (sSeq (sSet 2 (eComp (aSeq (eCall F_halves_of (aCons (eVar 0) aNil)) itSeq) 1 [] (.nm 0) tTrue (eCall F_firsts_of (aCons (eVar 0) aNil)))) (sSeq (sSet 3 (eComp (aItems (eOp oIxD (eVar 2) (eC (.int 0)))) 2 [2,1] (.tp [(.nm 0),(.nm 1)]) (tV (eOp (oInD false) (eOp oSub (eVar 3) (eVar 0)) (eOp oIxD (eVar 2) (eC (.int 1))))) (eOp oAdd (eVar 1) (eOp oIxD (eOp oIxD (eVar 2) (eC (.int 1))) (eOp oSub (eVar 3) (eVar 0)))))) (sRet (eB fMinD (aCons (eVar 3) aNil))))))
noncomputable def F_first_met_n:FM:=fnM 4 m_first_met_n
noncomputable abbrev st_Keeper_first_n:Stmt:=inClass (top 25) 8
noncomputable def m_Keeper_first_n:SM:=(sRet (eCall F_first_met_n (aCons (eFld "Keeper" "numbers" (eVar 0)) (aCons (eVar 1) aNil))))
noncomputable def F_Keeper_first_n:FM:=fnM 2 m_Keeper_first_n
noncomputable abbrev st_Keeper_change:Stmt:=inClass (top 25) 1
noncomputable def m_Keeper_change:SM:=(sSeq (sDrop (eMtL mAppend (eFld "Keeper" "earlier" (eVar 0)) (aCons (eFld "Keeper" "numbers" (eVar 0)) aNil))) (sSeq (sFldP "Keeper" "numbers" (eVar 0) (eVar 1)) (sRet (eB fLen (aCons (eVar 1) aNil)))))
noncomputable def F_Keeper_change:FM:=fnM 2 m_Keeper_change
noncomputable abbrev st_need_number_from_n:Stmt:=top 12
noncomputable def m_need_number_from_n:SM:=(sSeq (sDrop (eCall F_need_number_n (aCons (eVar 1) aNil))) (sIf (tV (eOp oLt (eVar 1) (eVar 0))) sBad sSkip))
noncomputable def F_need_number_from_n:FM:=fnM 2 m_need_number_from_n
noncomputable abbrev st_Keeper_put_n:Stmt:=inClass (top 25) 2
noncomputable def m_Keeper_put_n:SM:=(sSeq (sDrop (eCall F_need_number_from_n (aCons (eC (.int 1)) (aCons (eVar 1) aNil)))) (sSeq (sIf (tV (eOp oEqP (eB fLen (aCons (eFld "Keeper" "numbers" (eVar 0)) aNil)) (eC (.int (16))))) sBad sSkip) (sRet (eMet "Keeper" "change" F_Keeper_change (eVar 0) (aCons (eOp oAdd (eFld "Keeper" "numbers" (eVar 0)) (eTup (aCons (eVar 1) aNil))) aNil)))))
noncomputable def F_Keeper_put_n:FM:=fnM 2 m_Keeper_put_n
noncomputable abbrev st_Keeper_row:Stmt:=inClass (top 25) 5
noncomputable def m_Keeper_row:SM:=(sRet (eFld "Keeper" "numbers" (eVar 0)))
noncomputable def F_Keeper_row:FM:=fnM 1 m_Keeper_row
noncomputable abbrev st_Keeper_take_n:Stmt:=inClass (top 25) 3
noncomputable def m_Keeper_take_n:SM:=(sSeq (sIf (tV (eOp oEqP (eFld "Keeper" "numbers" (eVar 0)) (eTup aNil))) sBad sSkip) (sRet (eMet "Keeper" "change" F_Keeper_change (eVar 0) (aCons (eSl fSlT (eFld "Keeper" "numbers" (eVar 0)) oNo (oPart (eUn oNeg (eC (.int 1))))) aNil))))
noncomputable def F_Keeper_take_n:FM:=fnM 1 m_Keeper_take_n
noncomputable abbrev st_stepped:Stmt:=top 16
noncomputable def m_stepped:SM:=(sSeq (sSet 3 eDicE) (sSeq (sFor (aItems (eVar 0)) (.tp [(.nm 4),(.nm 5)]) (sFor (aSeq (eVar 2) itSeq) (.nm 6) (sSeq (sSet 7 (eOp oAdd (eVar 4) (eOp oMul (eVar 6) (eVar 1)))) (sPut fPutD (eOp oAdd (eGet2 (eVar 3) (eVar 7) (eC (.int 0))) (eVar 5)) (eVar 3) (eVar 7))))) (sRet (eVar 3))))
noncomputable def F_stepped:FM:=fnM 8 m_stepped
noncomputable abbrev st_table_of:Stmt:=top 17
noncomputable def m_table_of:SM:=(sSeq (sSet 2 (eDicN [((eC (.int 0)),(eC (.int 1)))])) (sSeq (sFor (aSeq (eVar 0) itSeq) (.nm 3) (sSet 2 (eCall F_stepped (aCons (eVar 2) (aCons (eVar 3) (aCons (eVar 1) aNil)))))) (sRet (eVar 2))))
noncomputable def F_table_of:FM:=fnM 4 m_table_of
noncomputable abbrev st_many_met_n:Stmt:=top 20
noncomputable def m_many_met_n:SM:=(sSeq (sDrop (eCall F_need_row_and_number_n (aCons (eVar 0) (aCons (eVar 1) aNil)))) (sSeq (sSet 2 (eComp (aSeq (eCall F_halves_of (aCons (eVar 0) aNil)) itSeq) 1 [] (.nm 0) tTrue (eCall F_table_of (aCons (eVar 0) (aCons (eC (.tup (([(-1),(1)]:List Int).map .int))) aNil))))) (sRet (eB fSum (aCons (eComp (aItems (eOp oIxD (eVar 2) (eC (.int 0)))) 2 [2,1] (.tp [(.nm 0),(.nm 1)]) tTrue (eOp oMul (eVar 1) (eGet2 (eOp oIxD (eVar 2) (eC (.int 1))) (eOp oSub (eVar 3) (eVar 0)) (eC (.int 0))))) aNil)))))
noncomputable def F_many_met_n:FM:=fnM 3 m_many_met_n
noncomputable abbrev st_Keeper_ways_n:Stmt:=inClass (top 25) 7
noncomputable def m_Keeper_ways_n:SM:=(sRet (eCall F_many_met_n (aCons (eFld "Keeper" "numbers" (eVar 0)) (aCons (eVar 1) aNil))))
noncomputable def F_Keeper_ways_n:FM:=fnM 2 m_Keeper_ways_n
noncomputable abbrev st_Keeper_worths_many:Stmt:=inClass (top 25) 6
noncomputable def m_Keeper_worths_many:SM:=(sRet (eB fLenD (aCons (eCall F_table_of (aCons (eFld "Keeper" "numbers" (eVar 0)) (aCons (eC (.tup (([(-1),(1)]:List Int).map .int))) aNil))) aNil)))
noncomputable def F_Keeper_worths_many:FM:=fnM 1 m_Keeper_worths_many
noncomputable abbrev st__law_box:Stmt:=top 27
noncomputable def m__law_box:SM:=(sSeq (sSet 2 (eOp oAdd (eOp oMul (eC (.int 7919)) (eVar 1)) (eC (.int 13)))) (sSeq (sIf (tV (eOp oLt (eVar 1) (eB fLen (aCons (eVar 0) aNil)))) (sSet 2 (eOp oIx (eVar 0) (eVar 1))) sSkip) (sSeq (sIf (tV (eOp oEqP (eOp oMod (eVar 2) (eC (.int 2))) (eC (.int 0)))) (sRet (eNew (aCons (eOp oFdiv (eVar 2) (eC (.int 2))) aNil))) sSkip) (sSeq (sSet 3 (eC (.int 0))) (sSeq (sFor (aRange1 (aCons (eC (.int 16)) aNil)) (.nm 4) (sSeq (sSet 5 (eOp oMod (eOp oAdd (eOp oAdd (eOp oMul (eOp oMod (eVar 2) (eC (.int 2147483647))) (eC (.int 48271))) (eOp oMul (eC (.int 7919)) (eVar 4))) (eC (.int 1))) (eC (.int 2147483647)))) (sSeq (sSet 5 (eOp oMod (eOp oMul (eVar 5) (eVar 5)) (eC (.int 2147483629)))) (sSet 3 (eOp oAdd (eOp oMul (eVar 3) (eC (.int 2147483647))) (eOp oMod (eOp oMul (eVar 5) (eOp oAdd (eVar 5) (eC (.int 13)))) (eC (.int 2147483647)))))))) (sRet (eNew (aCons (eVar 3) aNil))))))))
noncomputable def F__law_box:FM:=fnM 6 m__law_box
noncomputable abbrev st__law_take:Stmt:=top 28
noncomputable def m__law_take:SM:=(sSeq (sAsg (.tp [(.nm 2),(.nm 3)]) (eB fDivmod (aCons (eOp oIx (eVar 0) (eC (.int 0))) (aCons (eVar 1) aNil)))) (sSeq (sPut fPut (eVar 2) (eVar 0) (eC (.int 0))) (sRet (eVar 3))))
noncomputable def F__law_take:FM:=fnM 4 m__law_take
noncomputable abbrev st_Keeper_times_n:Stmt:=inClass (top 25) 9
noncomputable def m_Keeper_times_n:SM:=(sRet (eComp (aRange1 (aCons (eOp oAdd (eB fLen (aCons (eFld "Keeper" "numbers" (eVar 0)) aNil)) (eC (.int 1))) aNil)) 1 [0,1] (.nm 0) (tV (eOp oGt (eCall F_many_met_n (aCons (eSl fSlT (eFld "Keeper" "numbers" (eVar 1)) oNo (oPart (eVar 0))) (aCons (eVar 2) aNil))) (eC (.int 0)))) (eVar 0)))
noncomputable def F_Keeper_times_n:FM:=fnM 2 m_Keeper_times_n
noncomputable abbrev st__law_told_n:Stmt:=top 29
noncomputable def m__law_told_n:SM:=(sRet (eTup (aCons (eMet "Keeper" "row" F_Keeper_row (eVar 0) aNil) (aCons (eMet "Keeper" "worths_many" F_Keeper_worths_many (eVar 0) aNil) (aCons (eMet "Keeper" "ways" F_Keeper_ways_n (eVar 0) (aCons (eVar 1) aNil)) (aCons (eMet "Keeper" "first" F_Keeper_first_n (eVar 0) (aCons (eVar 1) aNil)) (aCons (eMet "Keeper" "times" F_Keeper_times_n (eVar 0) (aCons (eVar 1) aNil)) aNil)))))))
noncomputable def F__law_told_n:FM:=fnM 2 m__law_told_n
noncomputable abbrev st__law_turned_n:Stmt:=top 30
noncomputable def m__law_turned_n:SM:=(sSeq (sSet 3 (eCall F__law_take (aCons (eVar 0) (aCons (eC (.int 6)) aNil)))) (sIf (PD.tAnd (tV (eOp oLt (eVar 3) (eC (.int 4)))) (tV (eOp oLt (eB fLen (aCons (eMet "Keeper" "row" F_Keeper_row (eVar 1) aNil) aNil)) (eVar 2)))) (sDrop (eMet "Keeper" "put" F_Keeper_put_n (eVar 1) (aCons (eOp oAdd (eC (.int 1)) (eCall F__law_take (aCons (eVar 0) (aCons (eOp oIx (eLst (aCons (eC (.int 6)) (aCons (eC (.int 50)) aNil))) (eOp oMod (eVar 3) (eC (.int 2)))) aNil)))) aNil))) (sIf (PD.tAnd (tV (eOp oEqP (eVar 3) (eC (.int 4)))) (tV (eOp oNeP (eMet "Keeper" "row" F_Keeper_row (eVar 1) aNil) (eTup aNil)))) (sDrop (eMet "Keeper" "take" F_Keeper_take_n (eVar 1) aNil)) sSkip)))
noncomputable def F__law_turned_n:FM:=fnM 4 m__law_turned_n
noncomputable abbrev st_law:Stmt:=top 31
noncomputable def m_law:SM:=(sSeq (sFor (aRange1 (aCons (eB fMax (aCons (eC (.int 1)) (aCons (eB fMin (aCons (eB fLen (aCons (eVar 0) aNil)) (aCons (eC (.int 2)) aNil))) aNil))) aNil)) (.nm 1) (sSeq (sSet 2 (eCall F__law_box (aCons (eVar 0) (aCons (eVar 1) aNil)))) (sSeq (sSet 3 (eLst (aCons (eMak "Keeper" F_Keeper___init__) (aCons (eMak "Keeper" F_Keeper___init__) aNil)))) (sSeq (sFor (aRange1 (aCons (eC (.int 12)) aNil)) (.nm 4) (sSeq (sSet 6 (eOp oMod (eVar 4) (eC (.int 2)))) (sSeq (sSet 7 (eCall F__law_told_n (aCons (eOp oIx (eVar 3) (eOp oSub (eC (.int 1)) (eVar 6))) (aCons (eVar 4) aNil)))) (sSeq (sDrop (eCall F__law_turned_n (aCons (eVar 2) (aCons (eOp oIx (eVar 3) (eVar 6)) (aCons (eC (.int 9)) aNil))))) (sIf (tV (eOp oNeP (eCall F__law_told_n (aCons (eOp oIx (eVar 3) (eOp oSub (eC (.int 1)) (eVar 6))) (aCons (eVar 4) aNil))) (eVar 7))) (sRet (eC (.bl false))) sSkip))))) (sFor (aSeq (eVar 3) itSeq) (.nm 5) (sSeq (sSet 8 (eMak "Keeper" F_Keeper___init__)) (sSeq (sFor (aSeq (eMet "Keeper" "row" F_Keeper_row (eVar 5) aNil) itSeq) (.nm 9) (sDrop (eMet "Keeper" "put" F_Keeper_put_n (eVar 8) (aCons (eVar 9) aNil)))) (sSeq (sSet 10 (eOp oSub (eCall F__law_take (aCons (eVar 2) (aCons (eC (.int 31)) aNil))) (eC (.int 15)))) (sSeq (sSet 7 (eCall F__law_told_n (aCons (eVar 5) (aCons (eVar 10) aNil)))) (sSeq (sIf (PD.tOr (tV (eOp oNeP (eCall F__law_told_n (aCons (eVar 8) (aCons (eVar 10) aNil))) (eVar 7))) (tV (eOp oNeP (eMet "Keeper" "ways" F_Keeper_ways_n (eVar 5) (aCons (eVar 10) aNil)) (eCall F_many_met_n (aCons (eMet "Keeper" "row" F_Keeper_row (eVar 5) aNil) (aCons (eVar 10) aNil)))))) (sRet (eC (.bl false))) sSkip) (sSeq (sIf (tV (eOp oNeP (eMet "Keeper" "first" F_Keeper_first_n (eVar 5) (aCons (eVar 10) aNil)) (eCall F_first_met_n (aCons (eMet "Keeper" "row" F_Keeper_row (eVar 5) aNil) (aCons (eVar 10) aNil))))) (sRet (eC (.bl false))) sSkip) (sSeq (sDrop (eMet "Keeper" "put" F_Keeper_put_n (eVar 5) (aCons (eOp oAdd (eC (.int 1)) (eCall F__law_take (aCons (eVar 2) (aCons (eC (.int 30)) aNil)))) aNil))) (sSeq (sIf (PD.tNot (tV (eChain oLt oLe (eOp oIx (eVar 7) (eC (.int 1))) (eMet "Keeper" "worths_many" F_Keeper_worths_many (eVar 5) aNil) (eOp oMul (eC (.int 2)) (eOp oIx (eVar 7) (eC (.int 1))))))) (sRet (eC (.bl false))) sSkip) (sSeq (sDrop (eMet "Keeper" "take" F_Keeper_take_n (eVar 5) aNil)) (sSeq (sIf (PD.tOr (tV (eOp oNeP (eCall F__law_told_n (aCons (eVar 5) (aCons (eVar 10) aNil))) (eVar 7))) (PD.tOr (tV (eOp oNeP (eMet "Keeper" "back" F_Keeper_back_n (eVar 5) aNil) (eOp oAdd (eB fLen (aCons (eOp oIx (eVar 7) (eC (.int 0))) aNil)) (eC (.int 1))))) (tV (eOp oNeP (eMet "Keeper" "back" F_Keeper_back_n (eVar 5) aNil) (eB fLen (aCons (eOp oIx (eVar 7) (eC (.int 0))) aNil)))))) (sRet (eC (.bl false))) sSkip) (sIf (tV (eOp oNeP (eCall F__law_told_n (aCons (eVar 5) (aCons (eVar 10) aNil))) (eVar 7))) (sRet (eC (.bl false))) sSkip)))))))))))))))) (sRet (eC (.bl true))))
noncomputable def F_law:FM:=fnM 11 m_law
structure Gr (b:Nat) (S S':Sto):Prop where
 bx:∃ n,S'[b]?=some (.lst [.int n])
 oth:∀ i,i ≠ b→i < S.length→S'[i]?=S[i]?
 len:S.length≤S'.length
theorem take_eq {S:Sto} {b:Nat} {n many:Int} (h:S[b]?=some (.lst [.int n])) (h0:0 < many) (h1:many < 1073741824):F__law_take [.ref b,.int many] S=.ok (.int (n % many)) (S.set b (.lst [.int (n / many)])):=by
 simp [F__law_take,fnM,m__law_take,sSeq,sAsg,sPut,sRet,eB,eOp,eVar,eC,aCons,aNil,R.bind,R.of,oIx,seqOf,h,atI,ixN,fDivmod,h0,h1,G.put,G.puts,fPut]
theorem take_ok {S:Sto} {b:Nat} (h:Gr b S S) {many:Int} (h0:0 < many) (h1:many < 1073741824):∃ q S',F__law_take [.ref b,.int many] S=.ok (.int q) S'∧0≤q∧q < many∧Gr b S S':=by
 obtain ⟨n,hn⟩:=h.bx
 have hb:b < S.length:=(List.getElem?_eq_some_iff.mp hn).1
 refine ⟨_,_,take_eq hn h0 h1,Int.emod_nonneg _ (by omega),Int.emod_lt_of_pos _ h0,⟨n / many,by simp [hb]⟩,fun i hi _=>?_,by simp⟩
 rw [List.getElem?_set_ne (Ne.symm hi)]
noncomputable abbrev boxBody:SM:=(sSeq (sSet 5 (eOp oMod (eOp oAdd (eOp oAdd (eOp oMul (eOp oMod (eVar 2) (eC (.int 2147483647))) (eC (.int 48271))) (eOp oMul (eC (.int 7919)) (eVar 4))) (eC (.int 1))) (eC (.int 2147483647)))) (sSeq (sSet 5 (eOp oMod (eOp oMul (eVar 5) (eVar 5)) (eC (.int 2147483629)))) (sSet 3 (eOp oAdd (eOp oMul (eVar 3) (eC (.int 2147483647))) (eOp oMod (eOp oMul (eVar 5) (eOp oAdd (eVar 5) (eC (.int 13)))) (eC (.int 2147483647)))))))
theorem box_turn (S:Sto) (a b:Option D) (h n j:Int) (r5:Option D):∃ (n':Int) (x:Int),boxBody [a,b,some (.int h),some (.int n),some (.int j),r5] S=.ok (.nx [a,b,some (.int h),some (.int n'),some (.int j),some (.int x)]) S:=by
 have s1:smallI 48271:=by decide
 have s2:smallI 7919:=by decide
 have s3:smallI 2147483647:=by decide
 have h1:∀ y:Int,smallI (y % 2147483647):=fun y=>by
  have:=Int.emod_nonneg y (show (2147483647:Int) ≠ 0 by decide)
  have:=Int.emod_lt_of_pos y (show (0:Int) < 2147483647 by decide)
  exact ⟨by omega,by omega⟩
 have h2:∀ y:Int,smallI (y % 2147483629):=fun y=>by
  have:=Int.emod_nonneg y (show (2147483629:Int) ≠ 0 by decide)
  have:=Int.emod_lt_of_pos y (show (0:Int) < 2147483629 by decide)
  exact ⟨by omega,by omega⟩
 refine ⟨n * 2147483647 + ((h % 2147483647 * 48271 + 7919 * j + 1) % 2147483647 * ((h % 2147483647 * 48271 + 7919 * j + 1) % 2147483647) % 2147483629) * ((h % 2147483647 * 48271 + 7919 * j + 1) % 2147483647 * ((h % 2147483647 * 48271 + 7919 * j + 1) % 2147483647) % 2147483629 + 13) % 2147483647,(h % 2147483647 * 48271 + 7919 * j + 1) % 2147483647 * ((h % 2147483647 * 48271 + 7919 * j + 1) % 2147483647) % 2147483629,?_⟩
 simp only [boxBody,sSeq,sSet,eOp,eVar,eC,R.bind,R.of,oMod,oAdd,List.getElem?_cons_zero,List.getElem?_cons_succ,List.set_cons_zero,List.set_cons_succ,oMul_i (.inr s1),oMul_i (.inl s2),oMul_i (.inr s3),oMul_i (.inl (h1 _)),oMul_i (.inl (h2 _)),Int.reduceLT,if_true]
theorem box_loop (h:Int):∀ (l:List Nat) (S:Sto) (a b:Option D) (n:Int) (j r5:Option D),∃ (n':Int) (j' r5':Option D),
  forL (.nm 4) boxBody (l.map fun (i:Nat)=>D.int i) [a,b,some (.int h),some (.int n),j,r5] S=.ok (.nx [a,b,some (.int h),some (.int n'),j',r5']) S
 | [],S,a,b,n,j,r5=>⟨n,j,r5,rfl⟩
 | i :: l,S,a,b,n,j,r5=>by
  obtain ⟨n1,x,e1⟩:=box_turn S a b h n i r5
  obtain ⟨n',j',r5',e⟩:=box_loop h l S a b n1 (some (.int i)) (some (.int x))
  refine ⟨n',j',r5',?_⟩
  rw [List.map_cons,forL]
  simp only [G.put,List.set_cons_zero,List.set_cons_succ,e1,R.bind_ok]
  exact e
theorem box_ok (ns:List Int) (k:Nat) (S:Sto):∃ v:Int,F__law_box [.fz (ns.map .int),.int k] S=.ok (.ref S.length) (S ++ [.lst [.int v]]):=by
 have hz:(1:Nat)≤sizeLine:=by decide
 have s2:smallI 7919:=by decide
 have rest:∀ c:Int,∃ v:Int,(sSeq (sIf (tV (eOp oEqP (eOp oMod (eVar 2) (eC (.int 2))) (eC (.int 0)))) (sRet (eNew (aCons (eOp oFdiv (eVar 2) (eC (.int 2))) aNil))) sSkip) (sSeq (sSet 3 (eC (.int 0))) (sSeq (sFor (aRange1 (aCons (eC (.int 16)) aNil)) (.nm 4) boxBody) (sRet (eNew (aCons (eVar 3) aNil)))))) [some (.fz (ns.map .int)),some (.int k),some (.int c),none,none,none] S=.ok (.rt (.ref S.length)) (S ++ [.lst [.int v]]):=fun c=>by
  by_cases hc:c % 2=0
  ·refine ⟨c / 2,?_⟩
   simp [sSeq,sSet,sIf,sRet,sSkip,tV,eNew,eB,eCall,eOp,eVar,eC,aCons,aNil,R.bind,R.of,oMod,oEqP,eqP,eqS,hc,oFdiv,hz]
  ·obtain ⟨n',j',r5',e⟩:=box_loop c (List.range 16) S (some (.fz (ns.map .int))) (some (.int k)) 0 none none
   refine ⟨n',?_⟩
   have hr:(16:Int).toNat=16:=rfl
   simp only [sSeq,sSet,sIf,sRet,sSkip,tV,eNew,eB,eCall,eOp,eVar,eC,aCons,aNil,R.bind,R.of,oMod,oEqP,eqP,eqS,hc,sFor,aRange1,hz,List.getElem?_cons_zero,List.getElem?_cons_succ,List.set_cons_zero,List.set_cons_succ,Int.reduceLT,if_true,decide_false,Option.map_some,Bool.false_eq_true,if_false,Int.reduceLE,and_self,Int.reducePow,Int.reduceNeg,hr,e,List.length_cons,List.length_nil,Nat.reduceAdd]
 by_cases hk:k < ns.length
 ·obtain ⟨v,e⟩:=rest (ns.getD k 0)
  refine ⟨v,?_⟩
  have hi:atI (ns.map D.int) (k:Int)=some (.int (ns.getD k 0)):=by simp [atI,ixN,hk]
  have hk':(k:Int) < (ns.length:Int):=by omega
  unfold F__law_box fnM m__law_box
  simp only [List.map_cons,List.map_nil,List.length_cons,List.length_nil,Nat.reduceAdd,Nat.reduceSub,List.replicate,List.cons_append,List.nil_append]
  rw [sSeq]
  simp only [sSet,eOp,eVar,eC,R.bind,R.of,oAdd,oMul_i (.inl s2),List.getElem?_cons_zero,List.getElem?_cons_succ,List.set_cons_zero,List.set_cons_succ]
  rw [sSeq]
  simp only [sIf,sSet,sSkip,tV,eB,eOp,eVar,eC,aCons,aNil,R.bind,R.of,oIx,seqOf,oCmp,fLen,List.length_map,hk',decide_true,if_true,hi,List.getElem?_cons_zero,List.getElem?_cons_succ,List.set_cons_zero,List.set_cons_succ,Option.map_some]
  rw [e]
 ·obtain ⟨v,e⟩:=rest (7919 * (k:Int) + 13)
  refine ⟨v,?_⟩
  have hk':¬ (k:Int) < (ns.length:Int):=by omega
  unfold F__law_box fnM m__law_box
  simp only [List.map_cons,List.map_nil,List.length_cons,List.length_nil,Nat.reduceAdd,Nat.reduceSub,List.replicate,List.cons_append,List.nil_append]
  rw [sSeq]
  simp only [sSet,eOp,eVar,eC,R.bind,R.of,oAdd,oMul_i (.inl s2),List.getElem?_cons_zero,List.getElem?_cons_succ,List.set_cons_zero,List.set_cons_succ]
  rw [sSeq]
  simp only [sIf,sSet,sSkip,tV,eB,eOp,eVar,eC,aCons,aNil,R.bind,R.of,oIx,seqOf,oCmp,fLen,List.length_map,hk',decide_false,Bool.false_eq_true,if_false,List.getElem?_cons_zero,List.getElem?_cons_succ,List.set_cons_zero,List.set_cons_succ,Option.map_some]
  rw [e]
noncomputable def shal:D→Bool
 | .fz _=>false
 | .ref _=>false
 | .ty _=>false
 | .exc _=>false
 | .cls _=>false
 | _=>true
noncomputable def isI:D→Bool
 | .int _=>true
 | _=>false
theorem whole_eq {d:D} {S:Sto} (h:shal d=true):F_is_whole [d] S=.ok (.bl (isI d)) S:=by
 cases d <;> first | (cases h; done) | (simp [F_is_whole,fnM,m_is_whole,sRet,eAnd,eNot,eB,eVar,eC,aCons,aNil,R.bind,R.of,fIsi,tyD,isiTys,isI])
noncomputable def rowOk:D→Bool
 | .int i=>decide (1≤i)
 | _=>false
theorem boolsOf_map {A:Type} (f:A→Bool):∀ xs:List A,boolsOf (xs.map fun x=>D.bl (f x))=some (xs.map f)
 | []=>rfl
 | x :: xs=>by rw [List.map_cons,boolsOf,boolsOf_map f xs]; rfl
theorem comp_bool {e:EM} {f:D→Bool} {tl:Rho}:∀ (xs:List D) (r0:Option D) (S:Sto),(∀ x ∈ xs,e (some x :: tl) S=.ok (.bl (f x)) S)→compL (.nm 0) tTrue e xs (r0 :: tl) S=.ok (xs.map fun x=>D.bl (f x)) S
 | [],_,_,_=>rfl
 | x :: xs,r0,S,h=>by
  have h1:=h x List.mem_cons_self
  have h2:=comp_bool xs (some x) S fun y hy=>h y (List.mem_cons_of_mem _ hy)
  rw [compL]
  simp only [G.put,List.set_cons_zero,tTrue,R.bind_ok,if_true,h1,h2,List.map_cons]
noncomputable def isRow:D→Bool
 | .tup xs=>decide (xs.length≤16) && xs.all rowOk
 | _=>false
noncomputable def Okay (d:D):Prop:=shal d=true∧∀ xs,d=.tup xs→(∀ x ∈ xs,shal x=true)∧xs.length≤1000
theorem row_el {x:D} {S:Sto} (h:shal x=true):(eAnd (eCall F_is_whole (aCons (eVar 0) aNil)) (eOp oGe (eVar 0) (eC (.int 1)))) [some x] S=.ok (.bl (rowOk x)) S:=by
 have:=whole_eq (S:=S) h
 cases x <;> first | (cases h; done) | (simp [eAnd,eCall,eOp,eVar,eC,aCons,aNil,R.bind,R.of,this,isI,rowOk,oCmp])
theorem isrow_eq {d:D} {S:Sto} (h:Okay d):F_is_row [d] S=.ok (.bl (isRow d)) S:=by
 cases d with
 | tup xs=>
  obtain ⟨hs,hl⟩:=h.2 xs rfl
  have hc:=comp_bool (tl:=[]) (f:=rowOk) xs none S fun x hx=>row_el (hs x hx)
  have z:xs.length≤sizeLine:=Nat.le_trans hl (by decide)
  by_cases h16:xs.length≤16
  ·have h16':¬ (16:Int) < (xs.length:Int):=by omega
   simp only [F_is_row,fnM,m_is_row,sSeq,sIf,sRet,sSkip,PD.tOr,PD.tNot,tV,eB,eComp,aSeq,itSeq,capOf,eOp,eVar,eC,aCons,aNil,R.bind,R.of,fIsi,tyD,fLen,seqOf,oCmp,fAll,List.map_cons,List.map_nil,List.length_cons,List.length_nil,List.replicate,List.cons_append,List.nil_append,List.append_nil,Nat.reduceAdd,Nat.reduceSub,List.getElem?_cons_zero,h16',decide_false,Bool.false_eq_true,if_false,z,if_true,hc,boolsOf_map,Option.map_some,isRow,h16,decide_true,Bool.true_and]
   simp [isiTys]
   simp [z,hc,boolsOf_map,fAll,R.of,R.bind,sRet,eB,aCons]
  ·have h16':(16:Int) < (xs.length:Int):=by omega
   simp [F_is_row,fnM,m_is_row,sSeq,sIf,sRet,sSkip,PD.tOr,PD.tNot,tV,eB,eOp,eVar,eC,aCons,aNil,R.bind,R.of,fIsi,tyD,fLen,seqOf,oCmp,isiTys,isRow,h16,h16']
 | _=>first | (cases h.1; done) | (simp [F_is_row,fnM,m_is_row,sSeq,sIf,sRet,sSkip,PD.tOr,PD.tNot,tV,eB,eOp,eVar,eC,aCons,aNil,R.bind,R.of,fIsi,tyD,isiTys,isRow])
theorem oNeP_i {S:Sto} {i j:Int}:oNeP S (.int i) (.int j)=some (.bl (!decide (i=j))):=rfl
theorem oEqP_i {S:Sto} {i j:Int}:oEqP S (.int i) (.int j)=some (.bl (decide (i=j))):=rfl
theorem one_line:1≤sizeLine:=by decide
theorem sSeq_go {a b:SM} {r r1:Rho} {S S1:Sto} (h:a r S=.ok (.nx r1) S1):sSeq a b r S=b r1 S1:=by
 unfold sSeq
 rw [h]
 rfl
noncomputable def Row (xs:List Int):Prop:=(∀ x ∈ xs,1≤x)∧xs.length≤16
theorem ints_okay {xs:List Int} (h:xs.length≤1000):Okay (.tup (xs.map .int)):=⟨rfl,fun ys e=>by
 cases e
 refine ⟨fun x hx=>?_,by rw [List.length_map]; exact h⟩
 obtain ⟨i,_,rfl⟩:=List.mem_map.mp hx
 rfl⟩
theorem Row.okay {xs:List Int} (h:Row xs):Okay (.tup (xs.map .int)):=ints_okay (by have:=h.2; omega)
theorem Row.is {xs:List Int} (h:Row xs):isRow (.tup (xs.map .int))=true:=by
 unfold isRow
 rw [Bool.and_eq_true]
 refine ⟨by rw [List.length_map]; exact decide_eq_true h.2,List.all_eq_true.mpr fun x hx=>?_⟩
 obtain ⟨i,hi,rfl⟩:=List.mem_map.mp hx
 exact decide_eq_true (h.1 i hi)
theorem sFor_go {it:AM} {g:PD.G} {b:SM} {r:Rho} {S S1:Sto} {xs:List D} (h:it r S=.ok xs S1):sFor it g b r S=forL g b xs r S1:=by unfold sFor; rw [h,R.bind_ok]
theorem fnM_rt {n:Nat} {b:SM} {ds:List D} {ρ:Rho} {S S1:Sto} {d:D} (hρ:ds.map some ++ List.replicate (n - ds.length) none = ρ) (h:b ρ S=.ok (.rt d) S1):fnM n b ds S=.ok d S1:=by unfold fnM; rw [hρ,h,R.bind_ok]
theorem fnM_nx {n:Nat} {b:SM} {ds:List D} {ρ ρ':Rho} {S S1:Sto} (hρ:ds.map some ++ List.replicate (n - ds.length) none = ρ) (h:b ρ S=.ok (.nx ρ') S1):fnM n b ds S=.ok .non S1:=by unfold fnM; rw [hρ,h,R.bind_ok]
theorem sSet_go {i:Nat} {a:EM} {r:Rho} {S S1:Sto} {d:D} (h:a r S=.ok d S1):sSet i a r S=.ok (.nx (r.set i (some d))) S1:=by unfold sSet; rw [h,R.bind_ok]
theorem sRet_go {a:EM} {r:Rho} {S S1:Sto} {d:D} (h:a r S=.ok d S1):sRet a r S=.ok (.rt d) S1:=by unfold sRet; rw [h,R.bind_ok]
theorem sIf_t {t:TM} {a b:SM} {r:Rho} {S S1:Sto} (h:t r S=.ok true S1):sIf t a b r S=a r S1:=by unfold sIf; rw [h,R.bind_ok]; exact if_pos rfl
theorem sIf_f {t:TM} {a b:SM} {r:Rho} {S S1:Sto} (h:t r S=.ok false S1):sIf t a b r S=b r S1:=by unfold sIf; rw [h,R.bind_ok]; exact if_neg Bool.false_ne_true
theorem sDrop_go {a:EM} {r:Rho} {S S1:Sto} {d:D} (h:a r S=.ok d S1):sDrop a r S=.ok (.nx r) S1:=by unfold sDrop; rw [h,R.bind_ok]
theorem forL_cons {g:PD.G} {b:SM} {x:D} {xs:List D} {r r1 r2:Rho} {S S1:Sto} (hp:g.put x r=some r1) (h:b r1 S=.ok (.nx r2) S1):forL g b (x :: xs) r S=forL g b xs r2 S1:=by rw [forL]; simp only [hp,h,R.bind_ok]
theorem eCall_go {f:FM} {t:AM} {r:Rho} {S S1:Sto} {xs:List D} (h:t r S=.ok xs S1):eCall f t r S=f xs S1:=by unfold eCall; rw [h,R.bind_ok]
theorem sFor_seq {a:EM} {g:PD.G} {b:SM} {r:Rho} {S S1:Sto} {d:D} {xs:List D} (h:a r S=.ok d S1) (hi:itSeq S1 d=some xs):sFor (aSeq a itSeq) g b r S=forL g b xs r S1:=sFor_go (by unfold aSeq; rw [h,R.bind_ok,hi]; rfl)
theorem eOp_go {f:Sto→D→D→Option D} {a b:EM} {r:Rho} {S S1 S2:Sto} {x y z:D} (h1:a r S=.ok x S1) (h2:b r S1=.ok y S2) (h3:f S2 x y=some z):eOp f a b r S=.ok z S2:=by unfold eOp; rw [h1,R.bind_ok,h2,R.bind_ok,h3]; rfl
theorem eB_go {f:Sto→List D→Option D} {t:AM} {r:Rho} {S S1:Sto} {xs:List D} {z:D} (h1:t r S=.ok xs S1) (h3:f S1 xs=some z):eB f t r S=.ok z S1:=by unfold eB; rw [h1,R.bind_ok,h3]; rfl
theorem aCons_go {a:EM} {t:AM} {r:Rho} {S S1 S2:Sto} {x:D} {xs:List D} (h1:a r S=.ok x S1) (h2:t r S1=.ok xs S2):aCons a t r S=.ok (x :: xs) S2:=by unfold aCons; rw [h1,R.bind_ok,h2,R.bind_ok]
theorem tV_go {a:EM} {r:Rho} {S S1:Sto} {b:Bool} (h:a r S=.ok (.bl b) S1):tV a r S=.ok b S1:=by unfold tV; rw [h,R.bind_ok]
theorem tNot_go {a:TM} {r:Rho} {S S1:Sto} {b:Bool} (h:a r S=.ok b S1):PD.tNot a r S=.ok (!b) S1:=by unfold PD.tNot; rw [h,R.bind_ok]
theorem eMtL_go {f:Sto→D→List D→R D} {o:EM} {t:AM} {r:Rho} {S S1 S2:Sto} {x:D} {ys:List D} (h1:o r S=.ok x S1) (hl:isL S1 x=true) (h2:t r S1=.ok ys S2):eMtL f o t r S=f S2 x ys:=by unfold eMtL; rw [h1,R.bind_ok,if_pos hl,h2,R.bind_ok]
theorem big62 {n:Int} (h0:0≤n) (h:n≤100000):n < 2 ^ 62∧-(2 ^ 62)≤n:=⟨by omega,by omega⟩
theorem aRange1_int {t:AM} {r:Rho} {S S1:Sto} {m:Int} (h:t r S=.ok [.int m] S1) (h0:0≤m) (h1:m≤100000):aRange1 t r S=.ok ((List.range m.toNat).map fun (i:Nat)=>D.int i) S1:=by
 have hr:=big62 h0 h1
 simp only [aRange1,h,R.bind,if_pos hr]
theorem aRange1_ok {t:AM} {r:Rho} {S S1:Sto} {n:Nat} (h:t r S=.ok [.int (n:Int)] S1) (hn:n≤100000):aRange1 t r S=.ok ((List.range n).map fun (i:Nat)=>D.int i) S1:=
 aRange1_int h (Int.natCast_nonneg n) (Int.ofNat_le.mpr hn)
theorem comp_two {A:Type} {x1 x2:A→D} {out:A→D} {e:EM} {tl:Rho} {S:Sto}:∀ (xs:List A) (r0 r1:Option D),(∀ x ∈ xs,e (some (x1 x) :: some (x2 x) :: tl) S=.ok (out x) S)→compL (.tp [.nm 0,.nm 1]) tTrue e (xs.map fun x=>.tup [x1 x,x2 x]) (r0 :: r1 :: tl) S=.ok (xs.map out) S
 | [],_,_,_=>rfl
 | x :: xs,r0,r1,h=>by
  have h1:=h x List.mem_cons_self
  have h2:=comp_two (out:=out) xs (some (x1 x)) (some (x2 x)) fun y hy=>h y (List.mem_cons_of_mem _ hy)
  rw [List.map_cons,compL]
  simp only [G.put,G.puts,List.set_cons_zero,List.set_cons_succ,tTrue,R.bind_ok,if_true,h1,h2,List.map_cons]
theorem eVar_go {i:Nat} {r:Rho} {S:Sto} {d:D} (h:r[i]?=some (some d)):eVar i r S=.ok d S:=by
 unfold eVar; rw [h]
theorem eTup_go {t:AM} {r:Rho} {S S1:Sto} {xs:List D} (h:t r S=.ok xs S1) (hl:xs.length≤sizeLine):eTup t r S=.ok (.tup xs) S1:=by unfold eTup; rw [h,R.bind_ok,if_pos hl]
theorem eLst_go {t:AM} {r:Rho} {S S1:Sto} {xs:List D} (h:t r S=.ok xs S1) (hl:xs.length≤sizeLine):eLst t r S=.ok (.lst xs) S1:=by unfold eLst; rw [h,R.bind_ok,if_pos hl]
theorem tOr_f {a b:TM} {r:Rho} {S S1:Sto} (h:a r S=.ok false S1):PD.tOr a b r S=b r S1:=by unfold PD.tOr; rw [h,R.bind_ok]; exact if_neg Bool.false_ne_true
theorem intsOf_f {A:Type} (f:A→Int):∀ xs:List A,intsOf (xs.map fun x=>D.int (f x))=some (xs.map f)
 | []=>rfl
 | x :: xs=>by rw [List.map_cons,intsOf,intsOf_f f xs]; rfl
theorem fSum_f {A:Type} {S:Sto} {f:A→Int} {xs:List A}:fSum S [.lst (xs.map fun x=>D.int (f x))]=some (.int (xs.map f).sum):=by
 simp only [fSum,seqOf,intsOf_f,Option.map_some]
noncomputable def Wo (K:List Int):List Int→Int→Prop
 | [],v=>v=0
 | x :: xs,v=>∃ q ∈ K,Wo K xs (v - x * q)
noncomputable abbrev KS:List Int:=[-1,1]
noncomputable def wor:List Int→List Int→Int
 | x :: xs,q :: p=>x * q + wor xs p
 | _,_=>0
noncomputable def ext (K:List Int) (f:List (List Int)):List (List Int):=f.flatMap fun p=>K.map fun k=>p ++ [k]
noncomputable def allL (K:List Int):Nat→List (List Int)
 | 0=>[[]]
 | n + 1=>ext K (allL K n)
theorem allL_mem {K:List Int}:∀ (n:Nat) (p:List Int),p ∈ allL K n↔p.length=n∧∀ q ∈ p,q ∈ K
 | 0,p=>by
  simp only [allL,List.mem_singleton]
  constructor
  ·rintro rfl; exact ⟨rfl,fun q h=>nomatch h⟩
  ·rintro ⟨h,_⟩; exact List.length_eq_zero_iff.mp h
 | n + 1,p=>by
  simp only [allL,ext,List.mem_flatMap,List.mem_map]
  constructor
  ·rintro ⟨p',h',k,hk,rfl⟩
   obtain ⟨h1,h2⟩:=(allL_mem n p').mp h'
   refine ⟨by simp [h1],fun q hq=>?_⟩
   rcases List.mem_append.mp hq with hq | hq
   ·exact h2 q hq
   ·rw [List.mem_singleton.mp hq]; exact hk
  ·rintro ⟨h1,h2⟩
   have hne:p ≠ []:=fun h=>by rw [h] at h1; cases h1
   refine ⟨p.dropLast,(allL_mem n _).mpr ⟨by rw [List.length_dropLast,h1]; rfl,fun q hq=>h2 q ((List.dropLast_sublist p).subset hq)⟩,p.getLast hne,h2 _ (List.getLast_mem hne),List.dropLast_concat_getLast hne⟩
theorem Wo_iff {K:List Int}:∀ (xs:List Int) (v:Int),Wo K xs v↔∃ p,(p.length=xs.length∧∀ q ∈ p,q ∈ K)∧wor xs p=v
 | [],v=>by
  constructor
  ·intro h; exact ⟨[],⟨rfl,fun q h=>nomatch h⟩,(show v=0 from h).symm⟩
  ·rintro ⟨p,⟨h,_⟩,e⟩
   cases List.length_eq_zero_iff.mp h
   exact e.symm
 | x :: xs,v=>by
  constructor
  ·rintro ⟨q,hq,h⟩
   obtain ⟨p,⟨h1,h2⟩,e⟩:=(Wo_iff xs _).mp h
   refine ⟨q :: p,⟨by simp [h1],fun r hr=>?_⟩,by show x * q + wor xs p=v; omega⟩
   rcases List.mem_cons.mp hr with rfl | hr
   ·exact hq
   ·exact h2 r hr
  ·rintro ⟨p,⟨h1,h2⟩,e⟩
   cases p with
   | nil=>cases h1
   | cons q p=>
    refine ⟨q,h2 q (.head _),(Wo_iff xs _).mpr ⟨p,⟨by simpa using h1,fun r hr=>h2 r (.tail _ hr)⟩,?_⟩⟩
    have e':x * q + wor xs p=v:=e
    omega
theorem Wo_all {K xs:List Int} {v:Int}:Wo K xs v↔∃ p ∈ allL K xs.length,wor xs p=v:=by
 rw [Wo_iff]
 constructor
 ·rintro ⟨p,h,e⟩; exact ⟨p,(allL_mem _ _).mpr h,e⟩
 ·rintro ⟨p,h,e⟩; exact ⟨p,(allL_mem _ _).mp h,e⟩
theorem ext_len (K:List Int):∀ f:List (List Int),(ext K f).length=f.length * K.length
 | []=>by simp [ext]
 | p :: f=>by
  have:=ext_len K f
  simp only [ext,List.flatMap_cons,List.length_append,List.length_map,List.length_cons] at this ⊢
  rw [this,Nat.succ_mul]; omega
theorem allL_len (K:List Int):∀ n,(allL K n).length=K.length ^ n
 | 0=>rfl
 | n + 1=>by rw [allL,ext_len,allL_len K n,Nat.pow_succ]
noncomputable abbrev tupI (xs:List Int):D:=.tup (xs.map .int)
theorem oAdd_t {S:Sto} {a b:List D} (h:a.length + b.length≤sizeLine):oAdd S (.tup a) (.tup b)=some (.tup (a ++ b)):=if_pos h
theorem eGet2_go {o a b:EM} {r:Rho} {S S1 S2 S3:Sto} {d y z:D} {kvs kvs':List (KD × D)} {k:KD} (ho:o r S=.ok d S1) (hd:dicOf S1 d=some kvs) (ha:a r S1=.ok y S2) (hb:b r S2=.ok z S3) (hd3:dicOf S3 d=some kvs') (hk:keyD y=some k):eGet2 o a b r S=.ok ((getK kvs' k).getD z) S3:=by
 unfold eGet2
 rw [ho,R.bind_ok]
 simp only [hd,Option.isSome_some,if_true,ha,R.bind_ok,hb,hd3,hk]
theorem sPut_go {f:Sto→D→D→D→Option Sto} {e o i:EM} {r:Rho} {S S1 S2 S3 S4:Sto} {v x y:D} (he:e r S=.ok v S1) (ho:o r S1=.ok x S2) (hi:i r S2=.ok y S3) (hf:f S3 x y v=some S4):sPut f e o i r S=.ok (.nx r) S4:=by
 unfold sPut
 rw [he,R.bind_ok,ho,R.bind_ok,hi,R.bind_ok,hf]
noncomputable def fS (K:List Int) (x:Int) (f:List Int):List Int:=f.flatMap fun w=>K.map fun q=>w + q * x
noncomputable def pT (T:List (Int × Int)) (k c:Int):List (Int × Int):=if T.any (fun e=>decide (e.1=k)) then T.map (fun e=>if e.1=k then (e.1,c) else e) else T ++ [(k,c)]
noncomputable def gT (T:List (Int × Int)) (k:Int):Int:=((T.find? fun e=>decide (e.1=k)).map (·.2)).getD 0
noncomputable def sumH (h:Int→Int) (T:List (Int × Int)):Int:=(T.map fun e=>h e.1 * e.2).sum
noncomputable def Keys (T:List (Int × Int)):Prop:=T.Pairwise fun a b=>a.1 ≠ b.1
theorem sumH_cons (h:Int→Int) (e:Int × Int) (T:List (Int × Int)):sumH h (e :: T)=h e.1 * e.2 + sumH h T:=by simp [sumH]
theorem sumH_app (h:Int→Int):∀ (A B:List (Int × Int)),sumH h (A ++ B)=sumH h A + sumH h B
 | [],B=>by simp [sumH]
 | e :: A,B=>by rw [List.cons_append,sumH_cons,sumH_cons,sumH_app h A B]; omega
theorem no_key {T:List (Int × Int)} {k:Int} (h:T.any (fun e=>decide (e.1=k))=false):gT T k=0:=by
 unfold gT
 have:(T.find? fun e=>decide (e.1=k))=none:=by
  rw [List.find?_eq_none]
  intro e he hd
  rw [List.any_eq_false] at h
  exact h e he hd
 rw [this]; rfl
theorem map_same {T:List (Int × Int)} {k c:Int} (h:∀ e ∈ T,e.1 ≠ k):T.map (fun e=>if e.1=k then (e.1,c) else e)=T:=by
 induction T with
 | nil=>rfl
 | cons e T ih=>
  rw [List.map_cons,if_neg (h e (.head _)),ih fun e he=>h e (.tail _ he)]
theorem gT_cons (e:Int × Int) (T:List (Int × Int)) (k:Int):gT (e :: T) k=if e.1=k then e.2 else gT T k:=by
 unfold gT
 rw [List.find?_cons]
 by_cases h:e.1=k
 ·simp [h]
 ·simp [h]
theorem sumH_set (h:Int→Int) {k c:Int}:∀ {T:List (Int × Int)},Keys T→T.any (fun e=>decide (e.1=k))=true→sumH h (T.map fun e=>if e.1=k then (e.1,c) else e)=sumH h T + h k * (c - gT T k)
 | [],_,ha=>by simp at ha
 | e :: T,hk,ha=>by
  have hk':=List.pairwise_cons.mp hk
  rw [List.map_cons,sumH_cons,sumH_cons,gT_cons]
  by_cases he:e.1=k
  ·rw [if_pos he,if_pos he,map_same fun e' he' h=>hk'.1 e' he' (by rw [he,h])]
   simp only
   rw [he,Int.mul_sub]
   omega
  ·have ha':T.any (fun e=>decide (e.1=k))=true:=by
    simp only [List.any_cons,he,decide_false,Bool.false_or] at ha
    exact ha
   rw [if_neg he,if_neg he,sumH_set h hk'.2 ha']
   omega
theorem sumH_pT (h:Int→Int) {T:List (Int × Int)} (hk:Keys T) (k c:Int):sumH h (pT T k (gT T k + c))=sumH h T + h k * c:=by
 unfold pT
 cases ha:T.any (fun e=>decide (e.1=k)) with
 | true=>
  rw [if_pos rfl,sumH_set h hk ha,show gT T k + c - gT T k=c by omega]
 | false=>
  rw [if_neg Bool.false_ne_true,sumH_app,no_key ha,sumH_cons]
  simp [sumH]
theorem keys_pT {T:List (Int × Int)} (hk:Keys T) (k c:Int):Keys (pT T k c):=by
 unfold pT
 cases ha:T.any (fun e=>decide (e.1=k)) with
 | true=>
  rw [if_pos rfl]
  unfold Keys
  rw [List.pairwise_map]
  refine List.Pairwise.imp (fun {a b} h=>?_) hk
  split <;> split <;> exact h
 | false=>
  rw [if_neg Bool.false_ne_true]
  refine List.pairwise_append.mpr ⟨hk,List.pairwise_singleton _ _,fun a ha' b hb=>?_⟩
  rw [List.mem_singleton.mp hb]
  rw [List.any_eq_false] at ha
  have:=ha a ha'
  simpa using this
theorem key_pT (T:List (Int × Int)) (k c v:Int):(∃ e ∈ pT T k c,e.1=v)↔(∃ e ∈ T,e.1=v) ∨ v=k:=by
 unfold pT
 cases ha:T.any (fun e=>decide (e.1=k)) with
 | true=>
  rw [if_pos rfl]
  constructor
  ·rintro ⟨e,he,rfl⟩
   obtain ⟨e',he',rfl⟩:=List.mem_map.mp he
   refine .inl ⟨e',he',?_⟩
   split <;> rfl
  ·rintro (⟨e,he,rfl⟩ | rfl)
   ·exact ⟨_,List.mem_map.mpr ⟨e,he,rfl⟩,by split <;> rfl⟩
   ·rw [List.any_eq_true] at ha
    obtain ⟨e,he,hd⟩:=ha
    exact ⟨_,List.mem_map.mpr ⟨e,he,rfl⟩,by split <;> exact of_decide_eq_true hd⟩
 | false=>
  rw [if_neg Bool.false_ne_true]
  constructor
  ·rintro ⟨e,he,rfl⟩
   rcases List.mem_append.mp he with he | he
   ·exact .inl ⟨e,he,rfl⟩
   ·rw [List.mem_singleton.mp he]; exact .inr rfl
  ·rintro (⟨e,he,rfl⟩ | rfl)
   ·exact ⟨e,List.mem_append_left _ he,rfl⟩
   ·exact ⟨(v,c),List.mem_append_right _ (List.mem_singleton.mpr rfl),rfl⟩
theorem len_pT (T:List (Int × Int)) (k c:Int):(pT T k c).length≤T.length + 1:=by
 unfold pT
 split <;> simp
structure Hist (T:List (Int × Int)) (f:List Int):Prop where
 keys:Keys T
 mem:∀ v,(∃ e ∈ T,e.1=v)↔v ∈ f
 sum:∀ h:Int→Int,sumH h T=(f.map h).sum
 len:T.length≤f.length
theorem Hist.zero:Hist [(0,1)] [0]:=⟨List.pairwise_singleton _ _,fun v=>by simp [eq_comm],fun h=>by simp [sumH],Nat.le_refl _⟩
theorem sumI_app:∀ (a b:List Int),(a ++ b).sum=a.sum + b.sum
 | [],b=>by simp
 | x :: a,b=>by rw [List.cons_append,List.sum_cons,List.sum_cons,sumI_app a b]; omega
structure HistC (T:List (Int × Int)) (L:List (Int × Int)):Prop where
 keys:Keys T
 mem:∀ v,(∃ e ∈ T,e.1=v)↔∃ e ∈ L,e.1=v
 sum:∀ h:Int→Int,sumH h T=sumH h L
 len:T.length≤L.length
theorem HistC.nil:HistC [] []:=⟨List.Pairwise.nil,fun v=>by simp,fun h=>rfl,Nat.le_refl _⟩
theorem HistC.put {T L:List (Int × Int)} (h:HistC T L) (k c:Int):HistC (pT T k (gT T k + c)) (L ++ [(k,c)]):=by
 refine ⟨keys_pT h.keys _ _,fun v=>?_,fun f=>?_,Nat.le_trans (len_pT _ _ _) (by have:=h.len; simp; omega)⟩
 ·rw [key_pT,h.mem v]
  constructor
  ·rintro (⟨e,he,e1⟩ | rfl)
   ·exact ⟨e,List.mem_append_left _ he,e1⟩
   ·exact ⟨(v,c),List.mem_append_right _ (List.mem_singleton.mpr rfl),rfl⟩
  ·rintro ⟨e,he,rfl⟩
   rcases List.mem_append.mp he with he | he
   ·exact .inl ⟨e,he,rfl⟩
   ·rw [List.mem_singleton.mp he]; exact .inr rfl
 ·rw [sumH_pT f h.keys,h.sum f,sumH_app,sumH_cons]
  simp [sumH]
noncomputable def putsOf (K:List Int) (x:Int) (T:List (Int × Int)):List (Int × Int):=T.flatMap fun e=>K.map fun q=>(e.1 + q * x,e.2)
theorem sumH_puts (K:List Int) (x:Int) (h:Int→Int):∀ T:List (Int × Int),sumH h (putsOf K x T)=sumH (fun y=>(K.map fun q=>h (y + q * x)).sum) T
 | []=>rfl
 | e :: T=>by
  have ih:=sumH_puts K x h T
  unfold putsOf at ih ⊢
  rw [List.flatMap_cons,sumH_app,sumH_cons,ih]
  congr 1
  have:∀ l:List Int,sumH h (l.map fun q=>(e.1 + q * x,e.2))=(l.map fun q=>h (e.1 + q * x)).sum * e.2:=fun l=>by
   induction l with
   | nil=>simp [sumH]
   | cons q l ih=>rw [List.map_cons,sumH_cons,List.map_cons,List.sum_cons,ih,Int.add_mul]
  exact this K
theorem sum_fS (K:List Int) (x:Int) (h:Int→Int):∀ f:List Int,((fS K x f).map h).sum=(f.map fun y=>(K.map fun q=>h (y + q * x)).sum).sum
 | []=>rfl
 | w :: f=>by
  have ih:=sum_fS K x h f
  unfold fS at ih ⊢
  rw [List.flatMap_cons,List.map_append,sumI_app,ih,List.map_cons,List.sum_cons,List.map_map]
  rfl
theorem mem_fS {K:List Int} {x v:Int} {f:List Int}:v ∈ fS K x f↔∃ w ∈ f,∃ q ∈ K,w + q * x=v:=by
 simp only [fS,List.mem_flatMap,List.mem_map]
theorem fS_len (K:List Int) (x:Int):∀ f:List Int,(fS K x f).length=f.length * K.length
 | []=>by simp [fS]
 | w :: f=>by
  have:=fS_len K x f
  simp only [fS,List.flatMap_cons,List.length_append,List.length_map,List.length_cons] at this ⊢
  rw [this,Nat.succ_mul]; omega
theorem puts_len (K:List Int) (x:Int):∀ T:List (Int × Int),(putsOf K x T).length=T.length * K.length
 | []=>by simp [putsOf]
 | w :: f=>by
  have:=puts_len K x f
  simp only [putsOf,List.flatMap_cons,List.length_append,List.length_map,List.length_cons] at this ⊢
  rw [this,Nat.succ_mul]; omega
theorem Hist.step {K:List Int} {x:Int} {T T':List (Int × Int)} {f:List Int} (h:Hist T f) (h':HistC T' (putsOf K x T)):Hist T' (fS K x f):=by
 refine ⟨h'.keys,fun v=>?_,fun g=>?_,?_⟩
 ·rw [h'.mem v,mem_fS]
  simp only [putsOf,List.mem_flatMap,List.mem_map]
  constructor
  ·rintro ⟨e,⟨e0,he0,q,hq,rfl⟩,rfl⟩
   exact ⟨e0.1,(h.mem _).mp ⟨e0,he0,rfl⟩,q,hq,rfl⟩
  ·rintro ⟨w,hw,q,hq,rfl⟩
   obtain ⟨e0,he0,rfl⟩:=(h.mem w).mpr hw
   exact ⟨_,⟨e0,he0,q,hq,rfl⟩,rfl⟩
 ·rw [h'.sum g,sumH_puts,h.sum,sum_fS]
 ·have:=h'.len
  rw [puts_len] at this
  rw [fS_len]
  exact Nat.le_trans this (Nat.mul_le_mul_right _ h.len)
theorem gT_sum {k:Int}:∀ {T:List (Int × Int)},Keys T→sumH (fun y=>if y=k then 1 else 0) T=gT T k
 | [],_=>rfl
 | e :: T,hk=>by
  have hk':=List.pairwise_cons.mp hk
  rw [sumH_cons,gT_cons]
  by_cases he:e.1=k
  ·rw [if_pos he,if_pos he,gT_sum hk'.2,no_key (by
    rw [List.any_eq_false]
    intro e' he' hd
    exact hk'.1 e' he' (by rw [he,of_decide_eq_true hd]))]
   omega
  ·rw [if_neg he,if_neg he,gT_sum hk'.2]; omega
theorem sum_ind (k:Int):∀ f:List Int,(f.map fun y=>if y=k then (1:Int) else 0).sum=(f.filter fun y=>decide (y=k)).length
 | []=>rfl
 | w :: f=>by
  rw [List.map_cons,List.sum_cons,sum_ind k f,List.filter_cons]
  by_cases h:w=k
  ·simp [h]; omega
  ·simp [h]
theorem Hist.get {T:List (Int × Int)} {f:List Int} (h:Hist T f) (k:Int):gT T k=((f.filter fun y=>decide (y=k)).length:Int):=by
 rw [← gT_sum h.keys,h.sum,sum_ind]
theorem wor_snoc:∀ (xs p:List Int) (x q:Int),p.length=xs.length→wor (xs ++ [x]) (p ++ [q])=wor xs p + q * x
 | [],[],x,q,_=>by show x * q + 0=0 + q * x; rw [Int.mul_comm]; omega
 | y :: xs,r :: p,x,q,h=>by
  show y * r + wor (xs ++ [x]) (p ++ [q])=y * r + wor xs p + q * x
  rw [wor_snoc xs p x q (by simpa using h)]; omega
 | [],_ :: _,_,_,h=>by cases h
 | _ :: _,[],_,_,h=>by cases h
noncomputable def wsL (K:List Int) (xs:List Int):List Int:=(allL K xs.length).map (wor xs)
theorem wsL_snoc (K xs:List Int) (x:Int):wsL K (xs ++ [x])=fS K x (wsL K xs):=by
 unfold wsL fS
 rw [List.length_append,List.length_cons,List.length_nil]
 show (ext K (allL K xs.length)).map _=_
 unfold ext
 rw [List.map_flatMap,List.flatMap_map]
 have:∀ l:List (List Int),(∀ p ∈ l,p.length=xs.length)→(l.flatMap fun p=>(K.map fun k=>p ++ [k]).map (wor (xs ++ [x])))=l.flatMap fun p=>K.map fun q=>wor xs p + q * x:=fun l=>by
  induction l with
  | nil=>intro _; rfl
  | cons p l ih=>
   intro h
   rw [List.flatMap_cons,List.flatMap_cons,ih fun p hp=>h p (.tail _ hp),List.map_map]
   congr 1
   refine List.map_congr_left fun k _=>?_
   exact wor_snoc xs p x k (h p (.head _))
 exact this _ fun p hp=>((allL_mem _ p).mp hp).1
noncomputable def leZ (x y:List Int):Prop:=ltZ y x=false
theorem ltZ_irr:∀ x:List Int,ltZ x x=false
 | []=>rfl
 | a :: x=>(ltZ_eq rfl).trans (ltZ_irr x)
theorem leZ_refl (x:List Int):leZ x x:=ltZ_irr x
theorem ltZ_asym:∀ {x y:List Int},ltZ x y=true→ltZ y x=false
 | [],[],h=>rfl
 | [],_ :: _,_=>rfl
 | _ :: _,[],h=>by cases h
 | a :: x,b :: y,h=>by
  by_cases e:a=b
  ·rw [ltZ_eq e] at h; rw [ltZ_eq e.symm]; exact ltZ_asym h
  ·rw [ltZ_ne e] at h
   have h:=of_decide_eq_true h
   rw [ltZ_ne (fun z=>e z.symm)]
   exact decide_eq_false (by omega)
theorem leZ_anti:∀ {x y:List Int},leZ x y→leZ y x→x=y
 | [],[],_,_=>rfl
 | [],_ :: _,_,h=>by cases h
 | _ :: _,[],h,_=>by cases h
 | a :: x,b :: y,h1,h2=>by
  unfold leZ at h1 h2
  by_cases e:a=b
  ·rw [ltZ_eq e.symm] at h1; rw [ltZ_eq e] at h2
   rw [e,leZ_anti h1 h2]
  ·rw [ltZ_ne (fun z=>e z.symm)] at h1
   rw [ltZ_ne e] at h2
   have h1:=of_decide_eq_false h1
   have h2:=of_decide_eq_false h2
   omega
theorem leZ_trans:∀ {x y z:List Int},leZ x y→leZ y z→leZ x z
 | [],y,[],_,_=>rfl
 | [],y,_ :: _,_,_=>rfl
 | _ :: _,[],_,h,_=>by cases h
 | _ :: _,_ :: _,[],_,h=>by cases h
 | a :: x,b :: y,c :: z,h1,h2=>by
  unfold leZ at h1 h2 ⊢
  by_cases e1:b=a
  ·rw [ltZ_eq e1] at h1
   by_cases e2:c=b
   ·rw [ltZ_eq e2] at h2
    rw [ltZ_eq (e2.trans e1)]
    exact leZ_trans (x:=x) (y:=y) h1 h2
   ·rw [ltZ_ne e2] at h2
    rw [ltZ_ne (fun e=>e2 (by rw [e,e1]))]
    rw [← e1]; exact h2
  ·rw [ltZ_ne e1] at h1
   have h1:=of_decide_eq_false h1
   by_cases e2:c=b
   ·rw [ltZ_ne (fun e=>e1 (by rw [← e2,e]))]
    exact decide_eq_false (by omega)
   ·rw [ltZ_ne e2] at h2
    have h2:=of_decide_eq_false h2
    rw [ltZ_ne (by omega)]
    exact decide_eq_false (by omega)
theorem leZ_of_lt {x y:List Int} (h:ltZ x y=true):leZ x y:=ltZ_asym h
theorem ltZ_app:∀ {x y:List Int} (u v:List Int),x.length=y.length→ltZ (x ++ u) (y ++ v)=if x=y then ltZ u v else ltZ x y
 | [],[],u,v,_=>by simp
 | [],_ :: _,_,_,h=>by cases h
 | _ :: _,[],_,_,h=>by cases h
 | a :: x,b :: y,u,v,h=>by
  have ih:=ltZ_app u v (show x.length=y.length by simpa using h)
  rw [List.cons_append,List.cons_append]
  by_cases e:a=b
  ·subst e
   rw [ltZ_eq rfl,ltZ_eq rfl,ih]
   by_cases e2:x=y
   ·rw [if_pos e2,if_pos (by rw [e2])]
   ·rw [if_neg e2,if_neg (fun z=>e2 (List.cons.inj z).2)]
  ·rw [ltZ_ne e,ltZ_ne e,if_neg (fun z=>e (List.cons.inj z).1)]
theorem leZ_app {x y u v:List Int} (hl:x.length=y.length) (h1:leZ x y) (h2:leZ u v):leZ (x ++ u) (y ++ v):=by
 unfold leZ at *
 rw [ltZ_app v u hl.symm]
 by_cases e:y=x
 ·rw [if_pos e]; exact h2
 ·rw [if_neg e]; exact h1
theorem minT_ok:∀ (l:List (List Int)) (m:List Int),(minT m l=m ∨ minT m l ∈ l)∧leZ (minT m l) m∧∀ y ∈ l,leZ (minT m l) y
 | [],m=>⟨.inl rfl,leZ_refl _,fun y h=>nomatch h⟩
 | x :: l,m=>by
  obtain ⟨h1,h2,h3⟩:=minT_ok l (if ltZ x m=true then x else m)
  have e:minT m (x :: l)=minT (if ltZ x m=true then x else m) l:=rfl
  rw [e]
  by_cases hx:ltZ x m=true
  ·rw [if_pos hx] at h1 h2 h3 ⊢
   refine ⟨.inr ?_,leZ_trans h2 (leZ_of_lt hx),fun y hy=>?_⟩
   ·rcases h1 with h1 | h1
    ·rw [h1]; exact .head _
    ·exact .tail _ h1
   ·rcases List.mem_cons.mp hy with rfl | hy
    ·exact h2
    ·exact h3 y hy
  ·rw [if_neg hx] at h1 h2 h3 ⊢
   have hx':leZ m x:=by unfold leZ; simpa using hx
   refine ⟨?_,h2,fun y hy=>?_⟩
   ·rcases h1 with h1 | h1
    ·exact .inl h1
    ·exact .inr (.tail _ h1)
   ·rcases List.mem_cons.mp hy with rfl | hy
    ·exact leZ_trans h2 hx'
    ·exact h3 y hy
noncomputable abbrev TF:=List (Int × List Int)
noncomputable def pF (T:TF) (k:Int) (c:List Int):TF:=if T.any (fun e=>decide (e.1=k)) then T.map (fun e=>if e.1=k then (e.1,c) else e) else T ++ [(k,c)]
noncomputable def gF (T:TF) (k:Int):Option (List Int):=(T.find? fun e=>decide (e.1=k)).map (·.2)
noncomputable def KeysF (T:TF):Prop:=T.Pairwise fun a b=>a.1 ≠ b.1
theorem mem_pF {T:TF} {k:Int} {c:List Int} {e:Int × List Int}:e ∈ pF T k c↔e=(k,c) ∨ (e ∈ T∧e.1 ≠ k):=by
 unfold pF
 cases ha:T.any (fun e=>decide (e.1=k)) with
 | true=>
  rw [if_pos rfl,List.mem_map]
  constructor
  ·rintro ⟨d,hd,rfl⟩
   by_cases h:d.1=k
   ·rw [if_pos h,h]; exact .inl rfl
   ·rw [if_neg h]; exact .inr ⟨hd,h⟩
  ·rintro (rfl | ⟨he,h⟩)
   ·rw [List.any_eq_true] at ha
    obtain ⟨d,hd,z⟩:=ha
    have z:=of_decide_eq_true z
    exact ⟨d,hd,by rw [if_pos z,z]⟩
   ·exact ⟨e,he,by rw [if_neg h]⟩
 | false=>
  rw [if_neg Bool.false_ne_true,List.mem_append,List.mem_singleton]
  rw [List.any_eq_false] at ha
  constructor
  ·rintro (h | h)
   ·exact .inr ⟨h,fun z=>ha e h (decide_eq_true z)⟩
   ·exact .inl h
  ·rintro (h | ⟨h,_⟩)
   ·exact .inr h
   ·exact .inl h
theorem keys_pF {T:TF} (hk:KeysF T) (k:Int) (c:List Int):KeysF (pF T k c):=by
 unfold pF
 cases ha:T.any (fun e=>decide (e.1=k)) with
 | true=>
  rw [if_pos rfl]
  unfold KeysF
  rw [List.pairwise_map]
  refine List.Pairwise.imp (fun {a b} h=>?_) hk
  split <;> split <;> exact h
 | false=>
  rw [if_neg Bool.false_ne_true]
  refine List.pairwise_append.mpr ⟨hk,List.pairwise_singleton _ _,fun a ha' b hb=>?_⟩
  rw [List.mem_singleton.mp hb]
  rw [List.any_eq_false] at ha
  have:=ha a ha'
  simpa using this
theorem len_pF (T:TF) (k:Int) (c:List Int):(pF T k c).length≤T.length + 1:=by
 unfold pF
 split <;> simp
theorem gF_some {T:TF} {k:Int} {u:List Int} (h:gF T k=some u):(k,u) ∈ T:=by
 unfold gF at h
 cases hf:T.find? fun e=>decide (e.1=k) with
 | none=>rw [hf] at h; cases h
 | some d=>
  rw [hf] at h
  have h1:=List.find?_some hf
  have h1:d.1=k:=by simpa using h1
  have h2:=List.mem_of_find?_eq_some hf
  cases h
  rw [← h1]; exact h2
theorem gF_none {T:TF} {k:Int} (h:gF T k=none):∀ e ∈ T,e.1 ≠ k:=by
 unfold gF at h
 cases hf:T.find? fun e=>decide (e.1=k) with
 | some d=>rw [hf] at h; cases h
 | none=>
  rw [List.find?_eq_none] at hf
  exact fun e he z=>hf e he (decide_eq_true z)
noncomputable def min2 (a b:List Int):List Int:=if ltZ b a=true then b else a
structure FT (T L:TF):Prop where
 keys:KeysF T
 mem:∀ v,(∃ e ∈ T,e.1=v)↔∃ e ∈ L,e.1=v
 least:∀ e ∈ T,e ∈ L∧∀ d ∈ L,d.1=e.1→leZ e.2 d.2
 len:T.length≤L.length
theorem FT.nil:FT [] []:=⟨List.Pairwise.nil,fun v=>by simp,(fun e h=>nomatch h),Nat.le_refl _⟩
theorem FT.put {T L:TF} (h:FT T L) (k:Int) (v:List Int):FT (pF T k (min2 v ((gF T k).getD v))) (L ++ [(k,v)]):=by
 refine ⟨keys_pF h.keys _ _,fun x=>?_,fun e he=>?_,Nat.le_trans (len_pF _ _ _) (by have:=h.len; simp; omega)⟩
 ·constructor
  ·rintro ⟨e,he,rfl⟩
   rcases mem_pF.mp he with rfl | ⟨he,_⟩
   ·exact ⟨(k,v),List.mem_append_right _ (List.mem_singleton.mpr rfl),rfl⟩
   ·obtain ⟨d,hd,z⟩:=(h.mem _).mp ⟨e,he,rfl⟩
    exact ⟨d,List.mem_append_left _ hd,z⟩
  ·rintro ⟨d,hd,rfl⟩
   by_cases hk:d.1=k
   ·exact ⟨_,mem_pF.mpr (.inl rfl),hk.symm⟩
   ·rcases List.mem_append.mp hd with hd | hd
    ·obtain ⟨e,he,z⟩:=(h.mem _).mpr ⟨d,hd,rfl⟩
     exact ⟨e,mem_pF.mpr (.inr ⟨he,by rw [z]; exact hk⟩),z⟩
    ·rw [List.mem_singleton.mp hd] at hk; exact absurd rfl hk
 ·rcases mem_pF.mp he with rfl | ⟨he,hk⟩
  ·cases hg:gF T k with
   | none=>
    have e0:min2 v ((none:Option (List Int)).getD v)=v:=if_neg (by rw [Option.getD_none,ltZ_irr]; decide)
    rw [e0]
    refine ⟨List.mem_append_right _ (List.mem_singleton.mpr rfl),fun d hd hz=>?_⟩
    rcases List.mem_append.mp hd with hd | hd
    ·obtain ⟨e,he,z⟩:=(h.mem _).mpr ⟨d,hd,rfl⟩
     exact absurd (z.trans hz) (gF_none hg e he)
    ·rw [List.mem_singleton.mp hd]; exact leZ_refl _
   | some u=>
    have hu:=gF_some hg
    obtain ⟨l1,l2⟩:=h.least _ hu
    rw [show min2 v ((some u).getD v)=min2 v u from rfl]
    unfold min2
    by_cases hx:ltZ u v=true
    ·rw [if_pos hx]
     refine ⟨List.mem_append_left _ l1,fun d hd hz=>?_⟩
     rcases List.mem_append.mp hd with hd | hd
     ·exact l2 d hd hz
     ·rw [List.mem_singleton.mp hd]; exact leZ_of_lt hx
    ·rw [if_neg hx]
     have hx':leZ v u:=by unfold leZ; simpa using hx
     refine ⟨List.mem_append_right _ (List.mem_singleton.mpr rfl),fun d hd hz=>?_⟩
     rcases List.mem_append.mp hd with hd | hd
     ·exact leZ_trans hx' (l2 d hd hz)
     ·rw [List.mem_singleton.mp hd]; exact leZ_refl _
  ·obtain ⟨l1,l2⟩:=h.least e he
   refine ⟨List.mem_append_left _ l1,fun d hd hz=>?_⟩
   rcases List.mem_append.mp hd with hd | hd
   ·exact l2 d hd hz
   ·rw [List.mem_singleton.mp hd] at hz
    exact absurd hz.symm hk
structure Firsts (T:TF) (xs:List Int):Prop where
 keys:KeysF T
 mem:∀ v,(∃ e ∈ T,e.1=v)↔∃ p ∈ allL KS xs.length,wor xs p=v
 least:∀ e ∈ T,(e.2 ∈ allL KS xs.length∧wor xs e.2=e.1)∧∀ p ∈ allL KS xs.length,wor xs p=e.1→leZ e.2 p
 len:T.length≤2 ^ xs.length
theorem Firsts.zero:Firsts [(0,[])] []:=by
 refine ⟨List.pairwise_singleton _ _,fun v=>?_,fun e he=>?_,Nat.le_refl _⟩
 ·constructor
  ·rintro ⟨e,he,rfl⟩
   rw [List.mem_singleton.mp he]
   exact ⟨[],List.mem_singleton.mpr rfl,rfl⟩
  ·rintro ⟨p,hp,rfl⟩
   have hp:p=[]:=List.mem_singleton.mp hp
   rw [hp]
   exact ⟨_,List.mem_singleton.mpr rfl,rfl⟩
 ·rw [List.mem_singleton.mp he]
  refine ⟨⟨List.mem_singleton.mpr rfl,rfl⟩,fun p hp _=>?_⟩
  have hp:p=[]:=List.mem_singleton.mp hp
  rw [hp]; exact leZ_refl _
noncomputable def putsF (x:Int) (T:TF):TF:=T.flatMap fun e=>KS.map fun q=>(e.1 + q * x,e.2 ++ [q])
theorem mem_putsF {x:Int} {T:TF} {d:Int × List Int}:d ∈ putsF x T↔∃ e ∈ T,∃ q ∈ KS,(e.1 + q * x,e.2 ++ [q])=d:=by
 simp only [putsF,List.mem_flatMap,List.mem_map]
theorem putsF_len (x:Int):∀ T:TF,(putsF x T).length=T.length * 2
 | []=>rfl
 | e :: T=>by
  have:=putsF_len x T
  simp only [putsF,List.flatMap_cons,List.length_append,List.length_map,List.length_cons,List.length_nil] at this ⊢
  rw [this]; omega
theorem all_snoc {n:Nat} {p:List Int} (h:p ∈ allL KS (n + 1)):∃ p0 q,p=p0 ++ [q]∧p0 ∈ allL KS n∧q ∈ KS:=by
 obtain ⟨h1,h2⟩:=(allL_mem _ p).mp h
 have hne:p ≠ []:=fun e=>by rw [e] at h1; cases h1
 refine ⟨p.dropLast,p.getLast hne,(List.dropLast_concat_getLast hne).symm,(allL_mem _ _).mpr ⟨by rw [List.length_dropLast,h1]; rfl,fun y hy=>h2 y (List.dropLast_subset _ hy)⟩,h2 _ (List.getLast_mem hne)⟩
theorem snoc_all {n:Nat} {p:List Int} {q:Int} (h:p ∈ allL KS n) (hq:q ∈ KS):p ++ [q] ∈ allL KS (n + 1):=by
 obtain ⟨h1,h2⟩:=(allL_mem _ p).mp h
 refine (allL_mem _ _).mpr ⟨by rw [List.length_append,h1]; rfl,fun y hy=>?_⟩
 rcases List.mem_append.mp hy with hy | hy
 ·exact h2 y hy
 ·rw [List.mem_singleton.mp hy]; exact hq
theorem Firsts.step {T T':TF} {xs:List Int} {x:Int} (h:Firsts T xs) (h':FT T' (putsF x T)):Firsts T' (xs ++ [x]):=by
 have hn:(xs ++ [x]).length=xs.length + 1:=by simp
 refine ⟨h'.keys,fun v=>?_,fun e he=>?_,?_⟩
 ·rw [h'.mem v,hn]
  constructor
  ·rintro ⟨d,hd,rfl⟩
   obtain ⟨e,he,q,hq,rfl⟩:=mem_putsF.mp hd
   obtain ⟨⟨a1,a2⟩,_⟩:=h.least e he
   exact ⟨e.2 ++ [q],snoc_all a1 hq,by rw [wor_snoc _ _ _ _ ((allL_mem _ _).mp a1).1,a2]⟩
  ·rintro ⟨p,hp,rfl⟩
   obtain ⟨p0,q,rfl,hp0,hq⟩:=all_snoc hp
   obtain ⟨e,he,z⟩:=(h.mem _).mpr ⟨p0,hp0,rfl⟩
   exact ⟨_,mem_putsF.mpr ⟨e,he,q,hq,rfl⟩,by rw [wor_snoc _ _ _ _ ((allL_mem _ _).mp hp0).1,z]⟩
 ·rw [hn]
  obtain ⟨l1,l2⟩:=h'.least e he
  obtain ⟨d,hd,q,hq,rfl⟩:=mem_putsF.mp l1
  obtain ⟨⟨a1,a2⟩,_⟩:=h.least d hd
  refine ⟨⟨snoc_all a1 hq,by rw [wor_snoc _ _ _ _ ((allL_mem _ _).mp a1).1,a2]⟩,fun p hp hw=>?_⟩
  obtain ⟨p0,r,rfl,hp0,hr⟩:=all_snoc hp
  rw [wor_snoc _ _ _ _ ((allL_mem _ _).mp hp0).1] at hw
  obtain ⟨c,hc,z⟩:=(h.mem _).mpr ⟨p0,hp0,rfl⟩
  obtain ⟨⟨c1,c2⟩,c3⟩:=h.least c hc
  have i1:=l2 (c.1 + r * x,c.2 ++ [r]) (mem_putsF.mpr ⟨c,hc,r,hr,rfl⟩) (by rw [z]; exact hw)
  exact leZ_trans i1 (leZ_app (((allL_mem _ _).mp c1).1.trans ((allL_mem _ _).mp hp0).1.symm) (c3 p0 hp0 z.symm) (leZ_refl _))
 ·have:=h'.len
  rw [putsF_len] at this
  rw [hn,Nat.pow_succ]
  have:=h.len
  omega
noncomputable def encT (T:List (Int × Int)):List (KD × D):=T.map fun e=>(.inl e.1,.int e.2)
theorem encT_any (T:List (Int × Int)) (k:Int):(encT T).any (fun kv=>decide (kv.1=.inl k))=T.any fun e=>decide (e.1=k):=by
 unfold encT
 rw [List.any_map]
 congr 1
 funext e
 show decide ((Sum.inl e.1:KD)=.inl k)=decide (e.1=k)
 rw [decide_eq_decide]
 exact ⟨Sum.inl.inj,fun h=>by rw [h]⟩
theorem encT_put (T:List (Int × Int)) (k c:Int):putD (encT T) (.inl k) (.int c)=encT (pT T k c):=by
 unfold putD pT
 rw [encT_any]
 cases T.any fun e=>decide (e.1=k) with
 | true=>
  rw [if_pos rfl,if_pos rfl]
  unfold encT
  rw [List.map_map,List.map_map]
  refine List.map_congr_left fun e _=>?_
  simp only [Function.comp]
  by_cases h:e.1=k
  ·rw [if_pos (by rw [h]),if_pos h]
  ·rw [if_neg (fun z=>h (Sum.inl.inj z)),if_neg h]
 | false=>
  rw [if_neg Bool.false_ne_true,if_neg Bool.false_ne_true]
  simp [encT]
theorem encT_get (T:List (Int × Int)) (k:Int):(getK (encT T) (.inl k)).getD (.int 0)=.int (gT T k):=by
 unfold getK gT encT
 rw [List.find?_map]
 have e:((fun kv:KD × D=>decide (kv.1=.inl k)) ∘ fun e:Int × Int=>((.inl e.1:KD),D.int e.2))=fun e=>decide (e.1=k):=by
  funext e
  show decide ((Sum.inl e.1:KD)=.inl k)=decide (e.1=k)
  rw [decide_eq_decide]
  exact ⟨Sum.inl.inj,fun h=>by rw [h]⟩
 rw [e]
 cases T.find? fun e=>decide (e.1=k) <;> rfl
noncomputable def dAt (S:Sto) (n:Nat) (T:List (Int × Int)):Prop:=S[n]?=some (.dic (encT T)) ∨ S[n]?=some (.fdic (encT T))
theorem dAt.dic {S:Sto} {n:Nat} {T:List (Int × Int)} (h:dAt S n T):dicOf S (.ref n)=some (encT T):=by
 rcases h with h | h <;> simp [dicOf,h]
theorem dAt.lt {S:Sto} {n:Nat} {T:List (Int × Int)} (h:dAt S n T):n < S.length:=by
 rcases h with h | h <;> exact (List.getElem?_eq_some_iff.mp h).1
noncomputable abbrev stI:SM:=(sSeq (sSet 7 (eOp oAdd (eVar 4) (eOp oMul (eVar 6) (eVar 1)))) (sPut fPutD (eOp oAdd (eGet2 (eVar 3) (eVar 7) (eC (.int 0))) (eVar 5)) (eVar 3) (eVar 7)))
noncomputable abbrev stO:SM:=(sFor (aSeq (eVar 2) itSeq) (.nm 6) (sSeq (sSet 7 (eOp oAdd (eVar 4) (eOp oMul (eVar 6) (eVar 1)))) (sPut fPutD (eOp oAdd (eGet2 (eVar 3) (eVar 7) (eC (.int 0))) (eVar 5)) (eVar 3) (eVar 7))))
noncomputable abbrev tofB:SM:=(sSet 2 (eCall F_stepped (aCons (eVar 2) (aCons (eVar 3) (aCons (eVar 1) aNil)))))
theorem sml {q:Int} (h:-1≤q∧q≤1):smallI q:=⟨by omega,by omega⟩
theorem stI_ok {S:Sto} {m:Nat} {W:List (Int × Int)} {x w c q:Int} (hq:-1≤q∧q≤1) (hm:S[m]?=some (.dic (encT W))) (hz:W.length < 3000) (r0 r2 r7:Option D):
  stI [r0,some (.int x),r2,some (.ref m),some (.int w),some (.int c),some (.int q),r7] S=.ok (.nx [r0,some (.int x),r2,some (.ref m),some (.int w),some (.int c),some (.int q),some (.int (w + q * x))]) (S.set m (.dic (encT (pT W (w + q * x) (gT W (w + q * x) + c))))):=by
 have hd:dicOf S (.ref m)=some (encT W):=by simp [dicOf,hm]
 have z:(3000:Nat)≤sizeLine:=by decide
 refine (sSeq_go (sSet_go (eOp_go (eVar_go rfl) (eOp_go (eVar_go rfl) (eVar_go rfl) (oMul_i (.inl (sml hq)))) rfl))).trans ?_
 have hg:eGet2 (eVar 3) (eVar 7) (eC (.int 0)) [r0,some (.int x),r2,some (.ref m),some (.int w),some (.int c),some (.int q),some (.int (w + q * x))] S=.ok (.int (gT W (w + q * x))) S:=by
  rw [← encT_get]
  exact eGet2_go (eVar_go rfl) hd (eVar_go rfl) rfl hd rfl
 refine sPut_go (eOp_go hg (eVar_go rfl) rfl) (eVar_go rfl) (eVar_go rfl) ?_
 have h1:isDic S (.ref m)=true:=by simp [isDic,hm]
 unfold fPutD
 rw [if_pos h1]
 unfold fPutK
 simp only [hm,keyD]
 rw [if_pos (by simp [encT]; omega),encT_put]
theorem stI_loop {x w c:Int} (r0 r2:Option D) {m:Nat}:∀ (K:List Int) (S:Sto) (W L:List (Int × Int)) (r6 r7:Option D),(∀ q ∈ K,-1≤q∧q≤1)→S[m]?=some (.dic (encT W))→HistC W L→L.length + K.length≤3000→
  ∃ (W':List (Int × Int)) (r6' r7':Option D),forL (.nm 6) stI (K.map .int) [r0,some (.int x),r2,some (.ref m),some (.int w),some (.int c),r6,r7] S=.ok (.nx [r0,some (.int x),r2,some (.ref m),some (.int w),some (.int c),r6',r7']) (S.set m (.dic (encT W')))∧HistC W' (L ++ K.map fun q=>(w + q * x,c))
 | [],S,W,L,r6,r7,_,hm,h,_=>⟨W,r6,r7,by
  have hml:m < S.length:=(List.getElem?_eq_some_iff.mp hm).1
  have:S.set m (.dic (encT W))=S:=by
   have e:=(List.getElem?_eq_some_iff.mp hm).2
   rw [← e]; exact List.set_getElem_self hml
  rw [this]; rfl,by simpa using h⟩
 | q :: K,S,W,L,r6,r7,hK,hm,h,hz=>by
  rw [List.length_cons] at hz
  have hml:m < S.length:=(List.getElem?_eq_some_iff.mp hm).1
  have e1:=stI_ok (S:=S) (x:=x) (w:=w) (c:=c) (hK q (.head _)) hm (by have:=h.len; omega) r0 r2 r7
  obtain ⟨W',a6,a7,e2,h2⟩:=stI_loop r0 r2 K (S.set m (.dic (encT (pT W (w + q * x) (gT W (w + q * x) + c))))) (pT W (w + q * x) (gT W (w + q * x) + c)) (L ++ [(w + q * x,c)]) (some (.int q)) (some (.int (w + q * x))) (fun q hq=>hK q (.tail _ hq)) (List.getElem?_set_self hml) (h.put (w + q * x) c) (by simp; omega)
  rw [List.set_set] at e2
  refine ⟨W',a6,a7,(forL_cons (r1:=[r0,some (.int x),r2,some (.ref m),some (.int w),some (.int c),some (.int q),r7]) rfl e1).trans e2,?_⟩
  rw [List.map_cons]
  simpa using h2
theorem stO_loop {K:List Int} {x:Int} (hK:∀ q ∈ K,-1≤q∧q≤1) (r0:Option D) {m:Nat}:∀ (T:List (Int × Int)) (S:Sto) (W L:List (Int × Int)) (r4 r5 r6 r7:Option D),S[m]?=some (.dic (encT W))→HistC W L→L.length + T.length * K.length≤3000→
  ∃ (W':List (Int × Int)) (r4' r5' r6' r7':Option D),forL (.tp [.nm 4,.nm 5]) stO ((encT T).map pairD) [r0,some (.int x),some (tupI K),some (.ref m),r4,r5,r6,r7] S=.ok (.nx [r0,some (.int x),some (tupI K),some (.ref m),r4',r5',r6',r7']) (S.set m (.dic (encT W')))∧HistC W' (L ++ putsOf K x T)
 | [],S,W,L,r4,r5,r6,r7,hm,h,_=>⟨W,r4,r5,r6,r7,by
  have hml:m < S.length:=(List.getElem?_eq_some_iff.mp hm).1
  have:S.set m (.dic (encT W))=S:=by
   have e:=(List.getElem?_eq_some_iff.mp hm).2
   rw [← e]; exact List.set_getElem_self hml
  rw [this]; rfl,by simpa [putsOf] using h⟩
 | e :: T,S,W,L,r4,r5,r6,r7,hm,h,hz=>by
  have hm2:(e :: T).length * K.length=T.length * K.length + K.length:=by rw [List.length_cons,Nat.succ_mul]
  have hml:m < S.length:=(List.getElem?_eq_some_iff.mp hm).1
  obtain ⟨W1,a6,a7,e1,h1⟩:=stI_loop (x:=x) (w:=e.1) (c:=e.2) r0 (some (tupI K)) K S W L r6 r7 hK hm h (by omega)
  obtain ⟨W2,b4,b5,b6,b7,e2,h2⟩:=stO_loop hK r0 T (S.set m (.dic (encT W1))) W1 (L ++ K.map fun q=>(e.1 + q * x,e.2)) (some (.int e.1)) (some (.int e.2)) a6 a7 (List.getElem?_set_self hml) h1 (by rw [List.length_append,List.length_map]; omega)
  rw [List.set_set] at e2
  refine ⟨W2,b4,b5,b6,b7,?_,?_⟩
  ·show forL _ _ (pairD (.inl e.1,.int e.2) :: (encT T).map pairD) _ _=_
   exact (forL_cons (r1:=[r0,some (.int x),some (tupI K),some (.ref m),some (.int e.1),some (.int e.2),r6,r7]) rfl ((sFor_seq (eVar_go rfl) rfl).trans e1)).trans e2
  ·have:putsOf K x (e :: T)=(K.map fun q=>(e.1 + q * x,e.2)) ++ putsOf K x T:=by simp [putsOf]
   rw [this,← List.append_assoc]
   exact h2
theorem items_go {S:Sto} {n:Nat} {T:List (Int × Int)} {ρ:Rho} {i:Nat} (hi:ρ[i]?=some (some (.ref n))) (h:dAt S n T):aItems (eVar i) ρ S=.ok ((encT T).map pairD) (S.set n (.fdic (encT T))):=by
 unfold aItems
 rw [eVar_go hi,R.bind_ok]
 rcases h with h | h
 ·simp only [h]
 ·simp only [h]
  have hnl:n < S.length:=(List.getElem?_eq_some_iff.mp h).1
  have:S.set n (.fdic (encT T))=S:=by
   have e:=(List.getElem?_eq_some_iff.mp h).2
   rw [← e]; exact List.set_getElem_self hnl
  rw [this]
theorem stepped_ok {K:List Int} {x:Int} {S:Sto} {n:Nat} {T:List (Int × Int)} {f:List Int} (hK:∀ q ∈ K,-1≤q∧q≤1) (hd:dAt S n T) (h:Hist T f) (hz:f.length * K.length≤3000):
  ∃ T':List (Int × Int),F_stepped [.ref n,.int x,tupI K] S=.ok (.ref S.length) (S.set n (.fdic (encT T)) ++ [.dic (encT T')])∧Hist T' (fS K x f):=by
 have hnl:=hd.lt
 have hd':dAt (S ++ [.dic []]) n T:=by
  unfold dAt
  rw [List.getElem?_append_left hnl]
  exact hd
 have hle:T.length * K.length≤f.length * K.length:=Nat.mul_le_mul_right _ h.len
 have e0:(S ++ [SO.dic []]).set n (.fdic (encT T))=S.set n (.fdic (encT T)) ++ [.dic []]:=List.set_append_left _ _ hnl
 obtain ⟨T',a4,a5,a6,a7,e1,h1⟩:=stO_loop (x:=x) hK (some (.ref n)) (m:=S.length) T (S.set n (.fdic (encT T)) ++ [.dic []]) [] [] none none none none (by simp [encT]) HistC.nil (by simp; omega)
 have e2:(S.set n (.fdic (encT T)) ++ [SO.dic []]).set S.length (.dic (encT T'))=S.set n (.fdic (encT T)) ++ [.dic (encT T')]:=by
  rw [List.set_append_right _ _ (by simp)]; simp
 rw [e2] at e1
 refine ⟨T',?_,h.step (by simpa using h1)⟩
 exact fnM_rt (ρ:=[some (.ref n),some (.int x),some (tupI K),none,none,none,none,none]) rfl ((sSeq_go (S1:=S ++ [.dic []]) (sSet_go rfl)).trans ((sSeq_go (r1:=[some (.ref n),some (.int x),some (tupI K),some (.ref S.length),a4,a5,a6,a7]) ((sFor_go (items_go rfl hd')).trans (by rw [e0]; exact e1))).trans (sRet_go (eVar_go rfl))))
noncomputable def encF (T:TF):List (KD × D):=T.map fun e=>(.inl e.1,tupI e.2)
theorem encF_any (T:TF) (k:Int):(encF T).any (fun kv=>decide (kv.1=.inl k))=T.any fun e=>decide (e.1=k):=by
 unfold encF
 rw [List.any_map]
 congr 1
 funext e
 show decide ((Sum.inl e.1:KD)=.inl k)=decide (e.1=k)
 rw [decide_eq_decide]
 exact ⟨Sum.inl.inj,fun h=>by rw [h]⟩
theorem encF_put (T:TF) (k:Int) (c:List Int):putD (encF T) (.inl k) (tupI c)=encF (pF T k c):=by
 unfold putD pF
 rw [encF_any]
 cases T.any fun e=>decide (e.1=k) with
 | true=>
  rw [if_pos rfl,if_pos rfl]
  unfold encF
  rw [List.map_map,List.map_map]
  refine List.map_congr_left fun e _=>?_
  simp only [Function.comp]
  by_cases h:e.1=k
  ·rw [if_pos (by rw [h]),if_pos h]
  ·rw [if_neg (fun z=>h (Sum.inl.inj z)),if_neg h]
 | false=>
  rw [if_neg Bool.false_ne_true,if_neg Bool.false_ne_true]
  simp [encF]
theorem encF_get (T:TF) (k:Int):getK (encF T) (.inl k)=(gF T k).map tupI:=by
 unfold getK gF encF
 rw [List.find?_map]
 have e:((fun kv:KD × D=>decide (kv.1=.inl k)) ∘ fun e:Int × List Int=>((.inl e.1:KD),tupI e.2))=fun e=>decide (e.1=k):=by
  funext e
  show decide ((Sum.inl e.1:KD)=.inl k)=decide (e.1=k)
  rw [decide_eq_decide]
  exact ⟨Sum.inl.inj,fun h=>by rw [h]⟩
 rw [e]
 cases T.find? fun e=>decide (e.1=k) <;> rfl
noncomputable abbrev fsI:SM:=(sSeq (sSet 6 (eOp oAdd (eVar 3) (eOp oMul (eVar 5) (eVar 1)))) (sSeq (sSet 7 (eOp oAdd (eVar 4) (eTup (aCons (eVar 5) aNil)))) (sPut fPutD (eB fMin3 (aCons (eVar 7) (aCons (eGet2 (eVar 2) (eVar 6) (eVar 7)) aNil))) (eVar 2) (eVar 6))))
theorem tup_snoc (S:Sto) (p:List Int) (q:Int) (h:p.length≤100):oAdd S (tupI p) (.tup [.int q])=some (tupI (p ++ [q])):=by
 have z:(1000:Nat)≤sizeLine:=by decide
 refine (oAdd_t (by simp; omega)).trans ?_
 simp [tupI]
theorem intsOf_map':∀ xs:List Int,intsOf (xs.map .int)=some xs
 | []=>rfl
 | x :: xs=>by rw [List.map_cons,intsOf,intsOf_map' xs]; rfl
theorem fMin3_tup (S:Sto) (a b:List Int):fMin3 S [tupI a,tupI b]=some (tupI (min2 a b)):=by
 show fMinT S [.tup (a.map .int),.tup (b.map .int)]=_
 unfold fMinT min2
 simp only [intsOf_map']
 by_cases h:ltZ b a=true
 ·rw [if_pos h,if_pos h]
 ·rw [if_neg h,if_neg h]
theorem fsI_ok {S:Sto} {m:Nat} {W:TF} {x w q:Int} {p:List Int} (hq:-1≤q∧q≤1) (hp:p.length≤100) (hm:S[m]?=some (.dic (encF W))) (hz:W.length < 1000) (r0 r6 r7:Option D):
  fsI [r0,some (.int x),some (.ref m),some (.int w),some (tupI p),some (.int q),r6,r7] S=.ok (.nx [r0,some (.int x),some (.ref m),some (.int w),some (tupI p),some (.int q),some (.int (w + q * x)),some (tupI (p ++ [q]))]) (S.set m (.dic (encF (pF W (w + q * x) (min2 (p ++ [q]) ((gF W (w + q * x)).getD (p ++ [q]))))))):=by
 have hd:dicOf S (.ref m)=some (encF W):=by simp [dicOf,hm]
 have z:(1000:Nat)≤sizeLine:=by decide
 have z1:(1:Nat)≤sizeLine:=by decide
 refine (sSeq_go (sSet_go (eOp_go (eVar_go rfl) (eOp_go (eVar_go rfl) (eVar_go rfl) (oMul_i (.inl ⟨by omega,by omega⟩))) rfl))).trans ?_
 refine (sSeq_go (sSet_go (eOp_go (eVar_go rfl) (eTup_go (xs:=[.int q]) rfl z1) (tup_snoc S p q hp)))).trans ?_
 have hg:eGet2 (eVar 2) (eVar 6) (eVar 7) [r0,some (.int x),some (.ref m),some (.int w),some (tupI p),some (.int q),some (.int (w + q * x)),some (tupI (p ++ [q]))] S=.ok (tupI ((gF W (w + q * x)).getD (p ++ [q]))) S:=by
  have e:(getK (encF W) (.inl (w + q * x))).getD (tupI (p ++ [q]))=tupI ((gF W (w + q * x)).getD (p ++ [q])):=by
   rw [encF_get]
   cases gF W (w + q * x) <;> rfl
  rw [← e]
  exact eGet2_go (eVar_go rfl) hd (eVar_go rfl) (eVar_go rfl) hd rfl
 refine sPut_go (eB_go (aCons_go (eVar_go rfl) (aCons_go hg rfl)) (fMin3_tup _ _ _)) (eVar_go rfl) (eVar_go rfl) ?_
 have h1:isDic S (.ref m)=true:=by simp [isDic,hm]
 unfold fPutD
 rw [if_pos h1]
 unfold fPutK
 simp only [hm,keyD]
 rw [if_pos (by simp [encF]; omega),encF_put]
noncomputable abbrev fsO:SM:=(sFor (aSeq (eC (.tup (([(-1),(1)]:List Int).map .int))) itSeq) (.nm 5) (sSeq (sSet 6 (eOp oAdd (eVar 3) (eOp oMul (eVar 5) (eVar 1)))) (sSeq (sSet 7 (eOp oAdd (eVar 4) (eTup (aCons (eVar 5) aNil)))) (sPut fPutD (eB fMin3 (aCons (eVar 7) (aCons (eGet2 (eVar 2) (eVar 6) (eVar 7)) aNil))) (eVar 2) (eVar 6)))))
theorem fsI_loop {x w:Int} {p:List Int} (hp:p.length≤100) (r0:Option D) {m:Nat}:∀ (K:List Int) (S:Sto) (W L:TF) (r5 r6 r7:Option D),(∀ q ∈ K,-1≤q∧q≤1)→S[m]?=some (.dic (encF W))→FT W L→L.length + K.length≤1000→
  ∃ (W':TF) (r5' r6' r7':Option D),forL (.nm 5) fsI (K.map .int) [r0,some (.int x),some (.ref m),some (.int w),some (tupI p),r5,r6,r7] S=.ok (.nx [r0,some (.int x),some (.ref m),some (.int w),some (tupI p),r5',r6',r7']) (S.set m (.dic (encF W')))∧FT W' (L ++ K.map fun q=>(w + q * x,p ++ [q]))
 | [],S,W,L,r5,r6,r7,_,hm,h,_=>⟨W,r5,r6,r7,by
  have hml:m < S.length:=(List.getElem?_eq_some_iff.mp hm).1
  have:S.set m (.dic (encF W))=S:=by
   have e:=(List.getElem?_eq_some_iff.mp hm).2
   rw [← e]; exact List.set_getElem_self hml
  rw [this]; rfl,by simpa using h⟩
 | q :: K,S,W,L,r5,r6,r7,hK,hm,h,hz=>by
  rw [List.length_cons] at hz
  have hml:m < S.length:=(List.getElem?_eq_some_iff.mp hm).1
  have e1:=fsI_ok (S:=S) (x:=x) (w:=w) (p:=p) (hK q (.head _)) hp hm (by have:=h.len; omega) r0 r6 r7
  obtain ⟨W',a5,a6,a7,e2,h2⟩:=fsI_loop hp r0 K (S.set m (.dic (encF (pF W (w + q * x) (min2 (p ++ [q]) ((gF W (w + q * x)).getD (p ++ [q]))))))) (pF W (w + q * x) (min2 (p ++ [q]) ((gF W (w + q * x)).getD (p ++ [q])))) (L ++ [(w + q * x,p ++ [q])]) (some (.int q)) (some (.int (w + q * x))) (some (tupI (p ++ [q]))) (fun q hq=>hK q (.tail _ hq)) (List.getElem?_set_self hml) (h.put (w + q * x) (p ++ [q])) (by simp; omega)
  rw [List.set_set] at e2
  refine ⟨W',a5,a6,a7,(forL_cons (r1:=[r0,some (.int x),some (.ref m),some (.int w),some (tupI p),some (.int q),r6,r7]) rfl e1).trans e2,?_⟩
  rw [List.map_cons]
  simpa using h2
theorem fsO_loop {x:Int} (r0:Option D) {m:Nat}:∀ (T:TF) (S:Sto) (W L:TF) (r3 r4 r5 r6 r7:Option D),(∀ e ∈ T,e.2.length≤100)→S[m]?=some (.dic (encF W))→FT W L→L.length + T.length * 2≤1000→
  ∃ (W':TF) (r3' r4' r5' r6' r7':Option D),forL (.tp [.nm 3,.nm 4]) fsO ((encF T).map pairD) [r0,some (.int x),some (.ref m),r3,r4,r5,r6,r7] S=.ok (.nx [r0,some (.int x),some (.ref m),r3',r4',r5',r6',r7']) (S.set m (.dic (encF W')))∧FT W' (L ++ putsF x T)
 | [],S,W,L,r3,r4,r5,r6,r7,_,hm,h,_=>⟨W,r3,r4,r5,r6,r7,by
  have hml:m < S.length:=(List.getElem?_eq_some_iff.mp hm).1
  have:S.set m (.dic (encF W))=S:=by
   have e:=(List.getElem?_eq_some_iff.mp hm).2
   rw [← e]; exact List.set_getElem_self hml
  rw [this]; rfl,by simpa [putsF] using h⟩
 | e :: T,S,W,L,r3,r4,r5,r6,r7,hp,hm,h,hz=>by
  rw [List.length_cons] at hz
  have hml:m < S.length:=(List.getElem?_eq_some_iff.mp hm).1
  obtain ⟨W1,a5,a6,a7,e1,h1⟩:=fsI_loop (x:=x) (w:=e.1) (hp e (.head _)) r0 KS S W L r5 r6 r7 (by decide) hm h (by show L.length + 2≤1000; omega)
  obtain ⟨W2,b3,b4,b5,b6,b7,e2,h2⟩:=fsO_loop r0 T (S.set m (.dic (encF W1))) W1 (L ++ KS.map fun q=>(e.1 + q * x,e.2 ++ [q])) (some (.int e.1)) (some (tupI e.2)) a5 a6 a7 (fun d hd=>hp d (.tail _ hd)) (List.getElem?_set_self hml) h1 (by rw [List.length_append,List.length_map]; show L.length + 2 + T.length * 2≤1000; omega)
  rw [List.set_set] at e2
  refine ⟨W2,b3,b4,b5,b6,b7,?_,?_⟩
  ·show forL _ _ (pairD (.inl e.1,tupI e.2) :: (encF T).map pairD) _ _=_
   exact (forL_cons (r1:=[r0,some (.int x),some (.ref m),some (.int e.1),some (tupI e.2),r5,r6,r7]) rfl ((sFor_seq (d:=tupI KS) rfl rfl).trans e1)).trans e2
  ·have:putsF x (e :: T)=(KS.map fun q=>(e.1 + q * x,e.2 ++ [q])) ++ putsF x T:=by simp only [putsF,List.flatMap_cons]
   rw [this,← List.append_assoc]
   exact h2
structure Pre (S0 S:Sto):Prop where
 old:∀ i,i < S0.length→S[i]?=S0[i]?
 len:S0.length≤S.length
theorem Pre.refl (S:Sto):Pre S S:=⟨fun _ _=>rfl,Nat.le_refl _⟩
theorem Pre.trans {S0 S1 S2:Sto} (a:Pre S0 S1) (b:Pre S1 S2):Pre S0 S2:=⟨fun i h=>(b.old i (Nat.lt_of_lt_of_le h a.len)).trans (a.old i h),Nat.le_trans a.len b.len⟩
theorem Pre.app (S l:Sto):Pre S (S ++ l):=⟨fun i h=>List.getElem?_append_left h,by simp⟩
theorem Pre.set {S0 S:Sto} (p:Pre S0 S) {n:Nat} (h:S0.length≤n) (o:SO):Pre S0 (S.set n o):=⟨fun i hi=>by rw [List.getElem?_set_ne (by omega)]; exact p.old i hi,by rw [List.length_set]; exact p.len⟩
theorem dAt.set {S:Sto} {r n:Nat} {o:SO} {T:List (Int × Int)} (h:dAt S r T) (hn:n ≠ r):dAt (S.set n o) r T:=by
 unfold dAt
 rw [List.getElem?_set_ne hn]
 exact h
noncomputable def fold (K:List Int) (xs:List Int) (f:List Int):List Int:=xs.foldl (fun f x=>fS K x f) f
theorem fold_ws (K:List Int):∀ (xs pre:List Int),fold K xs (wsL K pre)=wsL K (pre ++ xs)
 | [],pre=>by simp [fold]
 | x :: xs,pre=>by
  have:=fold_ws K xs (pre ++ [x])
  rw [wsL_snoc,List.append_assoc] at this
  exact this
theorem bd_step {K:List Int} (hK:K.length≤3) {n r:Nat} (h:n * 3 ^ (r + 1)≤729):n * K.length≤1000∧n * K.length * 3 ^ r≤729:=by
 have h1:n * K.length≤n * 3:=Nat.mul_le_mul_left _ hK
 have h2:1≤3 ^ r:=Nat.one_le_pow _ _ (by decide)
 have h3:n * K.length * 3 ^ r≤n * 3 * 3 ^ r:=Nat.mul_le_mul_right _ h1
 have h4:n * 3 * 3 ^ r=n * 3 ^ (r + 1):=by rw [Nat.pow_succ,Nat.mul_assoc,Nat.mul_comm 3]
 have h5:n * 3 * 1≤n * 3 * 3 ^ r:=Nat.mul_le_mul_left _ h2
 omega
theorem tof_loop {K:List Int} (hK:K.length≤3) (hk:∀ q ∈ K,-1≤q∧q≤1) {S0:Sto} (r0:Option D):∀ (xs:List Int) (S:Sto) (n:Nat) (T:List (Int × Int)) (f:List Int) (r3:Option D),S[n]?=some (.dic (encT T))→Hist T f→f.length * 3 ^ xs.length≤729→S0.length≤n→Pre S0 S→
  ∃ (S':Sto) (n':Nat) (T':List (Int × Int)) (r3':Option D),forL (.nm 3) tofB (xs.map .int) [r0,some (tupI K),some (.ref n),r3] S=.ok (.nx [r0,some (tupI K),some (.ref n'),r3']) S'∧S'[n']?=some (.dic (encT T'))∧S0.length≤n'∧Hist T' (fold K xs f)∧Pre S0 S'
 | [],S,n,T,f,r3,hd,h,_,hn,p=>⟨S,n,T,r3,rfl,hd,hn,h,p⟩
 | x :: xs,S,n,T,f,r3,hd,h,hz,hn,p=>by
  rw [List.length_cons] at hz
  obtain ⟨z1,z2⟩:=bd_step hK hz
  obtain ⟨T1,e1,h1⟩:=stepped_ok (x:=x) hk (.inl hd) h (Nat.le_trans z1 (by decide))
  have p1:Pre S0 (S.set n (.fdic (encT T)) ++ [SO.dic (encT T1)]):=(p.set hn _).trans (Pre.app _ _)
  obtain ⟨S2,n2,T2,a3,e2,d2,dl2,h2,p2⟩:=tof_loop hK hk r0 xs (S.set n (.fdic (encT T)) ++ [SO.dic (encT T1)]) S.length T1 (fS K x f) (some (.int x)) (by simp) h1 (by rw [fS_len]; exact z2) p.len p1
  exact ⟨S2,n2,T2,a3,(forL_cons (r1:=[r0,some (tupI K),some (.ref n),some (.int x)]) rfl (sSet_go ((eCall_go (aCons_go (eVar_go rfl) (aCons_go (eVar_go rfl) (aCons_go (eVar_go rfl) rfl)))).trans e1))).trans e2,d2,dl2,h2,p2⟩
theorem dicN_go {ρ:Rho} {S:Sto}:eDicN [((eC (.int 0)),(eC (.int 1)))] ρ S=.ok (.ref S.length) (S ++ [.dic (encT [(0,1)])]):=rfl
theorem tableof_ok {K xs:List Int} (hK:K.length≤3) (hk:∀ q ∈ K,-1≤q∧q≤1) (h6:xs.length≤6) (S:Sto):∃ (S':Sto) (n:Nat) (T:List (Int × Int)),F_table_of [tupI xs,tupI K] S=.ok (.ref n) S'∧S'[n]?=some (.dic (encT T))∧S.length≤n∧Hist T (wsL K xs)∧Pre S S':=by
 obtain ⟨S',n,T,a3,e,hd,hdl,h,p⟩:=tof_loop hK hk (S0:=S) (some (tupI xs)) xs (S ++ [.dic (encT [(0,1)])]) S.length [(0,1)] [0] none (by simp) Hist.zero (by
  rw [List.length_singleton,Nat.one_mul]
  exact Nat.le_trans (Nat.pow_le_pow_right (by decide) h6) (by decide)) (Nat.le_refl _) (Pre.app _ _)
 have hf:=fold_ws K xs []
 rw [List.nil_append] at hf
 have h0:wsL K []=[0]:=rfl
 rw [h0] at hf
 rw [hf] at h
 exact ⟨S',n,T,fnM_rt (ρ:=[some (tupI xs),some (tupI K),none,none]) rfl ((sSeq_go (sSet_go dicN_go)).trans ((sSeq_go ((sFor_seq (eVar_go rfl) rfl).trans e)).trans (sRet_go (eVar_go rfl)))),hd,hdl,h,p⟩
theorem tof10_loop {S0:Sto} (r0:Option D):∀ (xs:List Int) (S:Sto) (n:Nat) (T:List (Int × Int)) (f:List Int) (r3:Option D),S[n]?=some (.dic (encT T))→Hist T f→f.length * 2 ^ xs.length≤1024→S0.length≤n→Pre S0 S→
  ∃ (S':Sto) (n':Nat) (T':List (Int × Int)) (r3':Option D),forL (.nm 3) tofB (xs.map .int) [r0,some (tupI [-1,1]),some (.ref n),r3] S=.ok (.nx [r0,some (tupI [-1,1]),some (.ref n'),r3']) S'∧S'[n']?=some (.dic (encT T'))∧S0.length≤n'∧Hist T' (fold [-1,1] xs f)∧Pre S0 S'
 | [],S,n,T,f,r3,hd,h,_,hn,p=>⟨S,n,T,r3,rfl,hd,hn,h,p⟩
 | x :: xs,S,n,T,f,r3,hd,h,hz,hn,p=>by
  rw [List.length_cons,Nat.pow_succ] at hz
  have h2:1≤2 ^ xs.length:=Nat.one_le_two_pow
  have z0:f.length * 2 * 2 ^ xs.length≤1024:=by rw [Nat.mul_assoc,Nat.mul_comm 2]; exact hz
  have z1:f.length * 2≤3000:=by
   have:f.length * 2 * 1≤f.length * 2 * 2 ^ xs.length:=Nat.mul_le_mul_left _ h2
   omega
  obtain ⟨T1,e1,h1⟩:=stepped_ok (K:=[-1,1]) (x:=x) (by decide) (.inl hd) h z1
  have p1:Pre S0 (S.set n (.fdic (encT T)) ++ [SO.dic (encT T1)]):=(p.set hn _).trans (Pre.app _ _)
  obtain ⟨S2,n2,T2,a3,e2,d2,dl2,h2,p2⟩:=tof10_loop r0 xs (S.set n (.fdic (encT T)) ++ [SO.dic (encT T1)]) S.length T1 (fS [-1,1] x f) (some (.int x)) (by simp) h1 (by rw [fS_len]; exact z0) p.len p1
  exact ⟨S2,n2,T2,a3,(forL_cons (r1:=[r0,some (tupI [-1,1]),some (.ref n),some (.int x)]) rfl (sSet_go ((eCall_go (aCons_go (eVar_go rfl) (aCons_go (eVar_go rfl) (aCons_go (eVar_go rfl) rfl)))).trans e1))).trans e2,d2,dl2,h2,p2⟩
theorem tableof10 {xs:List Int} (h10:xs.length≤10) (S:Sto):∃ (S':Sto) (n:Nat) (T:List (Int × Int)),F_table_of [tupI xs,tupI [-1,1]] S=.ok (.ref n) S'∧S'[n]?=some (.dic (encT T))∧S.length≤n∧Hist T (wsL [-1,1] xs)∧Pre S S':=by
 obtain ⟨S',n,T,a3,e,hd,hdl,h,p⟩:=tof10_loop (S0:=S) (some (tupI xs)) xs (S ++ [.dic (encT [(0,1)])]) S.length [(0,1)] [0] none (by simp) Hist.zero (by
  rw [List.length_singleton,Nat.one_mul]
  exact Nat.le_trans (Nat.pow_le_pow_right (by decide) h10) (by decide)) (Nat.le_refl _) (Pre.app _ _)
 have hf:=fold_ws [-1,1] xs []
 rw [List.nil_append] at hf
 have h0:wsL [-1,1] []=[0]:=rfl
 rw [h0] at hf
 rw [hf] at h
 exact ⟨S',n,T,fnM_rt (ρ:=[some (tupI xs),some (tupI [-1,1]),none,none]) rfl ((sSeq_go (sSet_go dicN_go)).trans ((sSeq_go ((sFor_seq (eVar_go rfl) rfl).trans e)).trans (sRet_go (eVar_go rfl)))),hd,hdl,h,p⟩
theorem need_row_ok {xs:List Int} (h:Row xs) (S:Sto):F_need_row_n [.tup (xs.map .int)] S=.ok .non S:=by
 have e:=isrow_eq (S:=S) h.okay
 rw [h.is] at e
 simp [F_need_row_n,fnM,m_need_row_n,sIf,sSkip,tNx,R.nx,PD.tNot,tV,eCall,eVar,aCons,aNil,R.bind,e]
noncomputable abbrev foB:SM:=(sSet 1 (eCall F_firsts_stepped (aCons (eVar 1) (aCons (eVar 2) aNil))))
theorem itemsF_go {S:Sto} {n:Nat} {T:TF} {ρ:Rho} {i:Nat} (hi:ρ[i]?=some (some (.ref n))) (h:S[n]?=some (.dic (encF T))):aItems (eVar i) ρ S=.ok ((encF T).map pairD) (S.set n (.fdic (encF T))):=by
 unfold aItems
 rw [eVar_go hi,R.bind_ok]
 simp only [h]
theorem fstepped_ok {x:Int} {xs:List Int} {S:Sto} {n:Nat} {T:TF} (hd:S[n]?=some (.dic (encF T))) (h:Firsts T xs) (hx:xs.length≤6):
  ∃ T':TF,F_firsts_stepped [.ref n,.int x] S=.ok (.ref S.length) (S.set n (.fdic (encF T)) ++ [.dic (encF T')])∧Firsts T' (xs ++ [x]):=by
 have hnl:n < S.length:=(List.getElem?_eq_some_iff.mp hd).1
 have hd':(S ++ [SO.dic []])[n]?=some (.dic (encF T)):=by
  rw [List.getElem?_append_left hnl]
  exact hd
 have hlen:T.length≤64:=Nat.le_trans h.len (Nat.le_trans (Nat.pow_le_pow_right (by decide) hx) (by decide))
 have e0:(S ++ [SO.dic []]).set n (.fdic (encF T))=S.set n (.fdic (encF T)) ++ [.dic []]:=List.set_append_left _ _ hnl
 obtain ⟨T',a3,a4,a5,a6,a7,e1,h1⟩:=fsO_loop (x:=x) (some (.ref n)) (m:=S.length) T (S.set n (.fdic (encF T)) ++ [.dic []]) [] [] none none none none none (fun e he=>by
  have:=((allL_mem _ _).mp (h.least e he).1.1).1
  omega) (by simp [encF]) FT.nil (by simp; omega)
 have e2:(S.set n (.fdic (encF T)) ++ [SO.dic []]).set S.length (.dic (encF T'))=S.set n (.fdic (encF T)) ++ [.dic (encF T')]:=by
  rw [List.set_append_right _ _ (by simp)]; simp
 rw [e2] at e1
 refine ⟨T',?_,h.step (by simpa using h1)⟩
 exact fnM_rt (ρ:=[some (.ref n),some (.int x),none,none,none,none,none,none]) rfl ((sSeq_go (S1:=S ++ [.dic []]) (sSet_go rfl)).trans ((sSeq_go (r1:=[some (.ref n),some (.int x),some (.ref S.length),a3,a4,a5,a6,a7]) ((sFor_go (itemsF_go rfl hd')).trans (by rw [e0]; exact e1))).trans (sRet_go (eVar_go rfl))))
theorem fo_loop {S0:Sto} (r0:Option D):∀ (xs ys:List Int) (S:Sto) (n:Nat) (T:TF) (r2:Option D),S[n]?=some (.dic (encF T))→Firsts T ys→ys.length + xs.length≤6→S0.length≤n→Pre S0 S→
  ∃ (S':Sto) (n':Nat) (T':TF) (r2':Option D),forL (.nm 2) foB (xs.map .int) [r0,some (.ref n),r2] S=.ok (.nx [r0,some (.ref n'),r2']) S'∧S'[n']?=some (.dic (encF T'))∧S0.length≤n'∧Firsts T' (ys ++ xs)∧Pre S0 S'
 | [],ys,S,n,T,r2,hd,h,_,hn,p=>⟨S,n,T,r2,rfl,hd,hn,by simpa using h,p⟩
 | x :: xs,ys,S,n,T,r2,hd,h,hz,hn,p=>by
  rw [List.length_cons] at hz
  obtain ⟨T1,e1,h1⟩:=fstepped_ok (x:=x) hd h (by omega)
  have p1:Pre S0 (S.set n (.fdic (encF T)) ++ [SO.dic (encF T1)]):=(p.set hn _).trans (Pre.app _ _)
  obtain ⟨S2,n2,T2,a2,e2,d2,dl2,h2,p2⟩:=fo_loop r0 xs (ys ++ [x]) (S.set n (.fdic (encF T)) ++ [SO.dic (encF T1)]) S.length T1 (some (.int x)) (by simp) h1 (by simp; omega) p.len p1
  refine ⟨S2,n2,T2,a2,(forL_cons (r1:=[r0,some (.ref n),some (.int x)]) rfl (sSet_go ((eCall_go (aCons_go (eVar_go rfl) (aCons_go (eVar_go rfl) rfl))).trans e1))).trans e2,d2,dl2,?_,p2⟩
  rw [List.append_assoc] at h2
  exact h2
theorem firstsof_ok {xs:List Int} (h6:xs.length≤6) (S:Sto):∃ (S':Sto) (n:Nat) (T:TF),F_firsts_of [tupI xs] S=.ok (.ref n) S'∧S'[n]?=some (.dic (encF T))∧S.length≤n∧Firsts T xs∧Pre S S':=by
 obtain ⟨S',n,T,a2,e,hd,hdl,h,p⟩:=fo_loop (S0:=S) (some (tupI xs)) xs [] (S ++ [.dic (encF [(0,[])])]) S.length [(0,[])] none (by simp) Firsts.zero (by simpa using h6) (Nat.le_refl _) (Pre.app _ _)
 have e0:eDicN [((eC (.int 0)),(eTup aNil))] [some (tupI xs),none,none] S=.ok (.ref S.length) (S ++ [.dic (encF [(0,[])])]):=rfl
 exact ⟨S',n,T,fnM_rt (ρ:=[some (tupI xs),none,none]) rfl ((sSeq_go (sSet_go e0)).trans ((sSeq_go ((sFor_seq (eVar_go rfl) rfl).trans e)).trans (sRet_go (eVar_go rfl)))),hd,hdl,h,p⟩
theorem wor_app:∀ (xs ys p q:List Int),p.length=xs.length→wor (xs ++ ys) (p ++ q)=wor xs p + wor ys q
 | [],ys,[],q,_=>by show wor ys q=0 + wor ys q; omega
 | x :: xs,ys,r :: p,q,h=>by
  show x * r + wor (xs ++ ys) (p ++ q)=x * r + wor xs p + wor ys q
  rw [wor_app xs ys p q (by simpa using h)]; omega
 | [],_,_ :: _,_,h=>by cases h
 | _ :: _,_,[],_,h=>by cases h
theorem all_split {K:List Int} {a b:Nat} {p:List Int}:p ∈ allL K (a + b)↔∃ q r,p=q ++ r∧q ∈ allL K a∧r ∈ allL K b:=by
 constructor
 ·intro h
  obtain ⟨h1,h2⟩:=(allL_mem _ p).mp h
  exact ⟨p.take a,p.drop a,(List.take_append_drop a p).symm,(allL_mem _ _).mpr ⟨by rw [List.length_take,h1]; omega,fun y hy=>h2 y (List.mem_of_mem_take hy)⟩,(allL_mem _ _).mpr ⟨by rw [List.length_drop,h1]; omega,fun y hy=>h2 y (List.mem_of_mem_drop hy)⟩⟩
 ·rintro ⟨q,r,rfl,hq,hr⟩
  obtain ⟨q1,q2⟩:=(allL_mem _ q).mp hq
  obtain ⟨r1,r2⟩:=(allL_mem _ r).mp hr
  refine (allL_mem _ _).mpr ⟨by rw [List.length_append,q1,r1],fun y hy=>?_⟩
  rcases List.mem_append.mp hy with hy | hy
  ·exact q2 y hy
  ·exact r2 y hy
structure Lst (xs:List Int) (v:Int) (p:List Int):Prop where
 all:p ∈ allL KS xs.length
 wo:wor xs p=v
 le:∀ q ∈ allL KS xs.length,wor xs q=v→leZ p q
theorem Lst.uniq {xs:List Int} {v:Int} {p q:List Int} (a:Lst xs v p) (b:Lst xs v q):p=q:=leZ_anti (a.le q b.all b.wo) (b.le p a.all a.wo)
theorem ks_cases {k:Int} (h:k ∈ KS):k = -1 ∨ k=1:=by
 simp only [KS,List.mem_cons,List.not_mem_nil,or_false] at h
 exact h
noncomputable def metL (A B:TF) (v:Int):List (List Int):=(A.filter fun e=>(gF B (v - e.1)).isSome).map fun e=>e.2 ++ (gF B (v - e.1)).getD []
theorem gF_mem {T:TF} {k:Int} (h:∃ e ∈ T,e.1=k):∃ u,gF T k=some u:=by
 cases hg:gF T k with
 | some u=>exact ⟨u,rfl⟩
 | none=>
  obtain ⟨e,he,z⟩:=h
  exact absurd z (gF_none hg e he)
theorem met_in {A B:TF} {xs ys:List Int} (hA:Firsts A xs) (hB:Firsts B ys) {v:Int} {m:List Int} (h:m ∈ metL A B v):m ∈ allL KS (xs ++ ys).length∧wor (xs ++ ys) m=v:=by
 obtain ⟨e,he,rfl⟩:=List.mem_map.mp h
 obtain ⟨he,hs⟩:=List.mem_filter.mp he
 cases hg:gF B (v - e.1) with
 | none=>rw [hg] at hs; cases hs
 | some u=>
  obtain ⟨⟨a1,a2⟩,_⟩:=hA.least e he
  obtain ⟨⟨b1,b2⟩,_⟩:=hB.least _ (gF_some hg)
  show e.2 ++ u ∈ _∧wor _ (e.2 ++ u)=v
  have b2:wor ys u=v - e.1:=b2
  refine ⟨by rw [List.length_append]; exact all_split.mpr ⟨_,_,rfl,a1,b1⟩,?_⟩
  rw [wor_app _ _ _ _ ((allL_mem _ _).mp a1).1,a2,b2]; omega
theorem met_le {A B:TF} {xs ys:List Int} (hA:Firsts A xs) (hB:Firsts B ys) {v:Int} {p:List Int} (hp:p ∈ allL KS (xs ++ ys).length) (hw:wor (xs ++ ys) p=v):∃ m ∈ metL A B v,leZ m p:=by
 rw [List.length_append] at hp
 obtain ⟨q,r,rfl,hq,hr⟩:=all_split.mp hp
 have hql:=((allL_mem _ _).mp hq).1
 rw [wor_app _ _ _ _ hql] at hw
 obtain ⟨e,he,z⟩:=(hA.mem _).mpr ⟨q,hq,rfl⟩
 have hv:wor ys r=v - e.1:=by omega
 obtain ⟨u,hu⟩:=gF_mem ((hB.mem (v - e.1)).mpr ⟨r,hr,hv⟩)
 obtain ⟨⟨a1,a2⟩,a3⟩:=hA.least e he
 obtain ⟨_,b3⟩:=hB.least _ (gF_some hu)
 refine ⟨e.2 ++ u,List.mem_map.mpr ⟨e,List.mem_filter.mpr ⟨he,by rw [hu]; rfl⟩,by rw [hu]; rfl⟩,?_⟩
 exact leZ_app (((allL_mem _ _).mp a1).1.trans hql.symm) (a3 q hq z.symm) (b3 r hr hv)
theorem met_nil {A B:TF} {xs ys:List Int} (hA:Firsts A xs) (hB:Firsts B ys) {v:Int} (h:metL A B v=[]):¬ Wo KS (xs ++ ys) v:=fun hw=>by
 obtain ⟨p,hp,e⟩:=Wo_all.mp hw
 obtain ⟨m,hm,_⟩:=met_le hA hB hp e
 rw [h] at hm
 cases hm
theorem met_min {A B:TF} {xs ys:List Int} (hA:Firsts A xs) (hB:Firsts B ys) {v:Int} {m:List Int} {l:List (List Int)} (h:metL A B v=m :: l):Lst (xs ++ ys) v (minT m l):=by
 obtain ⟨h1,h2,h3⟩:=minT_ok l m
 have hin:minT m l ∈ metL A B v:=by
  rw [h]
  rcases h1 with e | e
  ·rw [e]; exact .head _
  ·exact .tail _ e
 obtain ⟨a1,a2⟩:=met_in hA hB hin
 refine ⟨a1,a2,fun q hq hw=>?_⟩
 obtain ⟨n,hn,hl⟩:=met_le hA hB hq hw
 rw [h] at hn
 rcases List.mem_cons.mp hn with rfl | hn
 ·exact leZ_trans h2 hl
 ·exact leZ_trans (h3 n hn) hl
theorem eSl_go {f:Sto→D→Option Int→Option Int→Option D} {a:EM} {lo hi:OM} {r:Rho} {S S1 S2 S3:Sto} {x z:D} {l u:Option Int} (h1:a r S=.ok x S1) (h2:lo r S1=.ok l S2) (h3:hi r S2=.ok u S3) (h4:f S3 x l u=some z):eSl f a lo hi r S=.ok z S3:=by unfold eSl; rw [h1,R.bind_ok,h2,R.bind_ok,h3,R.bind_ok,h4]; rfl
theorem oPart_go {a:EM} {r:Rho} {S S1:Sto} {i:Int} (h:a r S=.ok (.int i) S1):oPart a r S=.ok (some i) S1:=by unfold oPart; rw [h,R.bind_ok]
theorem cut_take (xs:List D) (m:Nat) (h:m≤xs.length):PD.cutD xs none (some (m:Int))=xs.take m:=by
 unfold PD.cutD
 have e1:HT.sIx xs.length 0 none=0:=rfl
 have e2:HT.sIx xs.length xs.length (some (m:Int))=m:=by
  rw [HT.sIx_nat]; exact Nat.min_eq_left h
 rw [e1,e2]; simp
theorem cut_drop (xs:List D) (m:Nat) (h:m≤xs.length):PD.cutD xs (some (m:Int)) none=xs.drop m:=by
 unfold PD.cutD
 have e1:HT.sIx xs.length xs.length none=xs.length:=rfl
 have e2:HT.sIx xs.length 0 (some (m:Int))=m:=by
  rw [HT.sIx_nat]; exact Nat.min_eq_left h
 rw [e1,e2,List.take_of_length_le (by rw [List.length_drop]; omega)]
noncomputable abbrev halvesM:FM:=fnM 2 (sSeq (sSet 1 (eOp oFdiv (eB fLen (aCons (eVar 0) aNil)) (eC (.int 2)))) (sRet (eTup (aCons (eSl fSlT (eVar 0) oNo (oPart (eVar 1))) (aCons (eSl fSlT (eVar 0) (oPart (eVar 1)) oNo) aNil)))))
theorem halves_ok (xs:List Int) (S:Sto):halvesM [tupI xs] S=.ok (.tup [tupI (xs.take (xs.length / 2)),tupI (xs.drop (xs.length / 2))]) S:=by
 have z2:(2:Nat)≤sizeLine:=by decide
 have hm:xs.length / 2≤(xs.map D.int).length:=by rw [List.length_map]; omega
 have hl:fLen S [tupI xs]=some (.int xs.length):=by
  show some (D.int ((xs.map D.int).length:Int))=_
  rw [List.length_map]
 have hd:oFdiv S (.int xs.length) (.int 2)=some (.int ((xs.length / 2:Nat):Int)):=by
  show (if (0:Int) < 2∧(2:Int) < 1073741824 then some (D.int ((xs.length:Int) / 2)) else none)=_
  rw [if_pos (by decide)]
  rfl
 have h1:fSlT S (tupI xs) none (some ((xs.length / 2:Nat):Int))=some (tupI (xs.take (xs.length / 2))):=by
  show some (D.tup (PD.cutD (xs.map .int) _ _))=_
  rw [cut_take _ _ hm,← List.map_take]
 have h2:fSlT S (tupI xs) (some ((xs.length / 2:Nat):Int)) none=some (tupI (xs.drop (xs.length / 2))):=by
  show some (D.tup (PD.cutD (xs.map .int) _ _))=_
  rw [cut_drop _ _ hm,← List.map_drop]
 exact fnM_rt (ρ:=[some (tupI xs),none]) rfl ((sSeq_go (sSet_go (eOp_go (eB_go (aCons_go (eVar_go rfl) rfl) hl) rfl hd))).trans (sRet_go (eTup_go (aCons_go (eSl_go (eVar_go rfl) rfl (oPart_go (eVar_go rfl)) h1) (aCons_go (eSl_go (eVar_go rfl) (oPart_go (eVar_go rfl)) rfl h2) rfl)) z2)))
theorem gT_mem {T:List (Int × Int)} (h:Keys T) {e:Int × Int} (he:e ∈ T):gT T e.1=e.2:=by
 induction T with
 | nil=>cases he
 | cons d T ih=>
  obtain ⟨h1,h2⟩:=List.pairwise_cons.mp h
  rw [gT_cons]
  rcases List.mem_cons.mp he with rfl | he
  ·rw [if_pos rfl]
  ·rw [if_neg (h1 e he)]
   exact ih h2 he
theorem ws_len (K xs:List Int):(wsL K xs).length=K.length ^ xs.length:=by
 unfold wsL
 rw [List.length_map,allL_len]
theorem small_hist {T:List (Int × Int)} {f:List Int} (h:Hist T f) (hf:f.length≤1000):∀ e ∈ T,smallI e.2:=fun e he=>by
 have e1:=gT_mem h.keys he
 rw [h.get] at e1
 have:=List.length_filter_le (fun y=>decide (y=e.1)) f
 rw [← e1]
 exact ⟨by omega,by omega⟩
theorem sNx_ok' {a:SM} {r:Rho} {S S1:Sto} {f:F} (h:a r S=.ok f S1):a r S=.ok f S1:=h
theorem comp2 {e:EM} {it:AM} {ρ:Rho} {S S1 S2 S3:Sto} {x y u v:D} (hi:it ρ S=.ok [x,y] S1) (h1:e [some x] S1=.ok u S2) (h2:e [some y] S2=.ok v S3):eComp it 1 [] (.nm 0) tTrue e ρ S=.ok (.lst [u,v]) S3:=by
 have z2:(2:Nat)≤sizeLine:=by decide
 unfold eComp
 rw [hi,R.bind_ok,if_pos (show [x,y].length≤sizeLine from z2)]
 have:capOf 1 [] ρ = [none]:=rfl
 rw [this]
 simp only [compL,G.put,List.set_cons_zero,tTrue,R.bind_ok,if_true,h1,h2]
theorem eComp_twoS {A:Type} {x1 x2:A→D} {out:A→D} {e:EM} {it:AM} {caps:List Nat} {tl r:Rho} {S S1:Sto} (xs:List A) (hi:it r S=.ok (xs.map fun x=>.tup [x1 x,x2 x]) S1) (hl:xs.length≤sizeLine) (hc:caps.map (fun i=>(r[i]?).join)=tl) (h:∀ x ∈ xs,e (some (x1 x) :: some (x2 x) :: tl) S1=.ok (out x) S1):eComp it 2 caps (.tp [.nm 0,.nm 1]) tTrue e r S=.ok (.lst (xs.map out)) S1:=by
 unfold eComp
 rw [hi,R.bind_ok,if_pos (by rw [List.length_map]; exact hl)]
 have:capOf 2 caps r=none :: none :: tl:=by unfold capOf; rw [hc]; rfl
 rw [this,comp_two (out:=out) xs none none h,R.bind_ok]
theorem comp_twoF {A:Type} {x1 x2:A→D} {out:A→D} {p:A→Bool} {t:TM} {e:EM} {tl:Rho} {S:Sto}:∀ (xs:List A) (r0 r1:Option D),(∀ x ∈ xs,t (some (x1 x) :: some (x2 x) :: tl) S=.ok (p x) S)→(∀ x ∈ xs,p x=true→e (some (x1 x) :: some (x2 x) :: tl) S=.ok (out x) S)→compL (.tp [.nm 0,.nm 1]) t e (xs.map fun x=>.tup [x1 x,x2 x]) (r0 :: r1 :: tl) S=.ok ((xs.filter p).map out) S
 | [],_,_,_,_=>rfl
 | x :: xs,r0,r1,ht,h=>by
  have h0:=ht x List.mem_cons_self
  have h2:=comp_twoF (out:=out) xs (some (x1 x)) (some (x2 x)) (fun y hy=>ht y (List.mem_cons_of_mem _ hy)) fun y hy=>h y (List.mem_cons_of_mem _ hy)
  rw [List.map_cons,compL]
  cases hp:p x with
  | true=>
   have h1:=h x List.mem_cons_self hp
   rw [hp] at h0
   simp only [G.put,G.puts,List.set_cons_zero,List.set_cons_succ,R.bind_ok,if_true,h0,h1,h2,List.map_cons,List.filter_cons,hp]
  | false=>
   rw [hp] at h0
   simp only [G.put,G.puts,List.set_cons_zero,List.set_cons_succ,R.bind_ok,h0,h2,List.filter_cons,hp,Bool.false_eq_true,if_false]
theorem eComp_twoF {A:Type} {x1 x2:A→D} {out:A→D} {p:A→Bool} {t:TM} {e:EM} {it:AM} {caps:List Nat} {tl r:Rho} {S S1:Sto} (xs:List A) (hi:it r S=.ok (xs.map fun x=>.tup [x1 x,x2 x]) S1) (hl:xs.length≤sizeLine) (hc:caps.map (fun i=>(r[i]?).join)=tl) (ht:∀ x ∈ xs,t (some (x1 x) :: some (x2 x) :: tl) S1=.ok (p x) S1) (h:∀ x ∈ xs,p x=true→e (some (x1 x) :: some (x2 x) :: tl) S1=.ok (out x) S1):eComp it 2 caps (.tp [.nm 0,.nm 1]) t e r S=.ok (.lst ((xs.filter p).map out)) S1:=by
 unfold eComp
 rw [hi,R.bind_ok,if_pos (by rw [List.length_map]; exact hl)]
 have:capOf 2 caps r=none :: none :: tl:=by unfold capOf; rw [hc]; rfl
 rw [this,comp_twoF (out:=out) xs none none ht h,R.bind_ok]
theorem itemsM_go {m:EM} {S:Sto} {n:Nat} {kvs:List (KD × D)} {ρ:Rho} (hm:m ρ S=.ok (.ref n) S) (h:S[n]?=some (.dic kvs)):aItems m ρ S=.ok (kvs.map pairD) (S.set n (.fdic kvs)):=by
 unfold aItems
 rw [hm,R.bind_ok]
 simp only [h]
noncomputable def firstD:Option (List Int)→D
 | none=>.non
 | some p=>tupI p
noncomputable def IsF (xs:List Int) (v:Int):Option (List Int)→Prop
 | none=>¬ Wo KS xs v
 | some p=>Lst xs v p
theorem IsF.uniq {xs:List Int} {v:Int}:∀ {a b:Option (List Int)},IsF xs v a→IsF xs v b→a=b
 | none,none,_,_=>rfl
 | some p,some q,ha,hb=>by rw [Lst.uniq ha hb]
 | none,some q,ha,hb=>absurd (Wo_all.mpr ⟨q,Lst.all hb,Lst.wo hb⟩) ha
 | some p,none,ha,hb=>absurd (Wo_all.mpr ⟨p,Lst.all ha,Lst.wo ha⟩) hb
theorem need_rn_ok {xs:List Int} (h:Row xs) (v:Int) (S:Sto):F_need_row_and_number_n [tupI xs,.int v] S=.ok .non S:=by
 have e2:F_need_number_n [.int v] S=.ok .non S:=by
  have e:=whole_eq (d:=.int v) (S:=S) rfl
  have e':isI (.int v)=true:=rfl
  rw [e'] at e
  simp [F_need_number_n,fnM,m_need_number_n,sIf,sSkip,tNx,R.nx,PD.tNot,tV,eCall,eVar,aCons,aNil,R.bind,e]
 refine fnM_nx (ρ:=[some (tupI xs),some (.int v)]) rfl ((sSeq_go (sDrop_go ((eCall_go (aCons_go (eVar_go rfl) rfl)).trans (need_row_ok h S)))).trans (sDrop_go ((eCall_go (aCons_go (eVar_go rfl) rfl)).trans e2)))
theorem lst_ix {S:Sto} {x y:D}:oIxD S (.lst [x,y]) (.int 0)=some x∧oIxD S (.lst [x,y]) (.int 1)=some y:=⟨rfl,rfl⟩
theorem getD2 {S:Sto} {n:Nat} {T:List (Int × Int)} {m k:EM} {ρ:Rho} {v:Int} (hd:dAt S n T) (hm:m ρ S=.ok (.ref n) S) (hk:k ρ S=.ok (.int v) S):eGet2 m k (eC (.int 0)) ρ S=.ok (.int (gT T v)) S:=by
 rw [← encT_get]
 exact eGet2_go hm hd.dic hk rfl hd.dic rfl
theorem many_ok {xs:List Int} (h10:xs.length≤10) (hr:Row xs) (v:Int) (S:Sto):∃ (S':Sto) (A B:List (Int × Int)),F_many_met_n [tupI xs,.int v] S=.ok (.int (sumH (fun x=>gT B (v - x)) A)) S'∧Pre S S'∧Hist A (wsL KS (xs.take (xs.length / 2)))∧Hist B (wsL KS (xs.drop (xs.length / 2))):=by
 have hk:∀ q ∈ KS,-1≤q∧q≤1:=by decide
 have z:(1000:Nat)≤sizeLine:=by decide
 have hl1:(xs.take (xs.length / 2)).length≤5:=by rw [List.length_take]; omega
 have hl2:(xs.drop (xs.length / 2)).length≤5:=by rw [List.length_drop]; omega
 have bnd:∀ ys:List Int,ys.length≤5→(wsL KS ys).length≤32:=fun ys h=>by
  rw [ws_len]
  exact Nat.le_trans (Nat.pow_le_pow_right (by decide) h) (by decide)
 obtain ⟨S1,a,A,eA,dA,la,hA,pA⟩:=tableof_ok (K:=KS) (xs:=xs.take (xs.length / 2)) (by decide) hk (by omega) S
 obtain ⟨S2,b,B,eB,dB,lb,hB,pB⟩:=tableof_ok (K:=KS) (xs:=xs.drop (xs.length / 2)) (by decide) hk (by omega) S1
 have hal:a < S1.length:=(List.getElem?_eq_some_iff.mp dA).1
 have dA2:S2[a]?=some (.dic (encT A)):=by rw [pB.old a hal]; exact dA
 have hab:a ≠ b:=by omega
 have lA:A.length≤32:=Nat.le_trans hA.len (bnd _ hl1)
 refine ⟨S2.set a (.fdic (encT A)),A,B,?_,(pA.trans pB).set la _,hA,hB⟩
 have hc:eComp (aSeq (eCall F_halves_of (aCons (eVar 0) aNil)) itSeq) 1 [] (.nm 0) tTrue (eCall F_table_of (aCons (eVar 0) (aCons (eC (.tup (([(-1),(1)]:List Int).map .int))) aNil))) [some (tupI xs),some (.int v),none] S=.ok (.lst [.ref a,.ref b]) S2:=
  comp2 (S1:=S) (by unfold aSeq; rw [(eCall_go (aCons_go (eVar_go rfl) rfl)).trans (show F_halves_of [tupI xs] S=_ from halves_ok xs S),R.bind_ok]; rfl) ((eCall_go (aCons_go (eVar_go rfl) (aCons_go rfl rfl))).trans eA) ((eCall_go (aCons_go (eVar_go rfl) (aCons_go rfl rfl))).trans eB)
 have hdB:dAt (S2.set a (.fdic (encT A))) b B:=dAt.set (.inl dB) hab
 have hsm:=small_hist hA (by have:=bnd _ hl1; omega)
 have hs:eComp (aItems (eOp oIxD (eVar 2) (eC (.int 0)))) 2 [2,1] (.tp [(.nm 0),(.nm 1)]) tTrue (eOp oMul (eVar 1) (eGet2 (eOp oIxD (eVar 2) (eC (.int 1))) (eOp oSub (eVar 3) (eVar 0)) (eC (.int 0)))) [some (tupI xs),some (.int v),some (.lst [.ref a,.ref b])] S2=.ok (.lst (A.map fun e=>D.int (e.2 * gT B (v - e.1)))) (S2.set a (.fdic (encT A))):=
  eComp_twoS (x1:=fun e:Int × Int=>.int e.1) (x2:=fun e=>.int e.2) (tl:=[some (.lst [.ref a,.ref b]),some (.int v)]) A ((itemsM_go (eOp_go (eVar_go rfl) rfl lst_ix.1) dA2).trans (by unfold encT; rw [List.map_map]; rfl)) (by omega) rfl fun e he=>
   eOp_go (eVar_go rfl) (getD2 hdB (eOp_go (eVar_go rfl) rfl lst_ix.2) (eOp_go (eVar_go rfl) (eVar_go rfl) rfl)) (oMul_i (.inl (hsm e he)))
 have hsum:(A.map fun e=>e.2 * gT B (v - e.1)).sum=sumH (fun x=>gT B (v - x)) A:=by
  unfold sumH
  congr 1
  exact List.map_congr_left fun e _=>Int.mul_comm _ _
 rw [← hsum]
 exact fnM_rt (ρ:=[some (tupI xs),some (.int v),none]) rfl ((sSeq_go (sDrop_go ((eCall_go (aCons_go (eVar_go rfl) (aCons_go (eVar_go rfl) rfl))).trans (need_rn_ok hr v S)))).trans ((sSeq_go (sNx_ok' (sSet_go hc))).trans (sNx_ok' (sRet_go (eB_go (aCons_go hs rfl) fSum_f)))))
theorem inF {S:Sto} {n:Nat} {T:TF} (h:S[n]?=some (.dic (encF T))) (k:Int):oInD false S (.int k) (.ref n)=some (.bl (gF T k).isSome):=by
 have hd:dicOf S (.ref n)=some (encF T):=by simp [dicOf,h]
 have hs:seqOf S (.ref n)=none:=by simp [seqOf,h]
 unfold oInD
 rw [hs]
 simp only [Option.isSome_none,Bool.false_eq_true,if_false]
 unfold oInK
 simp [hd,keyD,encF_get]
theorem ixF {S:Sto} {n:Nat} {T:TF} (h:S[n]?=some (.dic (encF T))) {k:Int} {u:List Int} (hu:gF T k=some u):oIxD S (.ref n) (.int k)=some (tupI u):=by
 have hd:dicOf S (.ref n)=some (encF T):=by simp [dicOf,h]
 have hs:seqOf S (.ref n)=none:=by simp [seqOf,h]
 unfold oIxD
 rw [hs]
 simp only [Option.isSome_none,Bool.false_eq_true,if_false]
 unfold oGet
 simp only [hd,keyD]
 rw [encF_get,hu]; rfl
theorem tupsOf_map:∀ ms:List (List Int),tupsOf (ms.map tupI)=some ms
 | []=>rfl
 | m :: ms=>by
  have ih:=tupsOf_map ms
  show (match intsOf (m.map .int),tupsOf (ms.map tupI) with
   | some n,some ns=>some (n :: ns)
   | _,_=>none)=_
  rw [ih,intsOf_map']
theorem minD_ok (S:Sto):∀ ms:List (List Int),fMinD S [.lst (ms.map tupI)]=some (firstD (match ms with | []=>none | m :: l=>some (minT m l)))
 | []=>rfl
 | m :: l=>by
  have e:=tupsOf_map (m :: l)
  rw [List.map_cons] at e ⊢
  unfold fMinD
  simp only [isLst,e]
  rfl
theorem first_ok {xs:List Int} (h10:xs.length≤10) (hr:Row xs) (v:Int) (S:Sto):∃ (S':Sto) (o:Option (List Int)),F_first_met_n [tupI xs,.int v] S=.ok (firstD o) S'∧Pre S S'∧IsF xs v o:=by
 have z:(1000:Nat)≤sizeLine:=by decide
 have hl1:(xs.take (xs.length / 2)).length≤5:=by rw [List.length_take]; omega
 have hl2:(xs.drop (xs.length / 2)).length≤5:=by rw [List.length_drop]; omega
 obtain ⟨S1,a,A,eA,dA,la,hA,pA⟩:=firstsof_ok (xs:=xs.take (xs.length / 2)) (by omega) S
 obtain ⟨S2,b,B,eB,dB,lb,hB,pB⟩:=firstsof_ok (xs:=xs.drop (xs.length / 2)) (by omega) S1
 have hal:a < S1.length:=(List.getElem?_eq_some_iff.mp dA).1
 have dA2:S2[a]?=some (.dic (encF A)):=by rw [pB.old a hal]; exact dA
 have hab:a ≠ b:=by omega
 have lA:A.length≤32:=Nat.le_trans hA.len (Nat.le_trans (Nat.pow_le_pow_right (by decide) hl1) (by decide))
 have dB2:(S2.set a (.fdic (encF A)))[b]?=some (.dic (encF B)):=by rw [List.getElem?_set_ne hab]; exact dB
 have hc:eComp (aSeq (eCall F_halves_of (aCons (eVar 0) aNil)) itSeq) 1 [] (.nm 0) tTrue (eCall F_firsts_of (aCons (eVar 0) aNil)) [some (tupI xs),some (.int v),none,none] S=.ok (.lst [.ref a,.ref b]) S2:=
  comp2 (S1:=S) (by unfold aSeq; rw [(eCall_go (aCons_go (eVar_go rfl) rfl)).trans (show F_halves_of [tupI xs] S=_ from halves_ok xs S),R.bind_ok]; rfl) ((eCall_go (aCons_go (eVar_go rfl) rfl)).trans eA) ((eCall_go (aCons_go (eVar_go rfl) rfl)).trans eB)
 have hs:eComp (aItems (eOp oIxD (eVar 2) (eC (.int 0)))) 2 [2,1] (.tp [(.nm 0),(.nm 1)]) (tV (eOp (oInD false) (eOp oSub (eVar 3) (eVar 0)) (eOp oIxD (eVar 2) (eC (.int 1))))) (eOp oAdd (eVar 1) (eOp oIxD (eOp oIxD (eVar 2) (eC (.int 1))) (eOp oSub (eVar 3) (eVar 0)))) [some (tupI xs),some (.int v),some (.lst [.ref a,.ref b]),none] S2=.ok (.lst ((metL A B v).map tupI)) (S2.set a (.fdic (encF A))):=by
  have:=eComp_twoF (x1:=fun e:Int × List Int=>.int e.1) (x2:=fun e=>tupI e.2) (out:=fun e=>tupI (e.2 ++ (gF B (v - e.1)).getD [])) (p:=fun e=>(gF B (v - e.1)).isSome) (t:=tV (eOp (oInD false) (eOp oSub (eVar 3) (eVar 0)) (eOp oIxD (eVar 2) (eC (.int 1))))) (e:=eOp oAdd (eVar 1) (eOp oIxD (eOp oIxD (eVar 2) (eC (.int 1))) (eOp oSub (eVar 3) (eVar 0)))) (it:=aItems (eOp oIxD (eVar 2) (eC (.int 0)))) (caps:=[2,1]) (tl:=[some (.lst [.ref a,.ref b]),some (.int v)]) (r:=[some (tupI xs),some (.int v),some (.lst [.ref a,.ref b]),none]) (S:=S2) (S1:=S2.set a (.fdic (encF A))) A ((itemsM_go (eOp_go (eVar_go rfl) rfl lst_ix.1) dA2).trans (by unfold encF; rw [List.map_map]; rfl)) (by omega) rfl
   (fun e he=>tV_go (eOp_go (eOp_go (eVar_go rfl) (eVar_go rfl) rfl) (eOp_go (eVar_go rfl) rfl lst_ix.2) (inF dB2 _)))
   (fun e he hp=>by
    cases hg:gF B (v - e.1) with
    | none=>rw [hg] at hp; cases hp
    | some u=>
     have l1:=((allL_mem _ _).mp (hA.least e he).1.1).1
     have l2:=((allL_mem _ _).mp (hB.least _ (gF_some hg)).1.1).1
     refine eOp_go (eVar_go rfl) (eOp_go (eOp_go (eVar_go rfl) rfl lst_ix.2) (eOp_go (eVar_go rfl) (eVar_go rfl) rfl) (ixF dB2 hg)) ?_
     have l2:u.length=(xs.drop (xs.length / 2)).length:=l2
     refine (oAdd_t (by rw [List.length_map,List.length_map]; omega)).trans ?_
     simp [tupI])
  unfold metL
  rw [List.map_map]
  exact this
 refine ⟨S2.set a (.fdic (encF A)),(match metL A B v with | []=>none | m :: l=>some (minT m l)),?_,(pA.trans pB).set la _,?_⟩
 ·exact fnM_rt (ρ:=[some (tupI xs),some (.int v),none,none]) rfl ((sSeq_go (sDrop_go ((eCall_go (aCons_go (eVar_go rfl) (aCons_go (eVar_go rfl) rfl))).trans (need_rn_ok hr v S)))).trans ((sSeq_go (sNx_ok' (sSet_go hc))).trans ((sSeq_go (sNx_ok' (sSet_go hs))).trans (sNx_ok' (sRet_go (eB_go (aCons_go (eVar_go rfl) rfl) (minD_ok _ _)))))))
 ·have hx:xs.take (xs.length / 2) ++ xs.drop (xs.length / 2)=xs:=List.take_append_drop _ _
  cases hm:metL A B v with
  | nil=>
   have:=met_nil hA hB hm
   rw [hx] at this
   exact this
  | cons m l=>
   have:=met_min hA hB hm
   rw [hx] at this
   exact this
structure Sim (d:D) (p:PyData):Prop where
 py:toPy d=some p
 lay:p.canLay0=true
 dep:p.depth≤3
theorem sims:∀ {ds:List D} {f:D→PyData},(∀ d ∈ ds,Sim d (f d))→toPys ds=some (ds.map f)∧PyData.canLayAll0 (ds.map f)=true∧PyData.depthAll (ds.map f)≤3
 | [],f,_=>⟨rfl,rfl,by show 0≤3; omega⟩
 | d :: ds,f,h=>by
  have h1:=h d List.mem_cons_self
  obtain ⟨a,b,c⟩:=sims (ds:=ds) (f:=f) fun x hx=>h x (List.mem_cons_of_mem _ hx)
  refine ⟨by unfold toPys; rw [h1.py,a]; rfl,by unfold List.map PyData.canLayAll0; rw [h1.lay,b]; rfl,?_⟩
  have:=h1.dep
  unfold List.map PyData.depthAll
  omega
theorem shaped_of {p:PyData} (h:p.canLay0=true) (hd:p.depth≤64):SeqAt.shaped p=true:=by
 unfold SeqAt.shaped; rw [h,decide_eq_true hd]; rfl
theorem eqP_tup {xs ys:List D} {f:D→PyData} (hx:∀ d ∈ xs,Sim d (f d)) (hy:∀ d ∈ ys,Sim d (f d)):eqP (.tup xs) (.tup ys)=some (PyData.eqvAll (xs.map f) (ys.map f)):=by
 obtain ⟨a,b,c⟩:=sims hx
 obtain ⟨a',b',c'⟩:=sims hy
 have e1:toPy (.tup xs)=some (.tuple (xs.map f)):=by unfold toPy; rw [a]; rfl
 have e2:toPy (.tup ys)=some (.tuple (ys.map f)):=by unfold toPy; rw [a']; rfl
 have s1:SeqAt.shaped (.tuple (xs.map f))=true:=shaped_of (by unfold PyData.canLay0; exact b) (by unfold PyData.depth; omega)
 have s2:SeqAt.shaped (.tuple (ys.map f))=true:=shaped_of (by unfold PyData.canLay0; exact b') (by unfold PyData.depth; omega)
 unfold eqP
 have e0:eqS (.tup xs) (.tup ys)=none:=rfl
 rw [e0,e1,e2]
 simp only [s1,s2,and_self,if_true]
 rw [PyData.eqv]
noncomputable def pyI:D→PyData
 | .int i=>.int i
 | .tup [.int i,.int j]=>.tuple [.int i,.int j]
 | _=>.none
theorem pyI_i (i:Int):pyI (.int i)=PyData.int i:=rfl
theorem sim_int (i:Int):Sim (.int i) (pyI (.int i)):=⟨rfl,rfl,by show 0≤3; omega⟩
theorem sim_ints {is:List Int}:∀ d ∈ is.map D.int,Sim d (pyI d):=fun d hd=>by
 obtain ⟨i,_,rfl⟩:=List.mem_map.mp hd
 exact sim_int i
theorem eqv_ints:∀ (xs ys:List Int),PyData.eqvAll ((xs.map D.int).map pyI) ((ys.map D.int).map pyI)=decide (xs=ys)
 | [],[]=>by simp [PyData.eqvAll]
 | [],y :: ys=>by simp [PyData.eqvAll]
 | x :: xs,[]=>by simp [PyData.eqvAll]
 | x :: xs,y :: ys=>by
  simp only [List.map_cons,PyData.eqvAll,eqv_ints xs ys,pyI_i,PyData.eqv]
  rw [Bool.eq_iff_iff]
  simp
theorem eqP_tints (xs ys:List Int):eqP (.tup (xs.map .int)) (.tup (ys.map .int))=some (decide (xs=ys)):=by
 rw [eqP_tup sim_ints sim_ints,eqv_ints]
theorem sub_len {A B:List Int} (hA:A.Nodup) (h:∀ a ∈ A,a ∈ B):A.length≤B.length:=by
 induction A generalizing B with
 | nil=>exact Nat.zero_le _
 | cons a A ih=>
  obtain ⟨h1,h2⟩:=List.nodup_cons.mp hA
  have hb:=h a (.head _)
  have:=ih (B:=B.erase a) h2 fun x hx=>(List.mem_erase_of_ne (fun e=>h1 (by rw [← e]; exact hx))).mpr (h x (.tail _ hx))
  rw [List.length_erase_of_mem hb] at this
  have hp:=List.length_pos_of_mem hb
  rw [List.length_cons]
  omega
theorem keys_nd {T:List (Int × Int)} (h:Keys T):(T.map (·.1)).Nodup:=by
 unfold Keys at h
 rw [List.nodup_iff_pairwise_ne,List.pairwise_map]
 exact h
theorem keys_mem {T:List (Int × Int)} {f:List Int} (h:Hist T f) (v:Int):v ∈ T.map (·.1)↔v ∈ f:=by
 rw [List.mem_map]; exact h.mem v
noncomputable def NW (xs:List Int) (n:Nat):Prop:=∃ T,Hist T (wsL KS xs)∧T.length=n
theorem NW.uniq {xs:List Int} {n m:Nat} (a:NW xs n) (b:NW xs m):n=m:=by
 obtain ⟨A,hA,rfl⟩:=a
 obtain ⟨B,hB,rfl⟩:=b
 have h1:=sub_len (keys_nd hA.keys) (B:=B.map (·.1)) fun v hv=>(keys_mem hB v).mpr ((keys_mem hA v).mp hv)
 have h2:=sub_len (keys_nd hB.keys) (B:=A.map (·.1)) fun v hv=>(keys_mem hA v).mpr ((keys_mem hB v).mp hv)
 simp only [List.length_map] at h1 h2
 omega
theorem least_of:∀ (l:List Int),l ≠ []→∃ m ∈ l,∀ x ∈ l,m≤x
 | [],h=>absurd rfl h
 | [a],_=>⟨a,.head _,fun x hx=>by rw [List.mem_singleton.mp hx]; exact Int.le_refl _⟩
 | a :: c :: l,_=>by
  obtain ⟨m,hm,h⟩:=least_of (c :: l) (by simp)
  by_cases q:a≤m
  ·exact ⟨a,.head _,fun x hx=>by
    rcases List.mem_cons.mp hx with rfl | hx
    ·exact Int.le_refl _
    ·exact Int.le_trans q (h x hx)⟩
  ·exact ⟨m,.tail _ hm,fun x hx=>by
    rcases List.mem_cons.mp hx with rfl | hx
    ·omega
    ·exact h x hx⟩
theorem nd_map {A:List Int} (x:Int) (h:A.Nodup):(A.map fun a=>a + x).Nodup:=by
 rw [List.nodup_iff_pairwise_ne] at h ⊢
 rw [List.pairwise_map]
 exact h.imp fun hne e=>hne (by omega)
theorem NW.more {xs:List Int} {x:Int} {n m:Nat} (hx:1≤x) (a:NW xs n) (b:NW (xs ++ [x]) m):n < m∧m≤2 * n:=by
 obtain ⟨A,hA,rfl⟩:=a
 obtain ⟨B,hB,rfl⟩:=b
 rw [wsL_snoc] at hB
 have hb:∀ v,v ∈ B.map (·.1)↔∃ w ∈ A.map (·.1),w - x=v ∨ w + x=v:=fun v=>by
  rw [keys_mem hB,mem_fS]
  constructor
  ·rintro ⟨w,hw,q,hq,e⟩
   refine ⟨w,(keys_mem hA w).mpr hw,?_⟩
   rcases ks_cases hq with rfl | rfl
   ·exact .inl (by omega)
   ·exact .inr (by omega)
  ·rintro ⟨w,hw,e⟩
   have hw:=(keys_mem hA w).mp hw
   rcases e with e | e
   ·exact ⟨w,hw,-1,by decide,by omega⟩
   ·exact ⟨w,hw,1,by decide,by omega⟩
 have hne:A.map (·.1) ≠ []:=fun e=>by
  have h0:0 < (wsL KS xs).length:=by rw [ws_len]; exact Nat.pow_pos (by decide)
  obtain ⟨w,hw⟩:=List.exists_mem_of_length_pos h0
  have:=(keys_mem hA w).mpr hw
  rw [e] at this
  cases this
 have nA:=keys_nd hA.keys
 have nB:=keys_nd hB.keys
 have lA:(A.map (·.1)).length=A.length:=List.length_map ..
 have lB:(B.map (·.1)).length=B.length:=List.length_map ..
 generalize A.map (·.1)=P at *
 generalize B.map (·.1)=Q at *
 obtain ⟨k,hk,hle⟩:=least_of P hne
 constructor
 ·have h1:((k - x) :: P.map fun a=>a + x).Nodup:=List.nodup_cons.mpr ⟨fun h=>by
   obtain ⟨p,hp,e⟩:=List.mem_map.mp h
   have:=hle p hp
   omega,nd_map x nA⟩
  have:=sub_len h1 (B:=Q) fun v hv=>by
   rcases List.mem_cons.mp hv with rfl | hv
   ·exact (hb _).mpr ⟨k,hk,.inl rfl⟩
   ·obtain ⟨p,hp,rfl⟩:=List.mem_map.mp hv
    exact (hb _).mpr ⟨p,hp,.inr rfl⟩
  rw [List.length_cons,List.length_map] at this
  omega
 ·have:=sub_len nB (B:=(P.map fun a=>a - x) ++ P.map fun a=>a + x) fun v hv=>by
   obtain ⟨w,hw,e⟩:=(hb v).mp hv
   rcases e with e | e
   ·exact List.mem_append_left _ (List.mem_map.mpr ⟨w,hw,e⟩)
   ·exact List.mem_append_right _ (List.mem_map.mpr ⟨w,hw,e⟩)
  rw [List.length_append,List.length_map,List.length_map] at this
  omega
noncomputable def wayN (xs:List Int) (v:Int):Int:=((wsL KS (xs.take (xs.length / 2))).map fun x=>(((wsL KS (xs.drop (xs.length / 2))).filter fun y=>decide (y=v - x)).length:Int)).sum
theorem way_ok {xs:List Int} (h10:xs.length≤10) (hr:Row xs) (v:Int) (S:Sto):∃ S',F_many_met_n [tupI xs,.int v] S=.ok (.int (wayN xs v)) S'∧Pre S S':=by
 obtain ⟨S',A,B,e,p,hA,hB⟩:=many_ok h10 hr v S
 have q:sumH (fun x=>gT B (v - x)) A=wayN xs v:=by
  rw [hA.sum]
  unfold wayN
  congr 1
  exact List.map_congr_left fun x _=>hB.get _
 rw [q] at e
 exact ⟨S',e,p⟩
theorem fm_ok {xs:List Int} (h10:xs.length≤10) (hr:Row xs) (v:Int):∃ o,∀ S,∃ S',F_first_met_n [tupI xs,.int v] S=.ok (firstD o) S'∧Pre S S':=by
 obtain ⟨_,o,_,_,ho⟩:=first_ok h10 hr v []
 refine ⟨o,fun S=>?_⟩
 obtain ⟨S',o',e,p,h⟩:=first_ok h10 hr v S
 rw [IsF.uniq h ho] at e
 exact ⟨S',e,p⟩
theorem comp_fltP {A:Type} {enc out:A→D} {p:A→Bool} {t:TM} {e:EM} {tl:Rho} {S0:Sto} (xs:List A) (ht:∀ x ∈ xs,∀ S,Pre S0 S→∃ S',t (some (enc x) :: tl) S=.ok (p x) S'∧Pre S S') (h:∀ x S,e (some (enc x) :: tl) S=.ok (out x) S):∀ (r0:Option D) (S:Sto),Pre S0 S→∃ S',compL (.nm 0) t e (xs.map enc) (r0 :: tl) S=.ok ((xs.filter p).map out) S'∧Pre S S':=by
 induction xs with
 | nil=>exact fun r0 S _=>⟨S,rfl,Pre.refl S⟩
 | cons x xs ih=>
  intro r0 S p0
  obtain ⟨S1,e1,p1⟩:=ht x List.mem_cons_self S p0
  obtain ⟨S2,e2,p2⟩:=ih (fun y hy=>ht y (List.mem_cons_of_mem _ hy)) (some (enc x)) S1 (p0.trans p1)
  refine ⟨S2,?_,p1.trans p2⟩
  rw [List.map_cons,compL]
  cases hp:p x with
  | true=>
   rw [hp] at e1
   simp only [G.put,List.set_cons_zero,R.bind_ok,if_true,e1,h,e2,List.map_cons,List.filter_cons,hp]
  | false=>
   rw [hp] at e1
   simp only [G.put,List.set_cons_zero,R.bind_ok,e1,e2,List.filter_cons,hp,Bool.false_eq_true,if_false]
theorem eComp_fltP {A:Type} {enc out:A→D} {p:A→Bool} {t:TM} {e:EM} {it:AM} {caps:List Nat} {tl r:Rho} {S S1:Sto} (xs:List A) (hi:it r S=.ok (xs.map enc) S1) (hl:xs.length≤sizeLine) (hc:caps.map (fun i=>(r[i]?).join)=tl) (ht:∀ x ∈ xs,∀ S,Pre S1 S→∃ S',t (some (enc x) :: tl) S=.ok (p x) S'∧Pre S S') (h:∀ x S,e (some (enc x) :: tl) S=.ok (out x) S):∃ S',eComp it 1 caps (.nm 0) t e r S=.ok (.lst ((xs.filter p).map out)) S'∧Pre S1 S':=by
 obtain ⟨S2,e2,p2⟩:=comp_fltP (out:=out) xs ht h none S1 (Pre.refl S1)
 refine ⟨S2,?_,p2⟩
 unfold eComp
 rw [hi,R.bind_ok,if_pos (by rw [List.length_map]; exact hl)]
 have:capOf 1 caps r=none :: tl:=by unfold capOf; rw [hc]; rfl
 rw [this,e2,R.bind_ok]
theorem ne_self {S:Sto} {d:D} {p:PyData} (h:toPy d=some p) (hl:p.canLay0=true) (hd:p.depth≤64) (he:eqS d d=none ∨ eqS d d=some true):oNeP S d d=some (.bl false):=by
 have hs:=shaped_of hl hd
 unfold oNeP eqP
 rcases he with he | he
 ·rw [he,h]
  simp only [hs,and_self,if_true,PySem.SeqAt.eqv_refl p hl]
  rfl
 ·rw [he]; rfl
theorem ne_int (S:Sto) (i:Int):oNeP S (.int i) (.int i)=some (.bl false):=by rw [oNeP_i,decide_eq_true rfl]; rfl
noncomputable def pyF:Option (List Int)→PyData
 | none=>.none
 | some p=>.tuple (p.map .int)
theorem toPys_i:∀ xs:List Int,toPys (xs.map D.int)=some (xs.map PyData.int)
 | []=>rfl
 | x :: xs=>by
  rw [List.map_cons]
  unfold toPys
  rw [toPys_i xs]
  rfl
theorem lay_i:∀ xs:List Int,PyData.canLayAll0 (xs.map PyData.int)=true
 | []=>rfl
 | x :: xs=>by
  rw [List.map_cons]
  unfold PyData.canLayAll0
  rw [lay_i xs]
  rfl
theorem dep_i:∀ xs:List Int,PyData.depthAll (xs.map PyData.int)=0
 | []=>rfl
 | x :: xs=>by
  rw [List.map_cons]
  unfold PyData.depthAll
  rw [dep_i xs]
  rfl
theorem py_tup (xs:List Int):toPy (tupI xs)=some (.tuple (xs.map .int))∧(PyData.tuple (xs.map .int)).canLay0=true∧(PyData.tuple (xs.map .int)).depth≤1:=by
 refine ⟨?_,?_,?_⟩
 ·show toPy (.tup (xs.map .int))=_
  unfold toPy
  rw [toPys_i]; rfl
 ·unfold PyData.canLay0
  exact lay_i xs
 ·unfold PyData.depth
  rw [dep_i]; decide
theorem py_lst (xs:List Int):toPy (.lst (xs.map .int))=some (.list (xs.map .int))∧(PyData.list (xs.map .int)).canLay0=true∧(PyData.list (xs.map .int)).depth≤1:=by
 refine ⟨?_,?_,?_⟩
 ·unfold toPy
  rw [toPys_i]; rfl
 ·unfold PyData.canLay0
  exact lay_i xs
 ·unfold PyData.depth
  rw [dep_i]; decide
theorem py_f (o:Option (List Int)):toPy (firstD o)=some (pyF o)∧(pyF o).canLay0=true∧(pyF o).depth≤1:=by
 cases o with
 | none=>exact ⟨rfl,rfl,by decide⟩
 | some p=>exact py_tup p
theorem ne_f (S:Sto) (o:Option (List Int)):oNeP S (firstD o) (firstD o)=some (.bl false):=by
 obtain ⟨a,b,c⟩:=py_f o
 refine ne_self a b (by omega) ?_
 cases o with
 | none=>exact .inr rfl
 | some p=>exact .inl rfl
noncomputable def toldD (row:List Int) (n:Nat) (w:Int) (o:Option (List Int)) (ts:List Int):D:=.tup [tupI row,.int n,.int w,firstD o,.lst (ts.map .int)]
theorem ne_told (S:Sto) (row:List Int) (n:Nat) (w:Int) (o:Option (List Int)) (ts:List Int):oNeP S (toldD row n w o ts) (toldD row n w o ts)=some (.bl false):=by
 obtain ⟨a1,a2,a3⟩:=py_tup row
 obtain ⟨b1,b2,b3⟩:=py_f o
 obtain ⟨c1,c2,c3⟩:=py_lst ts
 refine ne_self (p:=.tuple [.tuple (row.map .int),.int n,.int w,pyF o,.list (ts.map .int)]) ?_ ?_ ?_ (.inl rfl)
 ·unfold toldD toPy
  have e:toPys [tupI row,.int n,.int w,firstD o,.lst (ts.map .int)]=some [.tuple (row.map .int),.int n,.int w,pyF o,.list (ts.map .int)]:=by
   simp only [toPys,a1,b1,c1]
   rfl
  rw [e]; rfl
 ·unfold PyData.canLay0
  simp only [PyData.canLayAll0,a2,b2,c2]
  rfl
 ·unfold PyData.depth
  simp only [PyData.depthAll]
  have z1:(PyData.int n).depth=0:=rfl
  have z2:(PyData.int w).depth=0:=rfl
  rw [z1,z2]
  omega
theorem insOf_go {S:Sto} {n:Nat} {c:Str} {fs:List (Str × D)} (h:S[n]?=some (.ins c fs)):insOf c S (.ref n)=some (n,fs):=by
 unfold insOf
 simp only [h,if_true]
theorem fld_go {c f:Str} {a:EM} {r:Rho} {S S1:Sto} {x d:D} {n:Nat} {fs:List (Str × D)} (h:a r S=.ok x S1) (hi:insOf c S1 x=some (n,fs)) (hl:fs.lookup f=some d):eFld c f a r S=.ok d S1:=by
 unfold eFld
 rw [h,R.bind_ok]
 simp only [hi,hl]
 rfl
theorem fldP_go {c f:Str} {o v:EM} {r:Rho} {S S1 S2:Sto} {x y:D} {n:Nat} {fs:List (Str × D)} (hv:v r S=.ok y S1) (ho:o r S1=.ok x S2) (hi:insOf c S2 x=some (n,fs)) (hl:fs.length < 1000):sFldP c f o v r S=.ok (.nx r) (S2.set n (.ins c (putFD f y fs))):=by
 unfold sFldP
 rw [hv,R.bind_ok,ho,R.bind_ok]
 simp only [hi,if_pos hl]
theorem met_go {c m:Str} {F:FM} {o:EM} {t:AM} {r:Rho} {S S1 S2:Sto} {x:D} {ds:List D} {n:Nat} {fs:List (Str × D)} (h:o r S=.ok x S1) (hi:insOf c S1 x=some (n,fs)) (hl:fs.lookup m=none) (ht:t r S1=.ok ds S2):eMet c m F o t r S=F (x :: ds) S2:=by
 unfold eMet
 rw [h,R.bind_ok]
 simp only [hi,hl,ht,R.bind_ok,if_true]
theorem mak_go {c:Str} {F:FM} {r:Rho} {S S1:Sto} (h:F [.ref S.length] (S ++ [.ins c []])=.ok .non S1):eMak c F r S=.ok (.ref S.length) S1:=by
 unfold eMak
 rw [h,R.bind_ok]
theorem pop0_go {o:EM} {r:Rho} {S S1:Sto} {n:Nat} {a:List D} {y:D} (h:o r S=.ok (.ref n) S1) (hn:S1[n]?=some (.lst (a ++ [y]))):ePop0 o r S=.ok y (S1.set n (.lst a)):=by
 unfold ePop0
 rw [h,R.bind_ok]
 unfold mPop0
 have e:(a ++ [y])[(a ++ [y]).length - 1]?=some y:=by simp
 simp only [hn,e,List.dropLast_concat]
theorem append_go {S:Sto} {f:Nat} {xs:List D} {v:D} (h:S[f]?=some (.lst xs)) (hl:xs.length < sizeLine):mAppend S (.ref f) [v]=.ok .non (S.set f (.lst (xs ++ [v]))):=by
 unfold mAppend
 simp only [h,if_pos hl]
theorem isL_ref {S:Sto} {f:Nat} {xs:List D} (h:S[f]?=some (.lst xs)):isL S (.ref f)=true:=by
 unfold isL
 simp only [h]
noncomputable abbrev kF (a b:D):List (Str × D):=[("numbers",a),("earlier",b)]
theorem kl_n (a b:D):(kF a b).lookup ("numbers":Str)=some a:=by kernel_rfl
theorem kl_e (a b:D):(kF a b).lookup ("earlier":Str)=some b:=by kernel_rfl
theorem kl_c (a b:D):(kF a b).lookup ("change":Str)=none:=by kernel_rfl
theorem kl_p (a b:D):(kF a b).lookup ("put":Str)=none:=by kernel_rfl
theorem kl_t (a b:D):(kF a b).lookup ("take":Str)=none:=by kernel_rfl
theorem kl_b (a b:D):(kF a b).lookup ("back":Str)=none:=by kernel_rfl
theorem kl_r (a b:D):(kF a b).lookup ("row":Str)=none:=by kernel_rfl
theorem kl_w (a b:D):(kF a b).lookup ("worths_many":Str)=none:=by kernel_rfl
theorem kl_y (a b:D):(kF a b).lookup ("ways":Str)=none:=by kernel_rfl
theorem kl_f (a b:D):(kF a b).lookup ("first":Str)=none:=by kernel_rfl
theorem kl_m (a b:D):(kF a b).lookup ("times":Str)=none:=by kernel_rfl
theorem kp_n (a b v:D):putFD "numbers" v (kF a b)=kF v b:=by kernel_rfl
theorem kp_0 (v:D):putFD "numbers" v []=([("numbers",v)]:List (Str × D)):=by kernel_rfl
theorem kp_1 (a v:D):putFD "earlier" v [("numbers",a)]=kF a v:=by kernel_rfl
theorem lt_of_some {A:Type} {l:List A} {i:Nat} {x:A} (h:l[i]?=some x):i < l.length:=(List.getElem?_eq_some_iff.mp h).1
noncomputable def At (S:Sto) (κ e:Nat) (row:List Int):Prop:=S[κ]?=some (.ins "Keeper" (kF (tupI row) (.ref e)))
theorem At.pre {S S1:Sto} {κ e:Nat} {row:List Int} (h:At S κ e row) (p:Pre S S1):At S1 κ e row:=(p.old κ (lt_of_some h)).trans h
theorem At.of {S:Sto} {κ e:Nat} {row:List Int} (h:At S κ e row):insOf "Keeper" S (.ref κ)=some (κ,kF (tupI row) (.ref e)):=insOf_go h
theorem At.num {S:Sto} {κ e i:Nat} {row:List Int} {r:Rho} (h:At S κ e row) (hi:r[i]?=some (some (.ref κ))):eFld "Keeper" "numbers" (eVar i) r S=.ok (tupI row) S:=fld_go (eVar_go hi) h.of (kl_n _ _)
theorem len_i {S:Sto} (xs:List Int):fLen S [tupI xs]=some (.int xs.length):=by
 show some (D.int ((xs.map D.int).length:Int))=_
 rw [List.length_map]
theorem row_ok {S:Sto} {κ e:Nat} {row:List Int} (h:At S κ e row):F_Keeper_row [.ref κ] S=.ok (tupI row) S:=fnM_rt (ρ:=[some (.ref κ)]) rfl (sRet_go (h.num rfl))
theorem row_met {S:Sto} {κ e i:Nat} {row:List Int} {r:Rho} (h:At S κ e row) (hi:r[i]?=some (some (.ref κ))):eMet "Keeper" "row" F_Keeper_row (eVar i) aNil r S=.ok (tupI row) S:=(met_go (eVar_go hi) h.of (kl_r _ _) rfl).trans (row_ok h)
theorem worths_ok {S:Sto} {κ e:Nat} {row:List Int} (h:At S κ e row) (h10:row.length≤10):∃ (n:Nat) (S':Sto),F_Keeper_worths_many [.ref κ] S=.ok (.int n) S'∧Pre S S'∧NW row n:=by
 obtain ⟨S',n,T,eT,dT,_,hT,p⟩:=tableof10 h10 S
 have hl:fLenD S' [.ref n]=some (.int T.length):=by
  have hd:dicOf S' (.ref n)=some (encT T):=dAt.dic (.inl dT)
  unfold fLenD
  simp only [hd]
  unfold encT
  rw [List.length_map]
 exact ⟨T.length,S',fnM_rt (ρ:=[some (.ref κ)]) rfl (sRet_go (eB_go (aCons_go ((eCall_go (aCons_go (h.num rfl) (aCons_go rfl rfl))).trans eT) rfl) hl)),p,T,hT,rfl⟩
theorem ways_ok {S:Sto} {κ e:Nat} {row:List Int} (h:At S κ e row) (h10:row.length≤10) (hr:Row row) (v:Int):∃ S',F_Keeper_ways_n [.ref κ,.int v] S=.ok (.int (wayN row v)) S'∧Pre S S':=by
 obtain ⟨S',e1,p⟩:=way_ok h10 hr v S
 exact ⟨S',fnM_rt (ρ:=[some (.ref κ),some (.int v)]) rfl (sRet_go ((eCall_go (aCons_go (h.num rfl) (aCons_go (eVar_go rfl) rfl))).trans e1)),p⟩
theorem firstK_ok {S:Sto} {κ e:Nat} {row:List Int} {v:Int} {o:Option (List Int)} (h:At S κ e row) (ho:∀ S,∃ S',F_first_met_n [tupI row,.int v] S=.ok (firstD o) S'∧Pre S S'):∃ S',F_Keeper_first_n [.ref κ,.int v] S=.ok (firstD o) S'∧Pre S S':=by
 obtain ⟨S',e1,p⟩:=ho S
 exact ⟨S',fnM_rt (ρ:=[some (.ref κ),some (.int v)]) rfl (sRet_go ((eCall_go (aCons_go (h.num rfl) (aCons_go (eVar_go rfl) rfl))).trans e1)),p⟩
noncomputable def timesL (row:List Int) (v:Int):List Int:=((List.range (row.length + 1)).filter fun m=>decide (0 < wayN (row.take m) v)).map fun (m:Nat)=>(m:Int)
theorem Row.take {xs:List Int} (h:Row xs) (m:Nat):Row (xs.take m):=⟨fun x hx=>h.1 x (List.mem_of_mem_take hx),by rw [List.length_take]; have:=h.2; omega⟩
theorem times_ok {S:Sto} {κ e:Nat} {row:List Int} (h:At S κ e row) (h10:row.length≤10) (hr:Row row) (v:Int):∃ S',F_Keeper_times_n [.ref κ,.int v] S=.ok (.lst ((timesL row v).map .int)) S'∧Pre S S':=by
 have z:(1000:Nat)≤sizeLine:=by decide
 have hi:aRange1 (aCons (eOp oAdd (eB fLen (aCons (eFld "Keeper" "numbers" (eVar 0)) aNil)) (eC (.int 1))) aNil) [some (.ref κ),some (.int v)] S=.ok ((List.range (row.length + 1)).map fun (i:Nat)=>D.int i) S:=
  aRange1_ok (n:=row.length + 1) (aCons_go (eOp_go (eB_go (aCons_go (h.num rfl) rfl) (len_i row)) rfl rfl) rfl) (by omega)
 obtain ⟨S',e1,p1⟩:=eComp_fltP (caps:=[0,1]) (tl:=[some (.ref κ),some (.int v)]) (enc:=fun (i:Nat)=>D.int i) (out:=fun (i:Nat)=>D.int i) (p:=fun m=>decide (0 < wayN (row.take m) v))
  (t:=tV (eOp oGt (eCall F_many_met_n (aCons (eSl fSlT (eFld "Keeper" "numbers" (eVar 1)) oNo (oPart (eVar 0))) (aCons (eVar 2) aNil))) (eC (.int 0)))) (e:=eVar 0) (List.range (row.length + 1)) hi (by rw [List.length_range]; omega) rfl
  (fun m hm S1 p1=>by
   have hm:=List.mem_range.mp hm
   have h1:=h.pre p1
   have hc:fSlT S1 (tupI row) none (some (m:Int))=some (tupI (row.take m)):=by
    show some (D.tup (PD.cutD (row.map .int) _ _))=_
    rw [cut_take _ _ (by rw [List.length_map]; omega),← List.map_take]
   obtain ⟨S2,e2,p2⟩:=way_ok (xs:=row.take m) (by rw [List.length_take]; omega) (hr.take m) v S1
   exact ⟨S2,tV_go (eOp_go ((eCall_go (aCons_go (eSl_go (h1.num rfl) rfl (oPart_go (eVar_go rfl)) hc) (aCons_go (eVar_go rfl) rfl))).trans e2) rfl rfl),p2⟩)
  (fun x S=>rfl)
 refine ⟨S',?_,p1⟩
 have ex:(timesL row v).map D.int=((List.range (row.length + 1)).filter fun m=>decide (0 < wayN (row.take m) v)).map fun (i:Nat)=>D.int i:=by
  unfold timesL
  rw [List.map_map]; rfl
 rw [ex]
 exact fnM_rt (ρ:=[some (.ref κ),some (.int v)]) rfl (sRet_go e1)
noncomputable def Tells (row:List Int) (v:Int) (n:Nat) (o:Option (List Int)):Prop:=NW row n∧(∀ S,∃ S',F_first_met_n [tupI row,.int v] S=.ok (firstD o) S'∧Pre S S')
theorem told_ok {row:List Int} {v:Int} {n:Nat} {o:Option (List Int)} (ht:Tells row v n o) (h10:row.length≤10) (hr:Row row) {S:Sto} {κ e:Nat} (h:At S κ e row):∃ S',F__law_told_n [.ref κ,.int v] S=.ok (toldD row n (wayN row v) o (timesL row v)) S'∧Pre S S':=by
 have z5:(5:Nat)≤sizeLine:=by decide
 obtain ⟨m,S1,e1,p1,hm⟩:=worths_ok h h10
 rw [NW.uniq hm ht.1] at e1
 have h1:=h.pre p1
 obtain ⟨S2,e2,p2⟩:=ways_ok h1 h10 hr v
 have h2:=h1.pre p2
 obtain ⟨S3,e3,p3⟩:=firstK_ok h2 ht.2
 have h3:=h2.pre p3
 obtain ⟨S4,e4,p4⟩:=times_ok h3 h10 hr v
 refine ⟨S4,fnM_rt (ρ:=[some (.ref κ),some (.int v)]) rfl (sRet_go (eTup_go (xs:=[tupI row,.int n,.int (wayN row v),firstD o,.lst ((timesL row v).map .int)]) (aCons_go (row_met h rfl) (aCons_go ((met_go (eVar_go rfl) h.of (kl_w _ _) rfl).trans e1) (aCons_go ((met_go (eVar_go rfl) h1.of (kl_y _ _) (aCons_go (eVar_go rfl) rfl)).trans e2) (aCons_go ((met_go (eVar_go rfl) h2.of (kl_f _ _) (aCons_go (eVar_go rfl) rfl)).trans e3) (aCons_go ((met_go (eVar_go rfl) h3.of (kl_m _ _) (aCons_go (eVar_go rfl) rfl)).trans e4) rfl))))) z5)),p1.trans (p2.trans (p3.trans p4))⟩
theorem tells {row:List Int} (h10:row.length≤10) (hr:Row row) (v:Int):∃ n o,Tells row v n o:=by
 obtain ⟨o,ho⟩:=fm_ok h10 hr v
 obtain ⟨_,_,T,_,_,_,hT,_⟩:=tableof10 h10 []
 exact ⟨T.length,o,⟨T,hT,rfl⟩,ho⟩
structure Fr (X:List Nat) (S S1:Sto):Prop where
 oth:∀ i,i < S.length→i ∉ X→S1[i]?=S[i]?
 len:S.length≤S1.length
theorem Fr.refl (X:List Nat) (S:Sto):Fr X S S:=⟨fun _ _ _=>rfl,Nat.le_refl _⟩
theorem Fr.trans {X:List Nat} {S S1 S2:Sto} (a:Fr X S S1) (b:Fr X S1 S2):Fr X S S2:=⟨fun i h n=>(b.oth i (Nat.lt_of_lt_of_le h a.len) n).trans (a.oth i h n),Nat.le_trans a.len b.len⟩
theorem Pre.fr {X:List Nat} {S S1:Sto} (p:Pre S S1):Fr X S S1:=⟨fun i h _=>p.old i h,p.len⟩
theorem Gr.fr {X:List Nat} {b:Nat} {S S1:Sto} (g:Gr b S S1) (h:b ∈ X):Fr X S S1:=⟨fun i hl n=>g.oth i (fun e=>n (by rw [e]; exact h)) hl,g.len⟩
theorem Fr.weak {X Y:List Nat} {S S1 S2:Sto} (a:Fr X S S1) (b:Fr Y S1 S2) (h:∀ i ∈ Y,i < S.length→i ∈ X):Fr X S S2:=⟨fun i hl n=>(b.oth i (Nat.lt_of_lt_of_le hl a.len) fun q=>n (h i q hl)).trans (a.oth i hl n),Nat.le_trans a.len b.len⟩
structure V (S:Sto) (b κ e:Nat) (hs:List (List Int)) (row:List Int):Prop where
 bx:∃ n,S[b]?=some (.lst [.int n])
 kp:At S κ e row
 er:S[e]?=some (.lst (hs.map tupI))
 ne:b ≠ κ∧b ≠ e∧κ ≠ e
theorem V.self {S:Sto} {b κ e:Nat} {hs:List (List Int)} {row:List Int} (k:V S b κ e hs row):Gr b S S:=⟨k.bx,fun _ _ _=>rfl,Nat.le_refl _⟩
theorem V.fr {X:List Nat} {S S1:Sto} {b κ e:Nat} {hs:List (List Int)} {row:List Int} (k:V S b κ e hs row) (f:Fr X S S1) (hb:∃ n,S1[b]?=some (.lst [.int n])) (h1:κ ∉ X) (h2:e ∉ X):V S1 b κ e hs row:=⟨hb,(f.oth κ (lt_of_some k.kp) h1).trans k.kp,(f.oth e (lt_of_some k.er) h2).trans k.er,k.ne⟩
theorem V.gr {S S1:Sto} {b κ e:Nat} {hs:List (List Int)} {row:List Int} (k:V S b κ e hs row) (g:Gr b S S1):V S1 b κ e hs row:=k.fr (X:=[b]) (g.fr (.head _)) g.bx (fun h=>k.ne.1 (List.mem_singleton.mp h).symm) (fun h=>k.ne.2.1 (List.mem_singleton.mp h).symm)
theorem V.pre {S S1:Sto} {b κ e:Nat} {hs:List (List Int)} {row:List Int} (k:V S b κ e hs row) (p:Pre S S1):V S1 b κ e hs row:=k.fr (X:=[]) p.fr (by obtain ⟨n,hn⟩:=k.bx; exact ⟨n,(p.old b (lt_of_some hn)).trans hn⟩) (fun h=>by cases h) (fun h=>by cases h)
noncomputable def chg (S:Sto) (κ e:Nat) (hs:List (List Int)) (row:List Int):Sto:=(S.set e (.lst (hs.map tupI))).set κ (.ins "Keeper" (kF (tupI row) (.ref e)))
theorem chg_fr {X:List Nat} (S:Sto) {κ e:Nat} (hs:List (List Int)) (row:List Int) (h1:κ ∈ X) (h2:e ∈ X):Fr X S (chg S κ e hs row):=⟨fun i _ n=>by
 unfold chg
 rw [List.getElem?_set_ne fun q=>n (by rw [← q]; exact h1),List.getElem?_set_ne fun q=>n (by rw [← q]; exact h2)],by unfold chg; rw [List.length_set,List.length_set]; exact Nat.le_refl _⟩
theorem V.chg {S:Sto} {b κ e:Nat} {hs:List (List Int)} {row:List Int} (k:V S b κ e hs row) (hs':List (List Int)) (row':List Int):V (chg S κ e hs' row') b κ e hs' row':=by
 obtain ⟨n1,n2,n3⟩:=k.ne
 obtain ⟨n,hn⟩:=k.bx
 unfold Lw.chg
 refine ⟨⟨n,?_⟩,?_,?_,k.ne⟩
 ·rw [List.getElem?_set_ne (Ne.symm n1),List.getElem?_set_ne (Ne.symm n2)]; exact hn
 ·exact List.getElem?_set_self (by rw [List.length_set]; exact lt_of_some k.kp)
 ·rw [List.getElem?_set_ne n3]; exact List.getElem?_set_self (lt_of_some k.er)
theorem init_ok (S:Sto):F_Keeper___init__ [.ref S.length] (S ++ [.ins "Keeper" []])=.ok .non (S ++ [.ins "Keeper" (kF (tupI []) (.ref (S.length + 1))),.lst []]):=by
 have z0:(0:Nat)≤sizeLine:=Nat.zero_le _
 have h1:sFldP "Keeper" "numbers" (eVar 0) (eTup aNil) [some (.ref S.length)] (S ++ [.ins "Keeper" []])=.ok (.nx [some (.ref S.length)]) (S ++ [.ins "Keeper" [("numbers",tupI [])]]):=by
  refine (fldP_go (eTup_go (xs:=[]) rfl z0) (eVar_go rfl) (insOf_go (n:=S.length) (fs:=[]) (by simp)) (by decide)).trans ?_
  rw [kp_0]
  simp
 have hN:eNew aNil [some (.ref S.length)] (S ++ [.ins "Keeper" [("numbers",tupI [])]])=.ok (.ref (S.length + 1)) (S ++ [.ins "Keeper" [("numbers",tupI [])]] ++ [.lst []]):=by
  unfold eNew
  show (if 0≤sizeLine then R.ok (D.ref (S ++ [SO.ins "Keeper" [("numbers",tupI [])]]).length) _ else R.bad)=_
  rw [if_pos z0,List.length_append]
  rfl
 have h2:sFldP "Keeper" "earlier" (eVar 0) (eNew aNil) [some (.ref S.length)] (S ++ [.ins "Keeper" [("numbers",tupI [])]])=.ok (.nx [some (.ref S.length)]) (S ++ [.ins "Keeper" (kF (tupI []) (.ref (S.length + 1))),.lst []]):=by
  refine (fldP_go hN (eVar_go rfl) (insOf_go (n:=S.length) (fs:=[("numbers",tupI [])]) (by simp)) (by decide)).trans ?_
  rw [kp_1]
  simp
 exact fnM_nx (ρ:=[some (.ref S.length)]) rfl ((sSeq_go h1).trans h2)
noncomputable abbrev newK (S:Sto):Sto:=S ++ [.ins "Keeper" (kF (tupI []) (.ref (S.length + 1))),.lst []]
theorem new_at (S:Sto):At (newK S) S.length (S.length + 1) []∧(newK S)[S.length + 1]?=some (.lst (([]:List (List Int)).map tupI)):=by
 constructor
 ·show (S ++ _)[S.length]?=_
  rw [List.getElem?_append_right (Nat.le_refl _)]; simp
 ·show (S ++ _)[S.length + 1]?=_
  rw [List.getElem?_append_right (by omega)]; simp
theorem mak_ok (S:Sto) (r:Rho):eMak "Keeper" F_Keeper___init__ r S=.ok (.ref S.length) (newK S):=mak_go (init_ok S)
section
variable {S:Sto} {b κ e:Nat} {hs:List (List Int)} {row:List Int} (k:V S b κ e hs row)
include k
theorem change_ok (row':List Int) (hl:hs.length < 1000):F_Keeper_change [.ref κ,tupI row'] S=.ok (.int row'.length) (chg S κ e (hs ++ [row]) row'):=by
 obtain ⟨n1,n2,n3⟩:=k.ne
 have z:(1000:Nat) < sizeLine:=by decide
 have ek:(hs.map tupI ++ [tupI row])=(hs ++ [row]).map tupI:=by rw [List.map_append]; rfl
 have ha:=append_go (v:=tupI row) k.er (by rw [List.length_map]; omega)
 rw [ek] at ha
 have hk1:At (S.set e (.lst ((hs ++ [row]).map tupI))) κ e row:=by unfold At; rw [List.getElem?_set_ne (Ne.symm n3)]; exact k.kp
 have h2:=fldP_go (f:="numbers") (o:=eVar 0) (v:=eVar 1) (r:=[some (.ref κ),some (tupI row')]) (S:=S.set e (.lst ((hs ++ [row]).map tupI))) (y:=tupI row') (eVar_go rfl) (eVar_go rfl) hk1.of (by show 2 < 1000; decide)
 rw [kp_n] at h2
 exact fnM_rt (ρ:=[some (.ref κ),some (tupI row')]) rfl ((sSeq_go (sDrop_go ((eMtL_go (fld_go (eVar_go rfl) k.kp.of (kl_e _ _)) (isL_ref k.er) (aCons_go (k.kp.num rfl) rfl)).trans ha))).trans ((sSeq_go h2).trans (sRet_go (eB_go (aCons_go (eVar_go rfl) rfl) (len_i row')))))
omit k in
theorem nn_ok (v:Int) (S:Sto):F_need_number_n [.int v] S=.ok .non S:=by
 have e:=whole_eq (d:=.int v) (S:=S) rfl
 have e':isI (.int v)=true:=rfl
 rw [e'] at e
 simp [F_need_number_n,fnM,m_need_number_n,sIf,sSkip,tNx,R.nx,PD.tNot,tV,eCall,eVar,aCons,aNil,R.bind,e]
omit k in
theorem nnf_ok {i l:Int} (h:l≤i) (S:Sto):F_need_number_from_n [.int l,.int i] S=.ok .non S:=by
 have hc:tV (eOp oLt (eVar 1) (eVar 0)) [some (.int l),some (.int i)] S=.ok (decide (i < l)) S:=tV_go (eOp_go (eVar_go rfl) (eVar_go rfl) rfl)
 rw [decide_eq_false (by omega)] at hc
 exact fnM_nx (ρ:=[some (.int l),some (.int i)]) rfl ((sSeq_go (sDrop_go ((eCall_go (aCons_go (eVar_go rfl) rfl)).trans (nn_ok i S)))).trans ((sIf_f hc).trans rfl))
theorem put_ok {n:Int} (hn:1≤n) (hl:hs.length < 1000) (h16:row.length < 16):F_Keeper_put_n [.ref κ,.int n] S=.ok (.int (row ++ [n]).length) (chg S κ e (hs ++ [row]) (row ++ [n])):=by
 have hc:tV (eOp oEqP (eB fLen (aCons (eFld "Keeper" "numbers" (eVar 0)) aNil)) (eC (.int (16)))) [some (.ref κ),some (.int n)] S=.ok (decide ((row.length:Int)=16)) S:=tV_go (eOp_go (eB_go (aCons_go (k.kp.num rfl) rfl) (len_i row)) rfl oEqP_i)
 rw [decide_eq_false (by omega)] at hc
 have z:(1000:Nat)≤sizeLine:=by decide
 have hadd:oAdd S (tupI row) (.tup [.int n])=some (tupI (row ++ [n])):=tup_snoc S row n (by omega)
 exact fnM_rt (ρ:=[some (.ref κ),some (.int n)]) rfl ((sSeq_go (sDrop_go ((eCall_go (aCons_go rfl (aCons_go (eVar_go rfl) rfl))).trans (nnf_ok hn S)))).trans ((sSeq_go ((sIf_f hc).trans rfl)).trans (sRet_go ((met_go (eVar_go rfl) k.kp.of (kl_c _ _) (aCons_go (eOp_go (k.kp.num rfl) (eTup_go (xs:=[.int n]) (aCons_go (eVar_go rfl) rfl) one_line) hadd) rfl)).trans (change_ok k _ hl)))))
theorem cut_last (S0:Sto) (xs:List Int):fSlT S0 (tupI xs) none (some (-1))=some (tupI xs.dropLast):=by
 show some (D.tup (PD.cutD (xs.map .int) none (some (-1))))=_
 unfold PD.cutD
 have e:HT.sIx (xs.map D.int).length (xs.map D.int).length (some (-1))=xs.length - 1:=by
  rw [List.length_map]
  unfold HT.sIx
  simp
  omega
 have e0:HT.sIx (xs.map D.int).length 0 none=0:=rfl
 rw [e,e0,List.drop_zero,Nat.sub_zero,← List.map_take,← List.dropLast_eq_take]
theorem take_k (hl:hs.length < 1000) (h:row ≠ []):F_Keeper_take_n [.ref κ] S=.ok (.int row.dropLast.length) (chg S κ e (hs ++ [row]) row.dropLast):=by
 have z0:(0:Nat)≤sizeLine:=Nat.zero_le _
 have hq:oEqP S (tupI row) (.tup [])=some (.bl (decide (row=[]))):=by
  have:=eqP_tints row []
  unfold oEqP
  rw [show (D.tup []:D)=.tup (([]:List Int).map .int) from rfl,this]; rfl
 have hc:tV (eOp oEqP (eFld "Keeper" "numbers" (eVar 0)) (eTup aNil)) [some (.ref κ)] S=.ok (decide (row=[])) S:=tV_go (eOp_go (k.kp.num rfl) (eTup_go (xs:=[]) rfl z0) hq)
 rw [decide_eq_false h] at hc
 exact fnM_rt (ρ:=[some (.ref κ)]) rfl ((sSeq_go ((sIf_f hc).trans rfl)).trans (sRet_go ((met_go (eVar_go rfl) k.kp.of (kl_c _ _) (aCons_go (eSl_go (k.kp.num rfl) rfl (oPart_go rfl) (cut_last k S row)) rfl)).trans (change_ok k _ hl))))
end
noncomputable def pyT:D→PyData
 | .tup xs=>.tuple (xs.map pyI)
 | _=>.none
theorem ints_d0:∀ xs:List Int,PyData.depthAll ((xs.map D.int).map pyI)=0
 | []=>rfl
 | x :: xs=>by
  have:=ints_d0 xs
  rw [List.map_cons,List.map_cons,pyI_i]
  unfold PyData.depthAll
  rw [this]
  rfl
theorem sim_rows {hs:List (List Int)}:∀ d ∈ hs.map tupI,Sim d (pyT d):=fun d hd=>by
 obtain ⟨r,_,rfl⟩:=List.mem_map.mp hd
 obtain ⟨a1,a2,a3⟩:=sims (ds:=r.map D.int) (f:=pyI) sim_ints
 refine ⟨?_,?_,?_⟩
 ·show toPy (.tup (r.map .int))=some (.tuple ((r.map D.int).map pyI))
  unfold toPy
  rw [a1]; rfl
 ·show PyData.canLay0 (.tuple ((r.map D.int).map pyI))=true
  unfold PyData.canLay0
  exact a2
 ·show PyData.depth (.tuple ((r.map D.int).map pyI))≤3
  unfold PyData.depth
  rw [ints_d0]
  decide
theorem eq_nil {S:Sto} {e:Nat} {hs:List (List Int)} (h0:S[e]?=some (.lst (hs.map tupI))):oEqS S (.ref e) (.lst [])=some (.bl (decide (hs=[]))):=by
 obtain ⟨a1,a2,a3⟩:=sims (ds:=hs.map tupI) (f:=pyT) sim_rows
 have e1:toPyS S (.ref e)=some (.list ((hs.map tupI).map pyT)):=by
  unfold toPyS
  simp only [h0,a1,Option.map_some]
 have e2:toPyS S (.lst [])=some (.list []):=rfl
 have s1:SeqAt.shaped (.list ((hs.map tupI).map pyT))=true:=shaped_of (by unfold PyData.canLay0; exact a2) (by unfold PyData.depth; omega)
 have s2:SeqAt.shaped (.list [])=true:=by decide
 have e3:eqP (.ref e) (.lst [])=none:=rfl
 unfold oEqS eqPS
 simp only [e3,e1,e2,s1,s2,and_self,if_true,Option.map_some]
 rw [PyData.eqv]
 cases hs with
 | nil=>simp [PyData.eqvAll]
 | cons x xs=>simp [PyData.eqvAll]
theorem back_k {S:Sto} {b κ e:Nat} {hs:List (List Int)} {row r':List Int} (k:V S b κ e (hs ++ [r']) row):F_Keeper_back_n [.ref κ] S=.ok (.int r'.length) (chg S κ e hs r'):=by
 have z0:(0:Nat)≤sizeLine:=Nat.zero_le _
 obtain ⟨n1,n2,n3⟩:=k.ne
 have hc:tV (eOp oEqS (eFld "Keeper" "earlier" (eVar 0)) (eLst aNil)) [some (.ref κ)] S=.ok (decide (hs ++ [r']=[])) S:=tV_go (eOp_go (fld_go (eVar_go rfl) k.kp.of (kl_e _ _)) (eLst_go (xs:=[]) rfl z0) (eq_nil k.er))
 rw [decide_eq_false (by simp)] at hc
 have her:S[e]?=some (.lst (hs.map tupI ++ [tupI r'])):=by rw [k.er,List.map_append]; rfl
 have hk1:At (S.set e (.lst (hs.map tupI))) κ e row:=by unfold At; rw [List.getElem?_set_ne (Ne.symm n3)]; exact k.kp
 have h2:=fldP_go (c:="Keeper") (f:="numbers") (o:=eVar 0) (r:=[some (.ref κ)]) (pop0_go (fld_go (f:="earlier") (a:=eVar 0) (r:=[some (.ref κ)]) (eVar_go rfl) k.kp.of (kl_e _ _)) her) (eVar_go rfl) hk1.of (by show 2 < 1000; decide)
 rw [kp_n] at h2
 have hk2:At (chg S κ e hs r') κ e r':=(k.chg hs r').kp
 exact fnM_rt (ρ:=[some (.ref κ)]) rfl ((sSeq_go ((sIf_f hc).trans rfl)).trans ((sSeq_go h2).trans (sRet_go (eB_go (aCons_go (hk2.num rfl) rfl) (len_i r')))))
theorem laps_le (ns:List Int) (c:Nat) (hn:ns.length≤63) (hc:1≤c∧c≤63) (r:Rho) (hr:r[0]?=some (some (.fz (ns.map .int)))) (S:Sto):∃ n:Nat,aRange1 (aCons (eB fMax (aCons (eC (.int 1)) (aCons (eB fMin (aCons (eB fLen (aCons (eVar 0) aNil)) (aCons (eC (.int c)) aNil))) aNil))) aNil) r S=.ok ((List.range n).map (fun (i:Nat)=>D.int i)) S∧n≤c:=by
 refine ⟨max 1 (min ns.length c),aRange1_ok ?_ (by omega),by omega⟩
 have e:(if (1:Int) < (if (c:Int) < (ns.length:Int) then (c:Int) else (ns.length:Int)) then (if (c:Int) < (ns.length:Int) then (c:Int) else (ns.length:Int)) else 1)=((max 1 (min ns.length c):Nat):Int):=by
  split <;> split <;> omega
 rw [← e]
 simp [aCons,aNil,eB,eC,eVar,R.bind,R.of,hr,fLen,seqOf,fMin,fMax]
theorem tAnd_t {a b:TM} {r:Rho} {S S1:Sto} (h:a r S=.ok true S1):PD.tAnd a b r S=b r S1:=by unfold PD.tAnd; rw [h,R.bind_ok]; exact if_pos rfl
theorem tAnd_f {a b:TM} {r:Rho} {S S1:Sto} (h:a r S=.ok false S1):PD.tAnd a b r S=.ok false S1:=by unfold PD.tAnd; rw [h,R.bind_ok]; exact if_neg Bool.false_ne_true
theorem eChain_t {f g:Sto→D→D→Option D} {a b c:EM} {r:Rho} {S S1 S2 S3:Sto} {x y z u:D} (h1:a r S=.ok x S1) (h2:b r S1=.ok y S2) (hf:f S2 x y=some (.bl true)) (h3:c r S2=.ok z S3) (hg:g S3 y z=some u):eChain f g a b c r S=.ok u S3:=by
 unfold eChain
 rw [h1,R.bind_ok,h2,R.bind_ok]
 simp only [hf]
 rw [h3,R.bind_ok,hg]
 rfl
noncomputable def Rw (row:List Int):Prop:=(∀ x ∈ row,1≤x)∧row.length≤9
theorem Rw.row {row:List Int} (h:Rw row):Row row:=⟨h.1,by have:=h.2; omega⟩
theorem Rw.ten {row:List Int} (h:Rw row):row.length≤10:=by have:=h.2; omega
theorem Rw.nil:Rw []:=⟨fun x hx=>absurd hx List.not_mem_nil,Nat.zero_le 9⟩
theorem oMod2 (S:Sto) (q:Int):oMod S (.int q) (.int 2)=some (.int (q % 2)):=by
 show (if (0:Int) < 2 then some (D.int (q % 2)) else none)=_
 rw [if_pos (by decide)]
theorem put_met {S S1:Sto} {b κ e i:Nat} {hs:List (List Int)} {row:List Int} {n:Int} {t:AM} {r:Rho} (k:V S b κ e hs row) (k1:V S1 b κ e hs row) (hi:r[i]?=some (some (.ref κ))) (ht:t r S=.ok [.int n] S1) (hn:1≤n) (hl:hs.length < 1000) (h16:row.length < 16):eMet "Keeper" "put" F_Keeper_put_n (eVar i) t r S=.ok (.int (row ++ [n]).length) (chg S1 κ e (hs ++ [row]) (row ++ [n])):=(met_go (eVar_go hi) k.kp.of (kl_p _ _) ht).trans (put_ok k1 hn hl h16)
theorem take_met {S:Sto} {b κ e i:Nat} {hs:List (List Int)} {row:List Int} {r:Rho} (k:V S b κ e hs row) (hi:r[i]?=some (some (.ref κ))) (hl:hs.length < 1000) (h:row ≠ []):eMet "Keeper" "take" F_Keeper_take_n (eVar i) aNil r S=.ok (.int row.dropLast.length) (chg S κ e (hs ++ [row]) row.dropLast):=(met_go (eVar_go hi) k.kp.of (kl_t _ _) rfl).trans (take_k k hl h)
theorem back_met {S:Sto} {b κ e i:Nat} {hs:List (List Int)} {row r':List Int} {r:Rho} (k:V S b κ e (hs ++ [r']) row) (hi:r[i]?=some (some (.ref κ))):eMet "Keeper" "back" F_Keeper_back_n (eVar i) aNil r S=.ok (.int r'.length) (chg S κ e hs r'):=(met_go (eVar_go hi) k.kp.of (kl_b _ _) rfl).trans (back_k k)
theorem turned_ok {S:Sto} {b κ e:Nat} {hs:List (List Int)} {row:List Int} (k:V S b κ e hs row) (hw:Rw row) (hl:hs.length < 900):∃ (S':Sto) (hs':List (List Int)) (row':List Int),F__law_turned_n [.ref b,.ref κ,.int 9] S=.ok .non S'∧V S' b κ e hs' row'∧Rw row'∧hs'.length≤hs.length + 1∧Fr [b,κ,e] S S':=by
 have z0:(0:Nat)≤sizeLine:=Nat.zero_le _
 have z2:(2:Nat)≤sizeLine:=by decide
 have mb:b ∈ [b,κ,e]:=.head _
 have mk:κ ∈ [b,κ,e]:=.tail _ (.head _)
 have me:e ∈ [b,κ,e]:=.tail _ (.tail _ (.head _))
 obtain ⟨q,S1,e1,q0,q1,g1⟩:=take_ok k.self (many:=6) (by decide) (by decide)
 have k1:=k.gr g1
 have h1:tV (eOp oLt (eVar 3) (eC (.int 4))) [some (.ref b),some (.ref κ),some (.int 9),some (.int q)] S1=.ok (decide (q < 4)) S1:=tV_go (eOp_go (eVar_go rfl) rfl rfl)
 have h2:tV (eOp oLt (eB fLen (aCons (eMet "Keeper" "row" F_Keeper_row (eVar 1) aNil) aNil)) (eVar 2)) [some (.ref b),some (.ref κ),some (.int 9),some (.int q)] S1=.ok (decide ((row.length:Int) < 9)) S1:=tV_go (eOp_go (eB_go (aCons_go (row_met k1.kp rfl) rfl) (len_i row)) (eVar_go rfl) rfl)
 have h3:tV (eOp oEqP (eVar 3) (eC (.int 4))) [some (.ref b),some (.ref κ),some (.int 9),some (.int q)] S1=.ok (decide (q=4)) S1:=tV_go (eOp_go (eVar_go rfl) rfl oEqP_i)
 have hq:oNeP S1 (tupI row) (.tup [])=some (.bl (!decide (row=[]))):=by
  have:=eqP_tints row []
  unfold oNeP
  rw [show (D.tup []:D)=.tup (([]:List Int).map .int) from rfl,this]; rfl
 have h4:tV (eOp oNeP (eMet "Keeper" "row" F_Keeper_row (eVar 1) aNil) (eTup aNil)) [some (.ref b),some (.ref κ),some (.int 9),some (.int q)] S1=.ok (!decide (row=[])) S1:=tV_go (eOp_go (row_met k1.kp rfl) (eTup_go (xs:=[]) rfl z0) hq)
 by_cases c:q < 4∧(row.length:Int) < 9
 ·rw [decide_eq_true c.1] at h1
  rw [decide_eq_true c.2] at h2
  have hm:∃ many:Int,0 < many∧many < 1073741824∧many≤50∧eOp oIx (eLst (aCons (eC (.int 6)) (aCons (eC (.int 50)) aNil))) (eOp oMod (eVar 3) (eC (.int 2))) [some (.ref b),some (.ref κ),some (.int 9),some (.int q)] S1=.ok (.int many) S1:=by
   have hmod:=oMod2 S1 q
   have hx:q % 2=0 ∨ q % 2=1:=by omega
   rcases hx with hx | hx
   ·rw [hx] at hmod
    exact ⟨6,by decide,by decide,by decide,eOp_go (eLst_go (xs:=[.int 6,.int 50]) rfl z2) (eOp_go (eVar_go rfl) rfl hmod) rfl⟩
   ·rw [hx] at hmod
    exact ⟨50,by decide,by decide,by decide,eOp_go (eLst_go (xs:=[.int 6,.int 50]) rfl z2) (eOp_go (eVar_go rfl) rfl hmod) rfl⟩
  obtain ⟨many,m0,m1,m2,hm⟩:=hm
  obtain ⟨x,S2,e2,x0,x1,g2⟩:=take_ok k1.self m0 m1
  have k2:=k1.gr g2
  refine ⟨_,_,_,fnM_nx (ρ:=[some (.ref b),some (.ref κ),some (.int 9),none]) rfl ((sSeq_go (sSet_go ((eCall_go (aCons_go (eVar_go rfl) (aCons_go rfl rfl))).trans e1))).trans ((sIf_t ((tAnd_t h1).trans h2)).trans (sDrop_go (put_met k1 k2 rfl (aCons_go (eOp_go rfl ((eCall_go (aCons_go (eVar_go rfl) (aCons_go hm rfl))).trans e2) rfl) rfl) (by omega) (by omega) (by omega))))),k2.chg _ _,⟨fun y hy=>?_,?_⟩,?_,(g1.fr mb).trans ((g2.fr mb).trans (chg_fr _ _ _ mk me))⟩
  ·rcases List.mem_append.mp hy with hy | hy
   ·exact hw.1 y hy
   ·rw [List.mem_singleton.mp hy]; omega
  ·rw [List.length_append]; show row.length + 1≤9; omega
  ·rw [List.length_append]; exact Nat.le_refl _
 ·have hf:PD.tAnd (tV (eOp oLt (eVar 3) (eC (.int 4)))) (tV (eOp oLt (eB fLen (aCons (eMet "Keeper" "row" F_Keeper_row (eVar 1) aNil) aNil)) (eVar 2))) [some (.ref b),some (.ref κ),some (.int 9),some (.int q)] S1=.ok false S1:=by
   by_cases c1:q < 4
   ·rw [decide_eq_true c1] at h1
    rw [decide_eq_false (fun c2=>c ⟨c1,c2⟩)] at h2
    exact (tAnd_t h1).trans h2
   ·rw [decide_eq_false c1] at h1
    exact tAnd_f h1
  by_cases c2:q=4∧row ≠ []
  ·rw [decide_eq_true c2.1] at h3
   rw [decide_eq_false c2.2] at h4
   refine ⟨_,_,_,fnM_nx (ρ:=[some (.ref b),some (.ref κ),some (.int 9),none]) rfl ((sSeq_go (sSet_go ((eCall_go (aCons_go (eVar_go rfl) (aCons_go rfl rfl))).trans e1))).trans ((sIf_f hf).trans ((sIf_t ((tAnd_t h3).trans h4)).trans (sDrop_go (take_met k1 rfl (by omega) c2.2))))),k1.chg _ _,⟨fun y hy=>hw.1 y ((List.dropLast_sublist row).mem hy),?_⟩,?_,(g1.fr mb).trans (chg_fr _ _ _ mk me)⟩
   ·rw [List.length_dropLast]; have:=hw.2; omega
   ·rw [List.length_append]; exact Nat.le_refl _
  ·have hf2:PD.tAnd (tV (eOp oEqP (eVar 3) (eC (.int 4)))) (tV (eOp oNeP (eMet "Keeper" "row" F_Keeper_row (eVar 1) aNil) (eTup aNil))) [some (.ref b),some (.ref κ),some (.int 9),some (.int q)] S1=.ok false S1:=by
    by_cases c1:q=4
    ·rw [decide_eq_true c1] at h3
     have:row=[]:=Classical.byContradiction fun z=>c2 ⟨c1,z⟩
     rw [decide_eq_true this] at h4
     exact (tAnd_t h3).trans h4
    ·rw [decide_eq_false c1] at h3
     exact tAnd_f h3
   exact ⟨S1,hs,row,fnM_nx (ρ:=[some (.ref b),some (.ref κ),some (.int 9),none]) rfl ((sSeq_go (sSet_go ((eCall_go (aCons_go (eVar_go rfl) (aCons_go rfl rfl))).trans e1))).trans ((sIf_f hf).trans ((sIf_f hf2).trans rfl))),k1,hw,by omega,g1.fr mb⟩
noncomputable abbrev lapB:SM:=(sSeq (sSet 6 (eOp oMod (eVar 4) (eC (.int 2)))) (sSeq (sSet 7 (eCall F__law_told_n (aCons (eOp oIx (eVar 3) (eOp oSub (eC (.int 1)) (eVar 6))) (aCons (eVar 4) aNil)))) (sSeq (sDrop (eCall F__law_turned_n (aCons (eVar 2) (aCons (eOp oIx (eVar 3) (eVar 6)) (aCons (eC (.int 9)) aNil))))) (sIf (tV (eOp oNeP (eCall F__law_told_n (aCons (eOp oIx (eVar 3) (eOp oSub (eC (.int 1)) (eVar 6))) (aCons (eVar 4) aNil))) (eVar 7))) (sRet (eC (.bl false))) sSkip))))
theorem lap_turn {S:Sto} {b κ e κ' e':Nat} {hs hs':List (List Int)} {row row':List Int} (k:V S b κ e hs row) (k':V S b κ' e' hs' row') (hw:Rw row) (hw':Rw row') (hl:hs.length < 900) (dis:(κ ≠ κ'∧κ ≠ e')∧e ≠ κ'∧e ≠ e') {i:Nat} {q:Int} (hq:(i:Int) % 2=q) {L:D} (h1:∀ S,oIx S L (.int q)=some (.ref κ)) (h2:∀ S,oIx S L (.int (1 - q))=some (.ref κ')) (r0 r1 r5 r6 r7 r8 r9 r10:Option D):
  ∃ (S':Sto) (hs1:List (List Int)) (row1:List Int) (a7:Option D),lapB [r0,r1,some (.ref b),some L,some (.int i),r5,r6,r7,r8,r9,r10] S=.ok (.nx [r0,r1,some (.ref b),some L,some (.int i),r5,some (.int q),a7,r8,r9,r10]) S'∧V S' b κ e hs1 row1∧V S' b κ' e' hs' row'∧Rw row1∧hs1.length≤hs.length + 1:=by
 have hmod:∀ S,oMod S (.int i) (.int 2)=some (.int q):=fun S=>by rw [← hq]; exact oMod2 S i
 obtain ⟨n,o,ht⟩:=tells hw'.ten hw'.row (i:Int)
 obtain ⟨S1,e1,p1⟩:=told_ok ht hw'.ten hw'.row k'.kp
 have k1:=k.pre p1
 have k1':=k'.pre p1
 obtain ⟨S2,hs1,row1,e2,k2,hw2,hl2,f2⟩:=turned_ok k1 hw hl
 obtain ⟨⟨d1,d2⟩,d3,d4⟩:=dis
 obtain ⟨n1,n2,n3⟩:=k'.ne
 have k2':V S2 b κ' e' hs' row':=k1'.fr f2 k2.bx (by simp; exact ⟨Ne.symm n1,Ne.symm d1,Ne.symm d3⟩) (by simp; exact ⟨Ne.symm n2,Ne.symm d2,Ne.symm d4⟩)
 obtain ⟨S3,e3,p3⟩:=told_ok ht hw'.ten hw'.row k2'.kp
 exact ⟨S3,hs1,row1,_,(sSeq_go (sSet_go (eOp_go (eVar_go rfl) rfl (hmod S)))).trans ((sSeq_go (sSet_go ((eCall_go (aCons_go (eOp_go (eVar_go rfl) (eOp_go rfl (eVar_go rfl) rfl) (h2 _)) (aCons_go (eVar_go rfl) rfl))).trans e1))).trans ((sSeq_go (sDrop_go ((eCall_go (aCons_go (eVar_go rfl) (aCons_go (eOp_go (eVar_go rfl) (eVar_go rfl) (h1 _)) (aCons_go rfl rfl)))).trans e2))).trans ((sIf_f (tV_go (eOp_go ((eCall_go (aCons_go (eOp_go (eVar_go rfl) (eOp_go rfl (eVar_go rfl) rfl) (h2 _)) (aCons_go (eVar_go rfl) rfl))).trans e3) (eVar_go rfl) (ne_told _ _ _ _ _ _)))).trans rfl))),k2.pre p3,k2'.pre p3,hw2,hl2⟩
theorem lap_loop {b κ e κ' e':Nat} (dis:(κ ≠ κ'∧κ ≠ e')∧e ≠ κ'∧e ≠ e') (r0 r1 r5 r8 r9 r10:Option D):∀ (l:List Nat) (S:Sto) (hs hs':List (List Int)) (row row':List Int) (r4 r6 r7:Option D),V S b κ e hs row→V S b κ' e' hs' row'→Rw row→Rw row'→hs.length + hs'.length + l.length < 900→
  ∃ (S':Sto) (hs1 hs1':List (List Int)) (row1 row1':List Int) (a4 a6 a7:Option D),forL (.nm 4) lapB (l.map fun (i:Nat)=>D.int i) [r0,r1,some (.ref b),some (.lst [.ref κ,.ref κ']),r4,r5,r6,r7,r8,r9,r10] S=.ok (.nx [r0,r1,some (.ref b),some (.lst [.ref κ,.ref κ']),a4,r5,a6,a7,r8,r9,r10]) S'∧V S' b κ e hs1 row1∧V S' b κ' e' hs1' row1'∧Rw row1∧Rw row1'∧hs1.length + hs1'.length < 900
 | [],S,hs,hs',row,row',r4,r6,r7,k,k',hw,hw',hl=>⟨S,hs,hs',row,row',r4,r6,r7,rfl,k,k',hw,hw',hl⟩
 | i :: l,S,hs,hs',row,row',r4,r6,r7,k,k',hw,hw',hl=>by
  rw [List.length_cons] at hl
  obtain ⟨⟨d1,d2⟩,d3,d4⟩:=dis
  have hx:(i:Int) % 2=0 ∨ (i:Int) % 2=1:=by omega
  rcases hx with hx | hx
  ·obtain ⟨S1,hs1,row1,a7,e1,k1,k1',hw1,l1⟩:=lap_turn k k' hw hw' (by omega) ⟨⟨d1,d2⟩,d3,d4⟩ hx (L:=.lst [.ref κ,.ref κ']) (fun _=>rfl) (fun _=>rfl) r0 r1 r5 r6 r7 r8 r9 r10
   obtain ⟨S2,A,A',B,B',c4,c6,c7,e2,c⟩:=lap_loop ⟨⟨d1,d2⟩,d3,d4⟩ r0 r1 r5 r8 r9 r10 l S1 hs1 hs' row1 row' (some (.int i)) (some (.int 0)) a7 k1 k1' hw1 hw' (by omega)
   exact ⟨S2,A,A',B,B',c4,c6,c7,(forL_cons (r1:=[r0,r1,some (.ref b),some (.lst [.ref κ,.ref κ']),some (.int i),r5,r6,r7,r8,r9,r10]) rfl e1).trans e2,c⟩
  ·obtain ⟨S1,hs1,row1,a7,e1,k1,k1',hw1,l1⟩:=lap_turn k' k hw' hw (by omega) ⟨⟨Ne.symm d1,Ne.symm d3⟩,Ne.symm d2,Ne.symm d4⟩ hx (L:=.lst [.ref κ,.ref κ']) (fun _=>rfl) (fun _=>rfl) r0 r1 r5 r6 r7 r8 r9 r10
   obtain ⟨S2,A,A',B,B',c4,c6,c7,e2,c⟩:=lap_loop ⟨⟨d1,d2⟩,d3,d4⟩ r0 r1 r5 r8 r9 r10 l S1 hs hs1 row row1 (some (.int i)) (some (.int 1)) a7 k1' k1 hw hw1 (by omega)
   exact ⟨S2,A,A',B,B',c4,c6,c7,(forL_cons (r1:=[r0,r1,some (.ref b),some (.lst [.ref κ,.ref κ']),some (.int i),r5,r6,r7,r8,r9,r10]) rfl e1).trans e2,c⟩
noncomputable abbrev putB:SM:=(sDrop (eMet "Keeper" "put" F_Keeper_put_n (eVar 8) (aCons (eVar 9) aNil)))
theorem put_loop {b κ e:Nat} (r0 r1 r2 r3 r4 r5 r6 r7 r10:Option D):∀ (l:List Int) (S:Sto) (hs:List (List Int)) (row:List Int) (r9:Option D),V S b κ e hs row→(∀ x ∈ l,1≤x)→row.length + l.length≤9→hs.length + l.length < 900→
  ∃ (S':Sto) (hs':List (List Int)) (a9:Option D),forL (.nm 9) putB (l.map .int) [r0,r1,r2,r3,r4,r5,r6,r7,some (.ref κ),r9,r10] S=.ok (.nx [r0,r1,r2,r3,r4,r5,r6,r7,some (.ref κ),a9,r10]) S'∧V S' b κ e hs' (row ++ l)∧Fr [b,κ,e] S S'
 | [],S,hs,row,r9,k,_,_,_=>⟨S,hs,r9,rfl,by rw [List.append_nil]; exact k,Fr.refl _ S⟩
 | x :: l,S,hs,row,r9,k,hx,h9,hl=>by
  rw [List.length_cons] at h9 hl
  obtain ⟨S2,hs2,a9,e2,k2,f2⟩:=put_loop r0 r1 r2 r3 r4 r5 r6 r7 r10 l (chg S κ e (hs ++ [row]) (row ++ [x])) (hs ++ [row]) (row ++ [x]) (some (.int x)) (k.chg _ _) (fun y hy=>hx y (.tail _ hy)) (by rw [List.length_append]; show row.length + 1 + l.length≤9; omega) (by rw [List.length_append]; show hs.length + 1 + l.length < 900; omega)
  rw [List.append_assoc] at k2
  exact ⟨S2,hs2,a9,(forL_cons (r1:=[r0,r1,r2,r3,r4,r5,r6,r7,some (.ref κ),some (.int x),r10]) rfl (sDrop_go (put_met k k rfl (aCons_go (eVar_go rfl) rfl) (hx x (.head _)) (by omega) (by omega)))).trans e2,k2,(chg_fr S _ _ (.tail _ (.head _)) (.tail _ (.tail _ (.head _)))).trans f2⟩
noncomputable abbrev keepB:SM:=(sSeq (sSet 8 (eMak "Keeper" F_Keeper___init__)) (sSeq (sFor (aSeq (eMet "Keeper" "row" F_Keeper_row (eVar 5) aNil) itSeq) (.nm 9) (sDrop (eMet "Keeper" "put" F_Keeper_put_n (eVar 8) (aCons (eVar 9) aNil)))) (sSeq (sSet 10 (eOp oSub (eCall F__law_take (aCons (eVar 2) (aCons (eC (.int 31)) aNil))) (eC (.int 15)))) (sSeq (sSet 7 (eCall F__law_told_n (aCons (eVar 5) (aCons (eVar 10) aNil)))) (sSeq (sIf (PD.tOr (tV (eOp oNeP (eCall F__law_told_n (aCons (eVar 8) (aCons (eVar 10) aNil))) (eVar 7))) (tV (eOp oNeP (eMet "Keeper" "ways" F_Keeper_ways_n (eVar 5) (aCons (eVar 10) aNil)) (eCall F_many_met_n (aCons (eMet "Keeper" "row" F_Keeper_row (eVar 5) aNil) (aCons (eVar 10) aNil)))))) (sRet (eC (.bl false))) sSkip) (sSeq (sIf (tV (eOp oNeP (eMet "Keeper" "first" F_Keeper_first_n (eVar 5) (aCons (eVar 10) aNil)) (eCall F_first_met_n (aCons (eMet "Keeper" "row" F_Keeper_row (eVar 5) aNil) (aCons (eVar 10) aNil))))) (sRet (eC (.bl false))) sSkip) (sSeq (sDrop (eMet "Keeper" "put" F_Keeper_put_n (eVar 5) (aCons (eOp oAdd (eC (.int 1)) (eCall F__law_take (aCons (eVar 2) (aCons (eC (.int 30)) aNil)))) aNil))) (sSeq (sIf (PD.tNot (tV (eChain oLt oLe (eOp oIx (eVar 7) (eC (.int 1))) (eMet "Keeper" "worths_many" F_Keeper_worths_many (eVar 5) aNil) (eOp oMul (eC (.int 2)) (eOp oIx (eVar 7) (eC (.int 1))))))) (sRet (eC (.bl false))) sSkip) (sSeq (sDrop (eMet "Keeper" "take" F_Keeper_take_n (eVar 5) aNil)) (sSeq (sIf (PD.tOr (tV (eOp oNeP (eCall F__law_told_n (aCons (eVar 5) (aCons (eVar 10) aNil))) (eVar 7))) (PD.tOr (tV (eOp oNeP (eMet "Keeper" "back" F_Keeper_back_n (eVar 5) aNil) (eOp oAdd (eB fLen (aCons (eOp oIx (eVar 7) (eC (.int 0))) aNil)) (eC (.int 1))))) (tV (eOp oNeP (eMet "Keeper" "back" F_Keeper_back_n (eVar 5) aNil) (eB fLen (aCons (eOp oIx (eVar 7) (eC (.int 0))) aNil)))))) (sRet (eC (.bl false))) sSkip) (sIf (tV (eOp oNeP (eCall F__law_told_n (aCons (eVar 5) (aCons (eVar 10) aNil))) (eVar 7))) (sRet (eC (.bl false))) sSkip)))))))))))
theorem keep_ok {S:Sto} {b κ e:Nat} {hs:List (List Int)} {row:List Int} (k:V S b κ e hs row) (hw:Rw row) (hl:hs.length < 900) (r0 r1 r3 r4 r6 r7 r8 r9 r10:Option D):
  ∃ (S':Sto) (a7 a8 a9 a10:Option D),keepB [r0,r1,some (.ref b),r3,r4,some (.ref κ),r6,r7,r8,r9,r10] S=.ok (.nx [r0,r1,some (.ref b),r3,r4,some (.ref κ),r6,a7,a8,a9,a10]) S'∧(∃ n,S'[b]?=some (.lst [.int n]))∧Fr [b,κ,e] S S':=by
 have mb:b ∈ [b,κ,e]:=.head _
 have mk:κ ∈ [b,κ,e]:=.tail _ (.head _)
 have me:e ∈ [b,κ,e]:=.tail _ (.tail _ (.head _))
 obtain ⟨n1,n2,n3⟩:=k.ne
 have lb:b < S.length:=by obtain ⟨n,hn⟩:=k.bx; exact lt_of_some hn
 have lk:=lt_of_some k.kp
 have le:=lt_of_some k.er
 have hr:=hw.row
 have h10:=hw.ten
 have p1:Pre S (newK S):=Pre.app _ _
 have k1:=k.pre p1
 have v1:V (newK S) b S.length (S.length + 1) [] []:=⟨k1.bx,(new_at S).1,(new_at S).2,by omega,by omega,by omega⟩
 obtain ⟨S2,hs3,a9,e2,v2,f2⟩:=put_loop r0 r1 (some (.ref b)) r3 r4 (some (.ref κ)) r6 r7 r10 row (newK S) [] [] r9 v1 hw.1 (by show 0 + row.length≤9; have:=hw.2; omega) (by show 0 + row.length < 900; omega)
 rw [List.nil_append] at v2
 have k2:V S2 b κ e hs row:=k1.fr f2 v2.bx (by simp; omega) (by simp; omega)
 have F2:Fr [b,κ,e] S S2:=Fr.weak p1.fr f2 fun i hi hlt=>by
  simp only [List.mem_cons,List.not_mem_nil,or_false] at hi
  rcases hi with rfl | rfl | rfl
  ·exact mb
  ·omega
  ·omega
 obtain ⟨q,S3,e3,q0,q1,g3⟩:=take_ok k2.self (many:=31) (by decide) (by decide)
 have k3:=k2.gr g3
 have v3:=v2.gr g3
 obtain ⟨n,o,ht⟩:=tells h10 hr (q - 15)
 obtain ⟨S4,e4,p4⟩:=told_ok ht h10 hr k3.kp
 have k4:=k3.pre p4
 have v4:=v3.pre p4
 obtain ⟨S5,e5,p5⟩:=told_ok ht h10 hr v4.kp
 have k5:=k4.pre p5
 obtain ⟨S6,e6,p6⟩:=ways_ok k5.kp h10 hr (q - 15)
 have k6:=k5.pre p6
 obtain ⟨S7,e7,p7⟩:=way_ok h10 hr (q - 15) S6
 have k7:=k6.pre p7
 obtain ⟨S8,e8,p8⟩:=firstK_ok k7.kp ht.2
 have k8:=k7.pre p8
 obtain ⟨S9,e9,p9⟩:=ht.2 S8
 have k9:=k8.pre p9
 obtain ⟨x,S10,e10,x0,x1,g10⟩:=take_ok k9.self (many:=30) (by decide) (by decide)
 have k10:=k9.gr g10
 have k11:=k10.chg (hs ++ [row]) (row ++ [1 + x])
 have l11:(row ++ [1 + x]).length=row.length + 1:=by rw [List.length_append]; rfl
 obtain ⟨m,S12,e12,p12,hm⟩:=worths_ok k11.kp (by rw [l11]; have:=hw.2; omega)
 have k12:=k11.pre p12
 obtain ⟨m1,m2⟩:=NW.more (by omega) ht.1 hm
 have k13:=k12.chg ((hs ++ [row]) ++ [row ++ [1 + x]]) (row ++ [1 + x]).dropLast
 have e13:=take_met (i:=5) (r:=[r0,r1,some (.ref b),r3,r4,some (.ref κ),r6,some (toldD row n (wayN row (q - 15)) o (timesL row (q - 15))),some (.ref S.length),a9,some (.int (q - 15))]) k12 rfl (by rw [List.length_append]; show hs.length + 1 < 1000; omega) (by simp)
 rw [List.dropLast_concat] at k13 e13
 obtain ⟨S14,e14,p14⟩:=told_ok ht h10 hr k13.kp
 have k14:=k13.pre p14
 have k15:=k14.chg (hs ++ [row]) (row ++ [1 + x])
 have k16:=k15.chg hs row
 obtain ⟨S17,e17,p17⟩:=told_ok ht h10 hr k16.kp
 have hix0:∀ S,oIx S (toldD row n (wayN row (q - 15)) o (timesL row (q - 15))) (.int 0)=some (tupI row):=fun _=>rfl
 have hix1:∀ S,oIx S (toldD row n (wayN row (q - 15)) o (timesL row (q - 15))) (.int 1)=some (.int n):=fun _=>rfl
 have hlt:∀ S,oLt S (.int n) (.int m)=some (.bl true):=fun S=>by
  show some (D.bl (decide ((n:Int) < m)))=_
  rw [decide_eq_true (by omega)]
 have hle:∀ S,oLe S (.int m) (.int (2 * n))=some (.bl true):=fun S=>by
  show some (D.bl (decide ((m:Int)≤2 * n)))=_
  rw [decide_eq_true (by omega)]
 have hadd:∀ S,oAdd S (.int row.length) (.int 1)=some (.int (row ++ [1 + x]).length):=fun S=>by rw [l11]; rfl
 refine ⟨S17,some (toldD row n (wayN row (q - 15)) o (timesL row (q - 15))),some (.ref S.length),a9,some (.int (q - 15)),?_,(k16.pre p17).bx,?_⟩
 ·refine (sSeq_go (sSet_go (mak_ok S _))).trans ((sSeq_go ((sFor_seq (row_met k1.kp rfl) rfl).trans e2)).trans ?_)
  refine (sSeq_go (sSet_go (eOp_go ((eCall_go (aCons_go (eVar_go rfl) (aCons_go rfl rfl))).trans e3) rfl rfl))).trans ?_
  refine (sSeq_go (sSet_go ((eCall_go (aCons_go (eVar_go rfl) (aCons_go (eVar_go rfl) rfl))).trans e4))).trans ?_
  refine (sSeq_go ((sIf_f ((tOr_f (tV_go (eOp_go ((eCall_go (aCons_go (eVar_go rfl) (aCons_go (eVar_go rfl) rfl))).trans e5) (eVar_go rfl) (ne_told _ _ _ _ _ _)))).trans (tV_go (eOp_go ((met_go (eVar_go rfl) k5.kp.of (kl_y _ _) (aCons_go (eVar_go rfl) rfl)).trans e6) ((eCall_go (aCons_go (row_met k6.kp rfl) (aCons_go (eVar_go rfl) rfl))).trans e7) (ne_int _ _))))).trans rfl)).trans ?_
  refine (sSeq_go ((sIf_f (tV_go (eOp_go ((met_go (eVar_go rfl) k7.kp.of (kl_f _ _) (aCons_go (eVar_go rfl) rfl)).trans e8) ((eCall_go (aCons_go (row_met k8.kp rfl) (aCons_go (eVar_go rfl) rfl))).trans e9) (ne_f _ _)))).trans rfl)).trans ?_
  refine (sSeq_go (sDrop_go (put_met k9 k10 rfl (aCons_go (eOp_go rfl ((eCall_go (aCons_go (eVar_go rfl) (aCons_go rfl rfl))).trans e10) rfl) rfl) (by omega) (by omega) (by have:=hw.2; omega)))).trans ?_
  refine (sSeq_go ((sIf_f (tNot_go (b:=true) (tV_go (eChain_t (eOp_go (eVar_go rfl) rfl (hix1 _)) ((met_go (eVar_go rfl) k11.kp.of (kl_w _ _) rfl).trans e12) (hlt _) (eOp_go rfl (eOp_go (eVar_go rfl) rfl (hix1 _)) (oMul_i (.inl ⟨by omega,by omega⟩))) (hle _))))).trans rfl)).trans ?_
  refine (sSeq_go (sDrop_go e13)).trans ?_
  refine (sSeq_go ((sIf_f ((tOr_f (tV_go (eOp_go ((eCall_go (aCons_go (eVar_go rfl) (aCons_go (eVar_go rfl) rfl))).trans e14) (eVar_go rfl) (ne_told _ _ _ _ _ _)))).trans ((tOr_f (tV_go (eOp_go (back_met k14 rfl) (eOp_go (eB_go (aCons_go (eOp_go (eVar_go rfl) rfl (hix0 _)) rfl) (len_i row)) rfl (hadd _)) (ne_int _ _)))).trans (tV_go (eOp_go (back_met k15 rfl) (eB_go (aCons_go (eOp_go (eVar_go rfl) rfl (hix0 _)) rfl) (len_i row)) (ne_int _ _)))))).trans rfl)).trans ?_
  exact (sIf_f (tV_go (eOp_go ((eCall_go (aCons_go (eVar_go rfl) (aCons_go (eVar_go rfl) rfl))).trans e17) (eVar_go rfl) (ne_told _ _ _ _ _ _)))).trans rfl
 ·have F9:Fr [b,κ,e] S S9:=F2.trans ((g3.fr mb).trans (p4.trans (p5.trans (p6.trans (p7.trans (p8.trans p9))))).fr)
  have F12:=F9.trans ((g10.fr mb).trans ((chg_fr _ (hs ++ [row]) (row ++ [1 + x]) mk me).trans p12.fr))
  have F14:=F12.trans ((chg_fr _ ((hs ++ [row]) ++ [row ++ [1 + x]]) row mk me).trans p14.fr)
  exact F14.trans ((chg_fr _ (hs ++ [row]) (row ++ [1 + x]) mk me).trans ((chg_fr _ hs row mk me).trans p17.fr))
noncomputable abbrev lawB:SM:=(sSeq (sSet 2 (eCall F__law_box (aCons (eVar 0) (aCons (eVar 1) aNil)))) (sSeq (sSet 3 (eLst (aCons (eMak "Keeper" F_Keeper___init__) (aCons (eMak "Keeper" F_Keeper___init__) aNil)))) (sSeq (sFor (aRange1 (aCons (eC (.int 12)) aNil)) (.nm 4) (sSeq (sSet 6 (eOp oMod (eVar 4) (eC (.int 2)))) (sSeq (sSet 7 (eCall F__law_told_n (aCons (eOp oIx (eVar 3) (eOp oSub (eC (.int 1)) (eVar 6))) (aCons (eVar 4) aNil)))) (sSeq (sDrop (eCall F__law_turned_n (aCons (eVar 2) (aCons (eOp oIx (eVar 3) (eVar 6)) (aCons (eC (.int 9)) aNil))))) (sIf (tV (eOp oNeP (eCall F__law_told_n (aCons (eOp oIx (eVar 3) (eOp oSub (eC (.int 1)) (eVar 6))) (aCons (eVar 4) aNil))) (eVar 7))) (sRet (eC (.bl false))) sSkip))))) (sFor (aSeq (eVar 3) itSeq) (.nm 5) (sSeq (sSet 8 (eMak "Keeper" F_Keeper___init__)) (sSeq (sFor (aSeq (eMet "Keeper" "row" F_Keeper_row (eVar 5) aNil) itSeq) (.nm 9) (sDrop (eMet "Keeper" "put" F_Keeper_put_n (eVar 8) (aCons (eVar 9) aNil)))) (sSeq (sSet 10 (eOp oSub (eCall F__law_take (aCons (eVar 2) (aCons (eC (.int 31)) aNil))) (eC (.int 15)))) (sSeq (sSet 7 (eCall F__law_told_n (aCons (eVar 5) (aCons (eVar 10) aNil)))) (sSeq (sIf (PD.tOr (tV (eOp oNeP (eCall F__law_told_n (aCons (eVar 8) (aCons (eVar 10) aNil))) (eVar 7))) (tV (eOp oNeP (eMet "Keeper" "ways" F_Keeper_ways_n (eVar 5) (aCons (eVar 10) aNil)) (eCall F_many_met_n (aCons (eMet "Keeper" "row" F_Keeper_row (eVar 5) aNil) (aCons (eVar 10) aNil)))))) (sRet (eC (.bl false))) sSkip) (sSeq (sIf (tV (eOp oNeP (eMet "Keeper" "first" F_Keeper_first_n (eVar 5) (aCons (eVar 10) aNil)) (eCall F_first_met_n (aCons (eMet "Keeper" "row" F_Keeper_row (eVar 5) aNil) (aCons (eVar 10) aNil))))) (sRet (eC (.bl false))) sSkip) (sSeq (sDrop (eMet "Keeper" "put" F_Keeper_put_n (eVar 5) (aCons (eOp oAdd (eC (.int 1)) (eCall F__law_take (aCons (eVar 2) (aCons (eC (.int 30)) aNil)))) aNil))) (sSeq (sIf (PD.tNot (tV (eChain oLt oLe (eOp oIx (eVar 7) (eC (.int 1))) (eMet "Keeper" "worths_many" F_Keeper_worths_many (eVar 5) aNil) (eOp oMul (eC (.int 2)) (eOp oIx (eVar 7) (eC (.int 1))))))) (sRet (eC (.bl false))) sSkip) (sSeq (sDrop (eMet "Keeper" "take" F_Keeper_take_n (eVar 5) aNil)) (sSeq (sIf (PD.tOr (tV (eOp oNeP (eCall F__law_told_n (aCons (eVar 5) (aCons (eVar 10) aNil))) (eVar 7))) (PD.tOr (tV (eOp oNeP (eMet "Keeper" "back" F_Keeper_back_n (eVar 5) aNil) (eOp oAdd (eB fLen (aCons (eOp oIx (eVar 7) (eC (.int 0))) aNil)) (eC (.int 1))))) (tV (eOp oNeP (eMet "Keeper" "back" F_Keeper_back_n (eVar 5) aNil) (eB fLen (aCons (eOp oIx (eVar 7) (eC (.int 0))) aNil)))))) (sRet (eC (.bl false))) sSkip) (sIf (tV (eOp oNeP (eCall F__law_told_n (aCons (eVar 5) (aCons (eVar 10) aNil))) (eVar 7))) (sRet (eC (.bl false))) sSkip)))))))))))))))
theorem law_turn (ns:List Int) (k:Nat) (S:Sto) (r2 r3 r4 r5 r6 r7 r8 r9 r10:Option D):∃ (S':Sto) (a2 a3 a4 a5 a6 a7 a8 a9 a10:Option D),lawB [some (.fz (ns.map .int)),some (.int k),r2,r3,r4,r5,r6,r7,r8,r9,r10] S=.ok (.nx [some (.fz (ns.map .int)),some (.int k),a2,a3,a4,a5,a6,a7,a8,a9,a10]) S':=by
 have z2:(2:Nat)≤sizeLine:=by decide
 obtain ⟨v,e0⟩:=box_ok ns k S
 generalize hS1:S ++ [SO.lst [.int v]]=S1 at e0
 have hb:S1[S.length]?=some (.lst [.int v]):=by rw [← hS1]; simp
 have l1:S1.length=S.length + 1:=by rw [← hS1]; simp
 have l2:(newK S1).length=S1.length + 2:=by simp
 have pa:Pre S1 (newK S1):=Pre.app _ _
 have pb:Pre (newK S1) (newK (newK S1)):=Pre.app _ _
 have hb2:(newK S1)[S.length]?=some (.lst [.int v]):=(pa.old _ (by omega)).trans hb
 have v1:V (newK S1) S.length S1.length (S1.length + 1) [] []:=⟨⟨v,hb2⟩,(new_at S1).1,(new_at S1).2,by omega,by omega,by omega⟩
 have v2:=v1.pre pb
 have w2:V (newK (newK S1)) S.length (newK S1).length ((newK S1).length + 1) [] []:=⟨v2.bx,(new_at _).1,(new_at _).2,by omega,by omega,by omega⟩
 have hk:eLst (aCons (eMak "Keeper" F_Keeper___init__) (aCons (eMak "Keeper" F_Keeper___init__) aNil)) [some (.fz (ns.map .int)),some (.int k),some (.ref S.length),r3,r4,r5,r6,r7,r8,r9,r10] S1=.ok (.lst [.ref S1.length,.ref (newK S1).length]) (newK (newK S1)):=eLst_go (xs:=[.ref S1.length,.ref (newK S1).length]) (aCons_go (mak_ok S1 _) (aCons_go (mak_ok (newK S1) _) rfl)) z2
 have dis:(S1.length ≠ (newK S1).length∧S1.length ≠ (newK S1).length + 1)∧S1.length + 1 ≠ (newK S1).length∧S1.length + 1 ≠ (newK S1).length + 1:=by rw [l2]; omega
 obtain ⟨S3,hs,hs',row,row',a4,a6,a7,e3,k3,k3',hw,hw',hl⟩:=lap_loop dis (some (.fz (ns.map .int))) (some (.int k)) r5 r8 r9 r10 (List.range 12) _ [] [] [] [] r4 r6 r7 v2 w2 Rw.nil Rw.nil (by decide)
 obtain ⟨S4,b7,b8,b9,b10,e4,hb4,f4⟩:=keep_ok k3 hw (by omega) (some (.fz (ns.map .int))) (some (.int k)) (some (.lst [.ref S1.length,.ref (newK S1).length])) a4 a6 a7 r8 r9 r10
 obtain ⟨n1,n2,n3⟩:=k3'.ne
 obtain ⟨⟨d1,d2⟩,d3,d4⟩:=dis
 have k4:=k3'.fr f4 hb4 (by simp only [List.mem_cons,List.not_mem_nil,or_false,not_or]; exact ⟨Ne.symm n1,Ne.symm d1,Ne.symm d3⟩) (by simp only [List.mem_cons,List.not_mem_nil,or_false,not_or]; exact ⟨Ne.symm n2,Ne.symm d2,Ne.symm d4⟩)
 obtain ⟨S5,c7,c8,c9,c10,e5,_,_⟩:=keep_ok k4 hw' (by omega) (some (.fz (ns.map .int))) (some (.int k)) (some (.lst [.ref S1.length,.ref (newK S1).length])) a4 a6 b7 b8 b9 b10
 have ef:forL (.nm 5) keepB [.ref S1.length,.ref (newK S1).length] [some (.fz (ns.map .int)),some (.int k),some (.ref S.length),some (.lst [.ref S1.length,.ref (newK S1).length]),a4,r5,a6,a7,r8,r9,r10] S3=.ok (.nx [some (.fz (ns.map .int)),some (.int k),some (.ref S.length),some (.lst [.ref S1.length,.ref (newK S1).length]),a4,some (.ref (newK S1).length),a6,c7,c8,c9,c10]) S5:=
  (forL_cons (r1:=[some (.fz (ns.map .int)),some (.int k),some (.ref S.length),some (.lst [.ref S1.length,.ref (newK S1).length]),a4,some (.ref S1.length),a6,a7,r8,r9,r10]) rfl e4).trans ((forL_cons (r1:=[some (.fz (ns.map .int)),some (.int k),some (.ref S.length),some (.lst [.ref S1.length,.ref (newK S1).length]),a4,some (.ref (newK S1).length),a6,b7,b8,b9,b10]) rfl e5).trans rfl)
 refine ⟨S5,_,_,_,_,_,_,_,_,_,(sSeq_go (sSet_go ((eCall_go (aCons_go (eVar_go rfl) (aCons_go (eVar_go rfl) rfl))).trans e0))).trans ((sSeq_go (sSet_go hk)).trans ((sSeq_go ((sFor_go (aRange1_ok (n:=12) rfl (by decide))).trans e3)).trans ((sFor_seq (eVar_go rfl) rfl).trans ef)))⟩
theorem law_loop (ns:List Int):∀ (l:List Nat) (S:Sto) (r1 r2 r3 r4 r5 r6 r7 r8 r9 r10:Option D),∃ (S':Sto) (ρ:Rho),forL (.nm 1) lawB (l.map fun (i:Nat)=>D.int i) [some (.fz (ns.map .int)),r1,r2,r3,r4,r5,r6,r7,r8,r9,r10] S=.ok (.nx ρ) S'
 | [],S,r1,r2,r3,r4,r5,r6,r7,r8,r9,r10=>⟨S,_,rfl⟩
 | k :: l,S,r1,r2,r3,r4,r5,r6,r7,r8,r9,r10=>by
  obtain ⟨S1,a2,a3,a4,a5,a6,a7,a8,a9,a10,e1⟩:=law_turn ns k S r2 r3 r4 r5 r6 r7 r8 r9 r10
  obtain ⟨S2,ρ,e2⟩:=law_loop ns l S1 (some (.int k)) a2 a3 a4 a5 a6 a7 a8 a9 a10
  exact ⟨S2,ρ,(forL_cons (r1:=[some (.fz (ns.map .int)),some (.int k),r2,r3,r4,r5,r6,r7,r8,r9,r10]) rfl e1).trans e2⟩
theorem law_true (ns:List Int) (hn:ns.length≤63):∃ S,F_law [.fz (ns.map .int)] []=.ok (.bl true) S:=by
 obtain ⟨n,hg,hn3⟩:=laps_le ns 2 hn (by decide) [some (.fz (ns.map .int)),none,none,none,none,none,none,none,none,none,none] rfl []
 obtain ⟨S,ρ,e⟩:=law_loop ns (List.range n) [] none none none none none none none none none none
 exact ⟨S,fnM_rt (ρ:=[some (.fz (ns.map .int)),none,none,none,none,none,none,none,none,none,none]) rfl ((sSeq_go ((sFor_go hg).trans e)).trans (sRet_go rfl))⟩
set_option maxHeartbeats 4000000
theorem boo_all:bootBuiltins "all" = some (.builtin "all"):=by decide +kernel
theorem boo_bool:bootBuiltins "bool" = some (.type "bool"):=by decide +kernel
theorem boo_divmod:bootBuiltins "divmod" = some (.builtin "divmod"):=by decide +kernel
theorem boo_int:bootBuiltins "int" = some (.type "int"):=by decide +kernel
theorem boo_isinstance:bootBuiltins "isinstance" = some (.builtin "isinstance"):=by decide +kernel
theorem boo_len:bootBuiltins "len" = some (.builtin "len"):=by decide +kernel
theorem boo_max:bootBuiltins "max" = some (.builtin "max"):=by decide +kernel
theorem boo_min:bootBuiltins "min" = some (.builtin "min"):=by decide +kernel
theorem boo_sum:bootBuiltins "sum" = some (.builtin "sum"):=by decide +kernel
theorem boo_tuple:bootBuiltins "tuple" = some (.type "tuple"):=by decide +kernel
structure Txt (K:PySem.W.Frag) (mg:Str→Option Value):Prop where
 cl:Cls K raisedX askedX isaX
 kc_Keeper:ClsI K "Keeper"
 na_Keeper_earlier:NoA K "Keeper" "earlier"
 na_Keeper_numbers:NoA K "Keeper" "numbers"
 b_all:mg "all" = none
 b_bool:mg "bool" = none
 b_divmod:mg "divmod" = none
 b_int:mg "int" = none
 b_isinstance:mg "isinstance" = none
 b_len:mg "len" = none
 b_max:mg "max" = none
 b_min:mg "min" = none
 b_range:mg "range" = none
 b_sum:mg "sum" = none
 b_tuple:mg "tuple" = none
 c_LONGEST_ROW:∃ t,mg "LONGEST_ROW" = some (.int 16 t)
 m_SIGNS:TupAt K mg "SIGNS" [(-1),(1)]
section
variable {P:Program} {w:World} {K:PySem.W.Frag} {mg:Str→Option Value} {base:Heap}
theorem sc_Keeper___init__:FnScope ["self"] ["self"] (defScope st_Keeper___init__):=⟨by kernel_rfl,by kernel_rfl,by kernel_rfl,by decide +kernel,rfl,by decide +kernel,by decide +kernel⟩
theorem ok_Keeper___init__ {C f:Addr} {fd:FuncData} (F:Fun K "__init__" "Keeper.__init__" st_Keeper___init__ f fd) (ns:PySem.W.nsIn K mainGlobals "Keeper" = some (some (.ref C))) (hmg:mg "Keeper" = some (.ref C)) (hm:Mk K C f) (hb:Binds K fd ["self"] []) (T:Txt K mg) :MakN P w K mg base "Keeper" 1 F_Keeper___init__:=
 mak_of ["self"] ["self"] 0 1 1 rfl rfl rfl F ns hmg hm hb sc_Keeper___init__ (m:=m_Keeper___init__) fun cdv A outer s H E hr=>(ss_cons (ss_fld T.kc_Keeper T.na_Keeper_numbers (se_var 0 (by kernel_rfl) (Or.inl (by kernel_rfl))) (se_tup sa_nil)) (ss_one (ss_fld T.kc_Keeper T.na_Keeper_earlier (se_var 0 (by kernel_rfl) (Or.inl (by kernel_rfl))) (se_new sa_nil))))
theorem sc_Keeper_back_n:FnScope ["self"] ["self"] (defScope st_Keeper_back_n):=⟨by kernel_rfl,by kernel_rfl,by kernel_rfl,by decide +kernel,rfl,by decide +kernel,by decide +kernel⟩
theorem ok_Keeper_back_n {C f:Addr} {fd:FuncData} (F:Fun K "back" "Keeper.back" st_Keeper_back_n f fd) (ns:PySem.W.nsIn K mainGlobals "Keeper" = some (some (.ref C))) (hc:L2.Cls K C) (hm:Meth K C "back" f) (hb:Binds K fd ["self"] []) (T:Txt K mg) :MetN P w K mg base "Keeper" "back" 1 1 F_Keeper_back_n:=
 met_ofN ["self"] ["self"] 0 1 1 1 rfl rfl rfl F ns hc hm hb sc_Keeper_back_n (m:=m_Keeper_back_n) fun cdv A outer s H E hr=>(ss_cons (ss_if (st_cmp (xo_eqS hr) (se_fld T.kc_Keeper T.na_Keeper_earlier (se_var 0 (by kernel_rfl) (Or.inl (by kernel_rfl)))) (se_lst sa_nil)) (ss_one ss_never) ss_nil) (ss_cons (ss_fld T.kc_Keeper T.na_Keeper_numbers (se_var 0 (by kernel_rfl) (Or.inl (by kernel_rfl))) (se_pop0 (se_fld T.kc_Keeper T.na_Keeper_earlier (se_var 0 (by kernel_rfl) (Or.inl (by kernel_rfl)))))) (ss_one (ss_ret (se_callB xc_len (by unfold Gl; kernel_rfl) T.b_len boo_len (sa_cons (se_fld T.kc_Keeper T.na_Keeper_numbers (se_var 0 (by kernel_rfl) (Or.inl (by kernel_rfl)))) sa_nil))))))
theorem sc_firsts_stepped:FnScope ["firsts","step","longer","reached","signs","sign","there","chosen"] ["firsts","step"] (defScope st_firsts_stepped):=⟨by kernel_rfl,by kernel_rfl,by kernel_rfl,by decide +kernel,rfl,by decide +kernel,by decide +kernel⟩
theorem ok_firsts_stepped {f:Addr} {fd:FuncData} (F:Fun K "firsts_stepped" "firsts_stepped" st_firsts_stepped f fd) (hm:mg "firsts_stepped" = some (.ref f)) (hb:Binds K fd ["firsts","step"] []) (T:Txt K mg) :DefN P w K mg base "firsts_stepped" 1 2 F_firsts_stepped:=
 def_ofN ["firsts","step","longer","reached","signs","sign","there","chosen"] ["firsts","step"] 0 1 2 8 rfl rfl rfl F hm hb sc_firsts_stepped (m:=m_firsts_stepped) fun cdv A outer s H E hr=>(ss_cons (ss_set sc_firsts_stepped.nd (by kernel_rfl) (Or.inl (by kernel_rfl)) se_dicE) (ss_cons (ss_for PassesOwn.never rfl (si_items (se_var 0 (by kernel_rfl) (Or.inl (by kernel_rfl)))) (sg_tup rfl (sgs_cons (sg_name sc_firsts_stepped.nd (by kernel_rfl) (Or.inl (by kernel_rfl))) (sgs_cons (sg_name sc_firsts_stepped.nd (by kernel_rfl) (Or.inl (by kernel_rfl))) sgs_nil))) (ss_one (ss_for PassesOwn.never rfl (si_seq (se_gt T.m_SIGNS (by unfold Gl; kernel_rfl))) (sg_name sc_firsts_stepped.nd (by kernel_rfl) (Or.inl (by kernel_rfl))) (ss_cons (ss_set sc_firsts_stepped.nd (by kernel_rfl) (Or.inl (by kernel_rfl)) (se_op xo_add (se_var 3 (by kernel_rfl) (Or.inl (by kernel_rfl))) (se_op xo_mul (se_var 5 (by kernel_rfl) (Or.inl (by kernel_rfl))) (se_var 1 (by kernel_rfl) (Or.inl (by kernel_rfl)))))) (ss_cons (ss_set sc_firsts_stepped.nd (by kernel_rfl) (Or.inl (by kernel_rfl)) (se_op xo_add (se_var 4 (by kernel_rfl) (Or.inl (by kernel_rfl))) (se_tup (sa_cons (se_var 5 (by kernel_rfl) (Or.inl (by kernel_rfl))) sa_nil)))) (ss_one (ss_put (xs_putD hr) (se_callB (xc_min3 rfl hr) (by unfold Gl; kernel_rfl) T.b_min boo_min (sa_cons (se_var 7 (by kernel_rfl) (Or.inl (by kernel_rfl))) (sa_cons (se_get2 hr (se_var 2 (by kernel_rfl) (Or.inl (by kernel_rfl))) (se_var 6 (by kernel_rfl) (Or.inl (by kernel_rfl))) (se_var 7 (by kernel_rfl) (Or.inl (by kernel_rfl))) (m2_mk (by kernel_rfl) (by kernel_rfl) (by kernel_rfl) (by kernel_rfl))) sa_nil))) (se_var 2 (by kernel_rfl) (Or.inl (by kernel_rfl))) (se_var 6 (by kernel_rfl) (Or.inl (by kernel_rfl)))))))))) (ss_one (ss_ret (se_var 2 (by kernel_rfl) (Or.inl (by kernel_rfl)))))))
theorem sc_firsts_of:FnScope ["row","firsts","step"] ["row"] (defScope st_firsts_of):=⟨by kernel_rfl,by kernel_rfl,by kernel_rfl,by decide +kernel,rfl,by decide +kernel,by decide +kernel⟩
theorem ok_firsts_of {f:Addr} {fd:FuncData} (F:Fun K "firsts_of" "firsts_of" st_firsts_of f fd) (hm:mg "firsts_of" = some (.ref f)) (hb:Binds K fd ["row"] []) (T:Txt K mg) (d_firsts_stepped:DefN P w K mg base "firsts_stepped" 1 2 F_firsts_stepped):DefN P w K mg base "firsts_of" 2 1 F_firsts_of:=
 def_ofN ["row","firsts","step"] ["row"] 1 2 1 3 rfl rfl rfl F hm hb sc_firsts_of (m:=m_firsts_of) fun cdv A outer s H E hr=>(ss_cons (ss_set sc_firsts_of.nd (by kernel_rfl) (Or.inl (by kernel_rfl)) (se_dicN (sps_cons se_int (se_tup sa_nil) sps_nil))) (ss_cons (ss_for PassesOwn.never rfl (si_seq (se_var 0 (by kernel_rfl) (Or.inl (by kernel_rfl)))) (sg_name sc_firsts_of.nd (by kernel_rfl) (Or.inl (by kernel_rfl))) (ss_one (ss_set sc_firsts_of.nd (by kernel_rfl) (Or.inl (by kernel_rfl)) (se_fnN d_firsts_stepped (hr.mono (by decide)) (by unfold Gl; kernel_rfl) (sa_cons (se_var 1 (by kernel_rfl) (Or.inl (by kernel_rfl))) (sa_cons (se_var 2 (by kernel_rfl) (Or.inl (by kernel_rfl))) sa_nil)) (alen_cons (alen_cons alen_nil)))))) (ss_one (ss_ret (se_var 1 (by kernel_rfl) (Or.inl (by kernel_rfl)))))))
theorem sc_halves_of:FnScope ["row","middle"] ["row"] (defScope st_halves_of):=⟨by kernel_rfl,by kernel_rfl,by kernel_rfl,by decide +kernel,rfl,by decide +kernel,by decide +kernel⟩
theorem ok_halves_of {f:Addr} {fd:FuncData} (F:Fun K "halves_of" "halves_of" st_halves_of f fd) (hm:mg "halves_of" = some (.ref f)) (hb:Binds K fd ["row"] []) (T:Txt K mg) :DefN P w K mg base "halves_of" 1 1 F_halves_of:=
 def_ofN ["row","middle"] ["row"] 0 1 1 2 rfl rfl rfl F hm hb sc_halves_of (m:=m_halves_of) fun cdv A outer s H E hr=>(ss_cons (ss_set sc_halves_of.nd (by kernel_rfl) (Or.inl (by kernel_rfl)) (se_op xo_fdiv (se_callB xc_len (by unfold Gl; kernel_rfl) T.b_len boo_len (sa_cons (se_var 0 (by kernel_rfl) (Or.inl (by kernel_rfl))) sa_nil)) se_int)) (ss_one (ss_ret (se_tup (sa_cons (se_sl xl_tup (se_var 0 (by kernel_rfl) (Or.inl (by kernel_rfl))) so_none (so_some (se_var 1 (by kernel_rfl) (Or.inl (by kernel_rfl))))) (sa_cons (se_sl xl_tup (se_var 0 (by kernel_rfl) (Or.inl (by kernel_rfl))) (so_some (se_var 1 (by kernel_rfl) (Or.inl (by kernel_rfl)))) so_none) sa_nil))))))
theorem sc_is_whole:FnScope ["thing"] ["thing"] (defScope st_is_whole):=⟨by kernel_rfl,by kernel_rfl,by kernel_rfl,by decide +kernel,rfl,by decide +kernel,by decide +kernel⟩
theorem ok_is_whole {f:Addr} {fd:FuncData} (F:Fun K "is_whole" "is_whole" st_is_whole f fd) (hm:mg "is_whole" = some (.ref f)) (hb:Binds K fd ["thing"] []) (T:Txt K mg) :DefN P w K mg base "is_whole" 1 1 F_is_whole:=
 def_ofN ["thing"] ["thing"] 0 1 1 1 rfl rfl rfl F hm hb sc_is_whole (m:=m_is_whole) fun cdv A outer s H E hr=>(ss_one (ss_ret (se_and (se_callB xc_isi (by unfold Gl; kernel_rfl) T.b_isinstance boo_isinstance (sa_cons (se_var 0 (by kernel_rfl) (Or.inl (by kernel_rfl))) (sa_cons (se_ty (by unfold Gl; kernel_rfl) T.b_int boo_int) sa_nil))) (se_one (se_not (se_callB xc_isi (by unfold Gl; kernel_rfl) T.b_isinstance boo_isinstance (sa_cons (se_var 0 (by kernel_rfl) (Or.inl (by kernel_rfl))) (sa_cons (se_ty (by unfold Gl; kernel_rfl) T.b_bool boo_bool) sa_nil))))))))
theorem sc_need_number_n:FnScope ["thing"] ["thing"] (defScope st_need_number_n):=⟨by kernel_rfl,by kernel_rfl,by kernel_rfl,by decide +kernel,rfl,by decide +kernel,by decide +kernel⟩
theorem ok_need_number_n {f:Addr} {fd:FuncData} (F:Fun K "need_number" "need_number" st_need_number_n f fd) (hm:mg "need_number" = some (.ref f)) (hb:Binds K fd ["thing"] []) (T:Txt K mg) (d_is_whole:DefN P w K mg base "is_whole" 1 1 F_is_whole):DefN P w K mg base "need_number" 2 1 F_need_number_n:=
 def_ofN ["thing"] ["thing"] 1 2 1 1 rfl rfl rfl F hm hb sc_need_number_n (m:=m_need_number_n) fun cdv A outer s H E hr=>(ss_one (ss_if (st_not (st_val (se_fnN d_is_whole (hr.mono (by decide)) (by unfold Gl; kernel_rfl) (sa_cons (se_var 0 (by kernel_rfl) (Or.inl (by kernel_rfl))) sa_nil) (alen_cons alen_nil)))) (ss_one ss_never) ss_nil))
theorem sc_is_row:FnScope ["thing"] ["thing"] (defScope st_is_row):=⟨by kernel_rfl,by kernel_rfl,by kernel_rfl,by decide +kernel,rfl,by decide +kernel,by decide +kernel⟩
theorem ok_is_row {f:Addr} {fd:FuncData} (F:Fun K "is_row" "is_row" st_is_row f fd) (hm:mg "is_row" = some (.ref f)) (hb:Binds K fd ["thing"] []) (T:Txt K mg) (d_is_whole:DefN P w K mg base "is_whole" 1 1 F_is_whole):DefN P w K mg base "is_row" 2 1 F_is_row:=
 def_ofN ["thing"] ["thing"] 1 2 1 1 rfl rfl rfl F hm hb sc_is_row (m:=m_is_row) fun cdv A outer s H E hr=>(ss_cons (ss_if (sw_st (sw_or (st_not (st_val (se_callB xc_isi (by unfold Gl; kernel_rfl) T.b_isinstance boo_isinstance (sa_cons (se_var 0 (by kernel_rfl) (Or.inl (by kernel_rfl))) (sa_cons (se_ty (by unfold Gl; kernel_rfl) T.b_tuple boo_tuple) sa_nil))))) (sw_or1 (st_cmp xo_gt (se_callB xc_len (by unfold Gl; kernel_rfl) T.b_len boo_len (sa_cons (se_var 0 (by kernel_rfl) (Or.inl (by kernel_rfl))) sa_nil)) (se_gi T.c_LONGEST_ROW (by unfold Gl; kernel_rfl)))))) (ss_one (ss_ret se_bl)) ss_nil) (ss_one (ss_ret (se_callB (xc_all rfl) (by unfold Gl; kernel_rfl) T.b_all boo_all (sa_cons (se_comp (N:=["number"]) (k:=1) (caps:=[]) rfl (fun _ _ z=>z) (cs_mk (by kernel_rfl) (by kernel_rfl) (by kernel_rfl) (by kernel_rfl) rfl (by kernel_rfl)) (si_seq (se_var 0 (by kernel_rfl) (Or.inl (by kernel_rfl)))) (fun _ _ _ _=>(sg_name (show (["number"]:List Str).Nodup by decide +kernel) (by kernel_rfl) (Or.inl (by kernel_rfl)))) (fun _ _ _ _=>sif_nil) (fun _ _ _ _=>(se_and (se_fnN d_is_whole (hr.mono (by decide)) (by unfold Gl; kernel_rfl) (sa_cons (se_var 0 (by kernel_rfl) (Or.inl (by kernel_rfl))) sa_nil) (alen_cons alen_nil)) (se_one (se_cmp xo_ge (se_var 0 (by kernel_rfl) (Or.inl (by kernel_rfl))) se_int))))) sa_nil)))))
theorem sc_need_row_n:FnScope ["thing"] ["thing"] (defScope st_need_row_n):=⟨by kernel_rfl,by kernel_rfl,by kernel_rfl,by decide +kernel,rfl,by decide +kernel,by decide +kernel⟩
theorem ok_need_row_n {f:Addr} {fd:FuncData} (F:Fun K "need_row" "need_row" st_need_row_n f fd) (hm:mg "need_row" = some (.ref f)) (hb:Binds K fd ["thing"] []) (T:Txt K mg) (d_is_row:DefN P w K mg base "is_row" 2 1 F_is_row):DefN P w K mg base "need_row" 3 1 F_need_row_n:=
 def_ofN ["thing"] ["thing"] 2 3 1 1 rfl rfl rfl F hm hb sc_need_row_n (m:=m_need_row_n) fun cdv A outer s H E hr=>(ss_one (ss_if (st_not (st_val (se_fnN d_is_row (hr.mono (by decide)) (by unfold Gl; kernel_rfl) (sa_cons (se_var 0 (by kernel_rfl) (Or.inl (by kernel_rfl))) sa_nil) (alen_cons alen_nil)))) (ss_one ss_never) ss_nil))
theorem sc_need_row_and_number_n:FnScope ["row","number"] ["row","number"] (defScope st_need_row_and_number_n):=⟨by kernel_rfl,by kernel_rfl,by kernel_rfl,by decide +kernel,rfl,by decide +kernel,by decide +kernel⟩
theorem ok_need_row_and_number_n {f:Addr} {fd:FuncData} (F:Fun K "need_row_and_number" "need_row_and_number" st_need_row_and_number_n f fd) (hm:mg "need_row_and_number" = some (.ref f)) (hb:Binds K fd ["row","number"] []) (T:Txt K mg) (d_need_number_n:DefN P w K mg base "need_number" 2 1 F_need_number_n) (d_need_row_n:DefN P w K mg base "need_row" 3 1 F_need_row_n):DefN P w K mg base "need_row_and_number" 4 2 F_need_row_and_number_n:=
 def_ofN ["row","number"] ["row","number"] 3 4 2 2 rfl rfl rfl F hm hb sc_need_row_and_number_n (m:=m_need_row_and_number_n) fun cdv A outer s H E hr=>(ss_cons (ss_expr (se_fnN d_need_row_n (hr.mono (by decide)) (by unfold Gl; kernel_rfl) (sa_cons (se_var 0 (by kernel_rfl) (Or.inl (by kernel_rfl))) sa_nil) (alen_cons alen_nil))) (ss_one (ss_expr (se_fnN d_need_number_n (hr.mono (by decide)) (by unfold Gl; kernel_rfl) (sa_cons (se_var 1 (by kernel_rfl) (Or.inl (by kernel_rfl))) sa_nil) (alen_cons alen_nil)))))
theorem sc_first_met_n:FnScope ["row","number","firsts","met"] ["row","number"] (defScope st_first_met_n):=⟨by kernel_rfl,by kernel_rfl,by kernel_rfl,by decide +kernel,rfl,by decide +kernel,by decide +kernel⟩
theorem ok_first_met_n {f:Addr} {fd:FuncData} (F:Fun K "first_met" "first_met" st_first_met_n f fd) (hm:mg "first_met" = some (.ref f)) (hb:Binds K fd ["row","number"] []) (T:Txt K mg) (d_firsts_of:DefN P w K mg base "firsts_of" 2 1 F_firsts_of) (d_halves_of:DefN P w K mg base "halves_of" 1 1 F_halves_of) (d_need_row_and_number_n:DefN P w K mg base "need_row_and_number" 4 2 F_need_row_and_number_n):DefN P w K mg base "first_met" 5 2 F_first_met_n:=
 def_ofN ["row","number","firsts","met"] ["row","number"] 4 5 2 4 rfl rfl rfl F hm hb sc_first_met_n (m:=m_first_met_n) fun cdv A outer s H E hr=>(ss_cons (ss_expr (se_fnN d_need_row_and_number_n (hr.mono (by decide)) (by unfold Gl; kernel_rfl) (sa_cons (se_var 0 (by kernel_rfl) (Or.inl (by kernel_rfl))) (sa_cons (se_var 1 (by kernel_rfl) (Or.inr (Or.inl (by kernel_rfl)))) sa_nil)) (alen_cons (alen_cons alen_nil)))) (ss_cons (ss_set sc_first_met_n.nd (by kernel_rfl) (Or.inr (by kernel_rfl)) (se_comp (N:=["half"]) (k:=1) (caps:=[]) rfl (fun _ _ z=>z) (cs_mk (by kernel_rfl) (by kernel_rfl) (by kernel_rfl) (by kernel_rfl) rfl (by kernel_rfl)) (si_seq (se_fnN d_halves_of (hr.mono (by decide)) (by unfold Gl; kernel_rfl) (sa_cons (se_var 0 (by kernel_rfl) (Or.inl (by kernel_rfl))) sa_nil) (alen_cons alen_nil))) (fun _ _ _ _=>(sg_name (show (["half"]:List Str).Nodup by decide +kernel) (by kernel_rfl) (Or.inl (by kernel_rfl)))) (fun _ _ _ _=>sif_nil) (fun _ _ _ _=>(se_fnN d_firsts_of (hr.mono (by decide)) (by unfold Gl; kernel_rfl) (sa_cons (se_var 0 (by kernel_rfl) (Or.inl (by kernel_rfl))) sa_nil) (alen_cons alen_nil))))) (ss_cons (ss_setC (i0:=3) (N:=["reached","signs","firsts","number"]) (k:=2) (caps:=[2,1]) sc_first_met_n.nd (by kernel_rfl) (Or.inl (by kernel_rfl)) rfl (fun _ _ z=>z) (cs_mk (by kernel_rfl) (by kernel_rfl) (by kernel_rfl) (by kernel_rfl) rfl (by kernel_rfl)) (si_items (se_ix (xi_ixD hr) (se_var 2 (by kernel_rfl) (Or.inr (Or.inl (by kernel_rfl)))) se_int)) (fun _ _ _ _=>(sg_tup rfl (sgs_cons (sg_name (show (["reached","signs","firsts","number"]:List Str).Nodup by decide +kernel) (by kernel_rfl) (Or.inl (by kernel_rfl))) (sgs_cons (sg_name (show (["reached","signs","firsts","number"]:List Str).Nodup by decide +kernel) (by kernel_rfl) (Or.inl (by kernel_rfl))) sgs_nil)))) (fun _ _ _ _=>(sif_one (st_cmp (xo_inD hr) (se_op xo_sub (se_var 3 (by kernel_rfl) (Or.inr (Or.inl (by kernel_rfl)))) (se_var 0 (by kernel_rfl) (Or.inl (by kernel_rfl)))) (se_ix (xi_ixD hr) (se_var 2 (by kernel_rfl) (Or.inr (Or.inl (by kernel_rfl)))) se_int)))) (fun _ _ _ _=>(se_op xo_add (se_var 1 (by kernel_rfl) (Or.inl (by kernel_rfl))) (se_ix (xi_ixD hr) (se_ix (xi_ixD hr) (se_var 2 (by kernel_rfl) (Or.inr (Or.inl (by kernel_rfl)))) se_int) (se_op xo_sub (se_var 3 (by kernel_rfl) (Or.inr (Or.inl (by kernel_rfl)))) (se_var 0 (by kernel_rfl) (Or.inl (by kernel_rfl)))))))) (ss_one (ss_ret (se_callBD (xk_minD rfl hr) (by unfold Gl; kernel_rfl) T.b_min boo_min (sa_cons (se_var 3 (by kernel_rfl) (Or.inl (by kernel_rfl))) sa_nil)))))))
theorem sc_Keeper_first_n:FnScope ["self","number"] ["self","number"] (defScope st_Keeper_first_n):=⟨by kernel_rfl,by kernel_rfl,by kernel_rfl,by decide +kernel,rfl,by decide +kernel,by decide +kernel⟩
theorem ok_Keeper_first_n {C f:Addr} {fd:FuncData} (F:Fun K "first" "Keeper.first" st_Keeper_first_n f fd) (ns:PySem.W.nsIn K mainGlobals "Keeper" = some (some (.ref C))) (hc:L2.Cls K C) (hm:Meth K C "first" f) (hb:Binds K fd ["self","number"] []) (T:Txt K mg) (d_first_met_n:DefN P w K mg base "first_met" 5 2 F_first_met_n):MetN P w K mg base "Keeper" "first" 6 2 F_Keeper_first_n:=
 met_ofN ["self","number"] ["self","number"] 5 6 2 2 rfl rfl rfl F ns hc hm hb sc_Keeper_first_n (m:=m_Keeper_first_n) fun cdv A outer s H E hr=>(ss_one (ss_ret (se_fnN d_first_met_n (hr.mono (by decide)) (by unfold Gl; kernel_rfl) (sa_cons (se_fld T.kc_Keeper T.na_Keeper_numbers (se_var 0 (by kernel_rfl) (Or.inl (by kernel_rfl)))) (sa_cons (se_var 1 (by kernel_rfl) (Or.inl (by kernel_rfl))) sa_nil)) (alen_cons (alen_cons alen_nil)))))
theorem sc_Keeper_change:FnScope ["self","numbers"] ["self","numbers"] (defScope st_Keeper_change):=⟨by kernel_rfl,by kernel_rfl,by kernel_rfl,by decide +kernel,rfl,by decide +kernel,by decide +kernel⟩
theorem ok_Keeper_change {C f:Addr} {fd:FuncData} (F:Fun K "change" "Keeper.change" st_Keeper_change f fd) (ns:PySem.W.nsIn K mainGlobals "Keeper" = some (some (.ref C))) (hc:L2.Cls K C) (hm:Meth K C "change" f) (hb:Binds K fd ["self","numbers"] []) (T:Txt K mg) :MetN P w K mg base "Keeper" "change" 1 2 F_Keeper_change:=
 met_ofN ["self","numbers"] ["self","numbers"] 0 1 2 2 rfl rfl rfl F ns hc hm hb sc_Keeper_change (m:=m_Keeper_change) fun cdv A outer s H E hr=>(ss_cons (ss_expr (se_mtL PySem.F.plainAttrs_list PySem.F.slot_list_append PySem.F.type_list_append xm_append (se_fld T.kc_Keeper T.na_Keeper_earlier (se_var 0 (by kernel_rfl) (Or.inl (by kernel_rfl)))) (sa_cons (se_fld T.kc_Keeper T.na_Keeper_numbers (se_var 0 (by kernel_rfl) (Or.inl (by kernel_rfl)))) sa_nil))) (ss_cons (ss_fld T.kc_Keeper T.na_Keeper_numbers (se_var 0 (by kernel_rfl) (Or.inl (by kernel_rfl))) (se_var 1 (by kernel_rfl) (Or.inl (by kernel_rfl)))) (ss_one (ss_ret (se_callB xc_len (by unfold Gl; kernel_rfl) T.b_len boo_len (sa_cons (se_var 1 (by kernel_rfl) (Or.inl (by kernel_rfl))) sa_nil))))))
theorem sc_need_number_from_n:FnScope ["least","thing"] ["least","thing"] (defScope st_need_number_from_n):=⟨by kernel_rfl,by kernel_rfl,by kernel_rfl,by decide +kernel,rfl,by decide +kernel,by decide +kernel⟩
theorem ok_need_number_from_n {f:Addr} {fd:FuncData} (F:Fun K "need_number_from" "need_number_from" st_need_number_from_n f fd) (hm:mg "need_number_from" = some (.ref f)) (hb:Binds K fd ["least","thing"] []) (T:Txt K mg) (d_need_number_n:DefN P w K mg base "need_number" 2 1 F_need_number_n):DefN P w K mg base "need_number_from" 3 2 F_need_number_from_n:=
 def_ofN ["least","thing"] ["least","thing"] 2 3 2 2 rfl rfl rfl F hm hb sc_need_number_from_n (m:=m_need_number_from_n) fun cdv A outer s H E hr=>(ss_cons (ss_expr (se_fnN d_need_number_n (hr.mono (by decide)) (by unfold Gl; kernel_rfl) (sa_cons (se_var 1 (by kernel_rfl) (Or.inl (by kernel_rfl))) sa_nil) (alen_cons alen_nil))) (ss_one (ss_if (st_cmp xo_lt (se_var 1 (by kernel_rfl) (Or.inl (by kernel_rfl))) (se_var 0 (by kernel_rfl) (Or.inl (by kernel_rfl)))) (ss_one ss_never) ss_nil)))
theorem sc_Keeper_put_n:FnScope ["self","number"] ["self","number"] (defScope st_Keeper_put_n):=⟨by kernel_rfl,by kernel_rfl,by kernel_rfl,by decide +kernel,rfl,by decide +kernel,by decide +kernel⟩
theorem ok_Keeper_put_n {C f:Addr} {fd:FuncData} (F:Fun K "put" "Keeper.put" st_Keeper_put_n f fd) (ns:PySem.W.nsIn K mainGlobals "Keeper" = some (some (.ref C))) (hc:L2.Cls K C) (hm:Meth K C "put" f) (hb:Binds K fd ["self","number"] []) (T:Txt K mg) (d_Keeper_change:MetN P w K mg base "Keeper" "change" 1 2 F_Keeper_change) (d_need_number_from_n:DefN P w K mg base "need_number_from" 3 2 F_need_number_from_n):MetN P w K mg base "Keeper" "put" 4 2 F_Keeper_put_n:=
 met_ofN ["self","number"] ["self","number"] 3 4 2 2 rfl rfl rfl F ns hc hm hb sc_Keeper_put_n (m:=m_Keeper_put_n) fun cdv A outer s H E hr=>(ss_cons (ss_expr (se_fnN d_need_number_from_n (hr.mono (by decide)) (by unfold Gl; kernel_rfl) (sa_cons se_int (sa_cons (se_var 1 (by kernel_rfl) (Or.inl (by kernel_rfl))) sa_nil)) (alen_cons (alen_cons alen_nil)))) (ss_cons (ss_if (st_cmp (xo_eqP hr) (se_callB xc_len (by unfold Gl; kernel_rfl) T.b_len boo_len (sa_cons (se_fld T.kc_Keeper T.na_Keeper_numbers (se_var 0 (by kernel_rfl) (Or.inl (by kernel_rfl)))) sa_nil)) (se_gi T.c_LONGEST_ROW (by unfold Gl; kernel_rfl))) (ss_one ss_never) ss_nil) (ss_one (ss_ret (se_metN d_Keeper_change (hr.mono (by decide)) (se_var 0 (by kernel_rfl) (Or.inl (by kernel_rfl))) (sa_cons (se_op xo_add (se_fld T.kc_Keeper T.na_Keeper_numbers (se_var 0 (by kernel_rfl) (Or.inl (by kernel_rfl)))) (se_tup (sa_cons (se_var 1 (by kernel_rfl) (Or.inl (by kernel_rfl))) sa_nil))) sa_nil) (alen_cons alen_nil))))))
theorem sc_Keeper_row:FnScope ["self"] ["self"] (defScope st_Keeper_row):=⟨by kernel_rfl,by kernel_rfl,by kernel_rfl,by decide +kernel,rfl,by decide +kernel,by decide +kernel⟩
theorem ok_Keeper_row {C f:Addr} {fd:FuncData} (F:Fun K "row" "Keeper.row" st_Keeper_row f fd) (ns:PySem.W.nsIn K mainGlobals "Keeper" = some (some (.ref C))) (hc:L2.Cls K C) (hm:Meth K C "row" f) (hb:Binds K fd ["self"] []) (T:Txt K mg) :MetN P w K mg base "Keeper" "row" 1 1 F_Keeper_row:=
 met_ofN ["self"] ["self"] 0 1 1 1 rfl rfl rfl F ns hc hm hb sc_Keeper_row (m:=m_Keeper_row) fun cdv A outer s H E hr=>(ss_one (ss_ret (se_fld T.kc_Keeper T.na_Keeper_numbers (se_var 0 (by kernel_rfl) (Or.inl (by kernel_rfl))))))
theorem sc_Keeper_take_n:FnScope ["self"] ["self"] (defScope st_Keeper_take_n):=⟨by kernel_rfl,by kernel_rfl,by kernel_rfl,by decide +kernel,rfl,by decide +kernel,by decide +kernel⟩
theorem ok_Keeper_take_n {C f:Addr} {fd:FuncData} (F:Fun K "take" "Keeper.take" st_Keeper_take_n f fd) (ns:PySem.W.nsIn K mainGlobals "Keeper" = some (some (.ref C))) (hc:L2.Cls K C) (hm:Meth K C "take" f) (hb:Binds K fd ["self"] []) (T:Txt K mg) (d_Keeper_change:MetN P w K mg base "Keeper" "change" 1 2 F_Keeper_change):MetN P w K mg base "Keeper" "take" 2 1 F_Keeper_take_n:=
 met_ofN ["self"] ["self"] 1 2 1 1 rfl rfl rfl F ns hc hm hb sc_Keeper_take_n (m:=m_Keeper_take_n) fun cdv A outer s H E hr=>(ss_cons (ss_if (st_cmp (xo_eqP hr) (se_fld T.kc_Keeper T.na_Keeper_numbers (se_var 0 (by kernel_rfl) (Or.inl (by kernel_rfl)))) (se_tup sa_nil)) (ss_one ss_never) ss_nil) (ss_one (ss_ret (se_metN d_Keeper_change (hr.mono (by decide)) (se_var 0 (by kernel_rfl) (Or.inl (by kernel_rfl))) (sa_cons (se_sl xl_tup (se_fld T.kc_Keeper T.na_Keeper_numbers (se_var 0 (by kernel_rfl) (Or.inl (by kernel_rfl)))) so_none (so_some (se_un xu_neg se_int))) sa_nil) (alen_cons alen_nil)))))
theorem sc_stepped:FnScope ["table","step","choices","wider","reached","ways","choice","there"] ["table","step","choices"] (defScope st_stepped):=⟨by kernel_rfl,by kernel_rfl,by kernel_rfl,by decide +kernel,rfl,by decide +kernel,by decide +kernel⟩
theorem ok_stepped {f:Addr} {fd:FuncData} (F:Fun K "stepped" "stepped" st_stepped f fd) (hm:mg "stepped" = some (.ref f)) (hb:Binds K fd ["table","step","choices"] []) (T:Txt K mg) :DefN P w K mg base "stepped" 1 3 F_stepped:=
 def_ofN ["table","step","choices","wider","reached","ways","choice","there"] ["table","step","choices"] 0 1 3 8 rfl rfl rfl F hm hb sc_stepped (m:=m_stepped) fun cdv A outer s H E hr=>(ss_cons (ss_set sc_stepped.nd (by kernel_rfl) (Or.inl (by kernel_rfl)) se_dicE) (ss_cons (ss_for PassesOwn.never rfl (si_items (se_var 0 (by kernel_rfl) (Or.inl (by kernel_rfl)))) (sg_tup rfl (sgs_cons (sg_name sc_stepped.nd (by kernel_rfl) (Or.inl (by kernel_rfl))) (sgs_cons (sg_name sc_stepped.nd (by kernel_rfl) (Or.inl (by kernel_rfl))) sgs_nil))) (ss_one (ss_for PassesOwn.never rfl (si_seq (se_var 2 (by kernel_rfl) (Or.inl (by kernel_rfl)))) (sg_name sc_stepped.nd (by kernel_rfl) (Or.inl (by kernel_rfl))) (ss_cons (ss_set sc_stepped.nd (by kernel_rfl) (Or.inl (by kernel_rfl)) (se_op xo_add (se_var 4 (by kernel_rfl) (Or.inl (by kernel_rfl))) (se_op xo_mul (se_var 6 (by kernel_rfl) (Or.inl (by kernel_rfl))) (se_var 1 (by kernel_rfl) (Or.inl (by kernel_rfl)))))) (ss_one (ss_put (xs_putD hr) (se_op xo_add (se_get2 hr (se_var 3 (by kernel_rfl) (Or.inl (by kernel_rfl))) (se_var 7 (by kernel_rfl) (Or.inl (by kernel_rfl))) se_int (m2_mk (by kernel_rfl) (by kernel_rfl) (by kernel_rfl) (by kernel_rfl))) (se_var 5 (by kernel_rfl) (Or.inl (by kernel_rfl)))) (se_var 3 (by kernel_rfl) (Or.inl (by kernel_rfl))) (se_var 7 (by kernel_rfl) (Or.inl (by kernel_rfl))))))))) (ss_one (ss_ret (se_var 3 (by kernel_rfl) (Or.inl (by kernel_rfl)))))))
theorem sc_table_of:FnScope ["row","choices","table","step"] ["row","choices"] (defScope st_table_of):=⟨by kernel_rfl,by kernel_rfl,by kernel_rfl,by decide +kernel,rfl,by decide +kernel,by decide +kernel⟩
theorem ok_table_of {f:Addr} {fd:FuncData} (F:Fun K "table_of" "table_of" st_table_of f fd) (hm:mg "table_of" = some (.ref f)) (hb:Binds K fd ["row","choices"] []) (T:Txt K mg) (d_stepped:DefN P w K mg base "stepped" 1 3 F_stepped):DefN P w K mg base "table_of" 2 2 F_table_of:=
 def_ofN ["row","choices","table","step"] ["row","choices"] 1 2 2 4 rfl rfl rfl F hm hb sc_table_of (m:=m_table_of) fun cdv A outer s H E hr=>(ss_cons (ss_set sc_table_of.nd (by kernel_rfl) (Or.inl (by kernel_rfl)) (se_dicN (sps_cons se_int se_int sps_nil))) (ss_cons (ss_for PassesOwn.never rfl (si_seq (se_var 0 (by kernel_rfl) (Or.inl (by kernel_rfl)))) (sg_name sc_table_of.nd (by kernel_rfl) (Or.inl (by kernel_rfl))) (ss_one (ss_set sc_table_of.nd (by kernel_rfl) (Or.inl (by kernel_rfl)) (se_fnN d_stepped (hr.mono (by decide)) (by unfold Gl; kernel_rfl) (sa_cons (se_var 2 (by kernel_rfl) (Or.inl (by kernel_rfl))) (sa_cons (se_var 3 (by kernel_rfl) (Or.inl (by kernel_rfl))) (sa_cons (se_var 1 (by kernel_rfl) (Or.inl (by kernel_rfl))) sa_nil))) (alen_cons (alen_cons (alen_cons alen_nil))))))) (ss_one (ss_ret (se_var 2 (by kernel_rfl) (Or.inl (by kernel_rfl)))))))
theorem sc_many_met_n:FnScope ["row","number","counts"] ["row","number"] (defScope st_many_met_n):=⟨by kernel_rfl,by kernel_rfl,by kernel_rfl,by decide +kernel,rfl,by decide +kernel,by decide +kernel⟩
theorem ok_many_met_n {f:Addr} {fd:FuncData} (F:Fun K "many_met" "many_met" st_many_met_n f fd) (hm:mg "many_met" = some (.ref f)) (hb:Binds K fd ["row","number"] []) (T:Txt K mg) (d_halves_of:DefN P w K mg base "halves_of" 1 1 F_halves_of) (d_need_row_and_number_n:DefN P w K mg base "need_row_and_number" 4 2 F_need_row_and_number_n) (d_table_of:DefN P w K mg base "table_of" 2 2 F_table_of):DefN P w K mg base "many_met" 5 2 F_many_met_n:=
 def_ofN ["row","number","counts"] ["row","number"] 4 5 2 3 rfl rfl rfl F hm hb sc_many_met_n (m:=m_many_met_n) fun cdv A outer s H E hr=>(ss_cons (ss_expr (se_fnN d_need_row_and_number_n (hr.mono (by decide)) (by unfold Gl; kernel_rfl) (sa_cons (se_var 0 (by kernel_rfl) (Or.inl (by kernel_rfl))) (sa_cons (se_var 1 (by kernel_rfl) (Or.inr (Or.inl (by kernel_rfl)))) sa_nil)) (alen_cons (alen_cons alen_nil)))) (ss_cons (ss_set sc_many_met_n.nd (by kernel_rfl) (Or.inr (by kernel_rfl)) (se_comp (N:=["half"]) (k:=1) (caps:=[]) rfl (fun _ _ z=>z) (cs_mk (by kernel_rfl) (by kernel_rfl) (by kernel_rfl) (by kernel_rfl) rfl (by kernel_rfl)) (si_seq (se_fnN d_halves_of (hr.mono (by decide)) (by unfold Gl; kernel_rfl) (sa_cons (se_var 0 (by kernel_rfl) (Or.inl (by kernel_rfl))) sa_nil) (alen_cons alen_nil))) (fun _ _ _ _=>(sg_name (show (["half"]:List Str).Nodup by decide +kernel) (by kernel_rfl) (Or.inl (by kernel_rfl)))) (fun _ _ _ _=>sif_nil) (fun _ _ _ _=>(se_fnN d_table_of (hr.mono (by decide)) (by unfold Gl; kernel_rfl) (sa_cons (se_var 0 (by kernel_rfl) (Or.inl (by kernel_rfl))) (sa_cons (se_gt T.m_SIGNS (by unfold Gl; kernel_rfl)) sa_nil)) (alen_cons (alen_cons alen_nil)))))) (ss_one (ss_ret (se_callB (xc_sum rfl) (by unfold Gl; kernel_rfl) T.b_sum boo_sum (sa_cons (se_comp (N:=["reached","ways","counts","number"]) (k:=2) (caps:=[2,1]) rfl (fun _ _ z=>z) (cs_mk (by kernel_rfl) (by kernel_rfl) (by kernel_rfl) (by kernel_rfl) rfl (by kernel_rfl)) (si_items (se_ix (xi_ixD hr) (se_var 2 (by kernel_rfl) (Or.inr (Or.inl (by kernel_rfl)))) se_int)) (fun _ _ _ _=>(sg_tup rfl (sgs_cons (sg_name (show (["reached","ways","counts","number"]:List Str).Nodup by decide +kernel) (by kernel_rfl) (Or.inl (by kernel_rfl))) (sgs_cons (sg_name (show (["reached","ways","counts","number"]:List Str).Nodup by decide +kernel) (by kernel_rfl) (Or.inl (by kernel_rfl))) sgs_nil)))) (fun _ _ _ _=>sif_nil) (fun _ _ _ _=>(se_op xo_mul (se_var 1 (by kernel_rfl) (Or.inl (by kernel_rfl))) (se_get2 hr (se_ix (xi_ixD hr) (se_var 2 (by kernel_rfl) (Or.inr (Or.inl (by kernel_rfl)))) se_int) (se_op xo_sub (se_var 3 (by kernel_rfl) (Or.inr (Or.inl (by kernel_rfl)))) (se_var 0 (by kernel_rfl) (Or.inl (by kernel_rfl)))) se_int (m2_mk (by kernel_rfl) (by kernel_rfl) (by kernel_rfl) (by kernel_rfl)))))) sa_nil))))))
theorem sc_Keeper_ways_n:FnScope ["self","number"] ["self","number"] (defScope st_Keeper_ways_n):=⟨by kernel_rfl,by kernel_rfl,by kernel_rfl,by decide +kernel,rfl,by decide +kernel,by decide +kernel⟩
theorem ok_Keeper_ways_n {C f:Addr} {fd:FuncData} (F:Fun K "ways" "Keeper.ways" st_Keeper_ways_n f fd) (ns:PySem.W.nsIn K mainGlobals "Keeper" = some (some (.ref C))) (hc:L2.Cls K C) (hm:Meth K C "ways" f) (hb:Binds K fd ["self","number"] []) (T:Txt K mg) (d_many_met_n:DefN P w K mg base "many_met" 5 2 F_many_met_n):MetN P w K mg base "Keeper" "ways" 6 2 F_Keeper_ways_n:=
 met_ofN ["self","number"] ["self","number"] 5 6 2 2 rfl rfl rfl F ns hc hm hb sc_Keeper_ways_n (m:=m_Keeper_ways_n) fun cdv A outer s H E hr=>(ss_one (ss_ret (se_fnN d_many_met_n (hr.mono (by decide)) (by unfold Gl; kernel_rfl) (sa_cons (se_fld T.kc_Keeper T.na_Keeper_numbers (se_var 0 (by kernel_rfl) (Or.inl (by kernel_rfl)))) (sa_cons (se_var 1 (by kernel_rfl) (Or.inl (by kernel_rfl))) sa_nil)) (alen_cons (alen_cons alen_nil)))))
theorem sc_Keeper_worths_many:FnScope ["self"] ["self"] (defScope st_Keeper_worths_many):=⟨by kernel_rfl,by kernel_rfl,by kernel_rfl,by decide +kernel,rfl,by decide +kernel,by decide +kernel⟩
theorem ok_Keeper_worths_many {C f:Addr} {fd:FuncData} (F:Fun K "worths_many" "Keeper.worths_many" st_Keeper_worths_many f fd) (ns:PySem.W.nsIn K mainGlobals "Keeper" = some (some (.ref C))) (hc:L2.Cls K C) (hm:Meth K C "worths_many" f) (hb:Binds K fd ["self"] []) (T:Txt K mg) (d_table_of:DefN P w K mg base "table_of" 2 2 F_table_of):MetN P w K mg base "Keeper" "worths_many" 3 1 F_Keeper_worths_many:=
 met_ofN ["self"] ["self"] 2 3 1 1 rfl rfl rfl F ns hc hm hb sc_Keeper_worths_many (m:=m_Keeper_worths_many) fun cdv A outer s H E hr=>(ss_one (ss_ret (se_callB xc_lenD (by unfold Gl; kernel_rfl) T.b_len boo_len (sa_cons (se_fnN d_table_of (hr.mono (by decide)) (by unfold Gl; kernel_rfl) (sa_cons (se_fld T.kc_Keeper T.na_Keeper_numbers (se_var 0 (by kernel_rfl) (Or.inl (by kernel_rfl)))) (sa_cons (se_gt T.m_SIGNS (by unfold Gl; kernel_rfl)) sa_nil)) (alen_cons (alen_cons alen_nil))) sa_nil))))
theorem sc__law_box:FnScope ["script","k","here","number","j","part"] ["script","k"] (defScope st__law_box):=⟨by kernel_rfl,by kernel_rfl,by kernel_rfl,by decide +kernel,rfl,by decide +kernel,by decide +kernel⟩
theorem ok__law_box {f:Addr} {fd:FuncData} (F:Fun K "_law_box" "_law_box" st__law_box f fd) (hm:mg "_law_box" = some (.ref f)) (hb:Binds K fd ["script","k"] []) (T:Txt K mg) :DefN P w K mg base "_law_box" 1 2 F__law_box:=
 def_ofN ["script","k","here","number","j","part"] ["script","k"] 0 1 2 6 rfl rfl rfl F hm hb sc__law_box (m:=m__law_box) fun cdv A outer s H E hr=>(ss_cons (ss_set sc__law_box.nd (by kernel_rfl) (Or.inl (by kernel_rfl)) (se_op xo_add (se_op xo_mul se_int (se_var 1 (by kernel_rfl) (Or.inl (by kernel_rfl)))) se_int)) (ss_cons (ss_if (st_cmp xo_lt (se_var 1 (by kernel_rfl) (Or.inl (by kernel_rfl))) (se_callB xc_len (by unfold Gl; kernel_rfl) T.b_len boo_len (sa_cons (se_var 0 (by kernel_rfl) (Or.inl (by kernel_rfl))) sa_nil))) (ss_one (ss_set sc__law_box.nd (by kernel_rfl) (Or.inl (by kernel_rfl)) (se_ix xi_ix (se_var 0 (by kernel_rfl) (Or.inl (by kernel_rfl))) (se_var 1 (by kernel_rfl) (Or.inl (by kernel_rfl)))))) ss_nil) (ss_cons (ss_if (st_cmp (xo_eqP hr) (se_op xo_mod (se_var 2 (by kernel_rfl) (Or.inl (by kernel_rfl))) se_int) se_int) (ss_one (ss_ret (se_new (sa_cons (se_op xo_fdiv (se_var 2 (by kernel_rfl) (Or.inl (by kernel_rfl))) se_int) sa_nil)))) ss_nil) (ss_cons (ss_set sc__law_box.nd (by kernel_rfl) (Or.inl (by kernel_rfl)) se_int) (ss_cons (ss_for PassesOwn.never rfl (si_range1 (by unfold Gl; kernel_rfl) T.b_range (sa_cons se_int sa_nil)) (sg_name sc__law_box.nd (by kernel_rfl) (Or.inl (by kernel_rfl))) (ss_cons (ss_set sc__law_box.nd (by kernel_rfl) (Or.inl (by kernel_rfl)) (se_op xo_mod (se_op xo_add (se_op xo_add (se_op xo_mul (se_op xo_mod (se_var 2 (by kernel_rfl) (Or.inl (by kernel_rfl))) se_int) se_int) (se_op xo_mul se_int (se_var 4 (by kernel_rfl) (Or.inl (by kernel_rfl))))) se_int) se_int)) (ss_cons (ss_set sc__law_box.nd (by kernel_rfl) (Or.inl (by kernel_rfl)) (se_op xo_mod (se_op xo_mul (se_var 5 (by kernel_rfl) (Or.inl (by kernel_rfl))) (se_var 5 (by kernel_rfl) (Or.inl (by kernel_rfl)))) se_int)) (ss_one (ss_set sc__law_box.nd (by kernel_rfl) (Or.inl (by kernel_rfl)) (se_op xo_add (se_op xo_mul (se_var 3 (by kernel_rfl) (Or.inl (by kernel_rfl))) se_int) (se_op xo_mod (se_op xo_mul (se_var 5 (by kernel_rfl) (Or.inl (by kernel_rfl))) (se_op xo_add (se_var 5 (by kernel_rfl) (Or.inl (by kernel_rfl))) se_int)) se_int))))))) (ss_one (ss_ret (se_new (sa_cons (se_var 3 (by kernel_rfl) (Or.inl (by kernel_rfl))) sa_nil)))))))))
theorem sc__law_take:FnScope ["box","many","left","digit"] ["box","many"] (defScope st__law_take):=⟨by kernel_rfl,by kernel_rfl,by kernel_rfl,by decide +kernel,rfl,by decide +kernel,by decide +kernel⟩
theorem ok__law_take {f:Addr} {fd:FuncData} (F:Fun K "_law_take" "_law_take" st__law_take f fd) (hm:mg "_law_take" = some (.ref f)) (hb:Binds K fd ["box","many"] []) (T:Txt K mg) :DefN P w K mg base "_law_take" 1 2 F__law_take:=
 def_ofN ["box","many","left","digit"] ["box","many"] 0 1 2 4 rfl rfl rfl F hm hb sc__law_take (m:=m__law_take) fun cdv A outer s H E hr=>(ss_cons (ss_asg (se_callB xc_divmod (by unfold Gl; kernel_rfl) T.b_divmod boo_divmod (sa_cons (se_ix xi_ix (se_var 0 (by kernel_rfl) (Or.inl (by kernel_rfl))) se_int) (sa_cons (se_var 1 (by kernel_rfl) (Or.inl (by kernel_rfl))) sa_nil))) (sg_tup rfl (sgs_cons (sg_name sc__law_take.nd (by kernel_rfl) (Or.inl (by kernel_rfl))) (sgs_cons (sg_name sc__law_take.nd (by kernel_rfl) (Or.inl (by kernel_rfl))) sgs_nil)))) (ss_cons (ss_put xs_put (se_var 2 (by kernel_rfl) (Or.inl (by kernel_rfl))) (se_var 0 (by kernel_rfl) (Or.inl (by kernel_rfl))) se_int) (ss_one (ss_ret (se_var 3 (by kernel_rfl) (Or.inl (by kernel_rfl)))))))
theorem sc_Keeper_times_n:FnScope ["self","number"] ["self","number"] (defScope st_Keeper_times_n):=⟨by kernel_rfl,by kernel_rfl,by kernel_rfl,by decide +kernel,rfl,by decide +kernel,by decide +kernel⟩
theorem ok_Keeper_times_n {C f:Addr} {fd:FuncData} (F:Fun K "times" "Keeper.times" st_Keeper_times_n f fd) (ns:PySem.W.nsIn K mainGlobals "Keeper" = some (some (.ref C))) (hc:L2.Cls K C) (hm:Meth K C "times" f) (hb:Binds K fd ["self","number"] []) (T:Txt K mg) (d_many_met_n:DefN P w K mg base "many_met" 5 2 F_many_met_n):MetN P w K mg base "Keeper" "times" 6 2 F_Keeper_times_n:=
 met_ofN ["self","number"] ["self","number"] 5 6 2 2 rfl rfl rfl F ns hc hm hb sc_Keeper_times_n (m:=m_Keeper_times_n) fun cdv A outer s H E hr=>(ss_one (ss_ret (se_comp (N:=["many","self","number"]) (k:=1) (caps:=[0,1]) rfl (fun _ _ z=>z) (cs_mk (by kernel_rfl) (by kernel_rfl) (by kernel_rfl) (by kernel_rfl) rfl (by kernel_rfl)) (si_range1 (by unfold Gl; kernel_rfl) T.b_range (sa_cons (se_op xo_add (se_callB xc_len (by unfold Gl; kernel_rfl) T.b_len boo_len (sa_cons (se_fld T.kc_Keeper T.na_Keeper_numbers (se_var 0 (by kernel_rfl) (Or.inr (Or.inl (by kernel_rfl))))) sa_nil)) se_int) sa_nil)) (fun _ _ _ _=>(sg_name (show (["many","self","number"]:List Str).Nodup by decide +kernel) (by kernel_rfl) (Or.inl (by kernel_rfl)))) (fun _ _ _ _=>(sif_one (st_cmp xo_gt (se_fnN d_many_met_n (hr.mono (by decide)) (by unfold Gl; kernel_rfl) (sa_cons (se_sl xl_tup (se_fld T.kc_Keeper T.na_Keeper_numbers (se_var 1 (by kernel_rfl) (Or.inr (Or.inl (by kernel_rfl))))) so_none (so_some (se_var 0 (by kernel_rfl) (Or.inl (by kernel_rfl))))) (sa_cons (se_var 2 (by kernel_rfl) (Or.inr (Or.inl (by kernel_rfl)))) sa_nil)) (alen_cons (alen_cons alen_nil))) se_int))) (fun _ _ _ _=>(se_var 0 (by kernel_rfl) (Or.inl (by kernel_rfl)))))))
theorem sc__law_told_n:FnScope ["keeper","number"] ["keeper","number"] (defScope st__law_told_n):=⟨by kernel_rfl,by kernel_rfl,by kernel_rfl,by decide +kernel,rfl,by decide +kernel,by decide +kernel⟩
theorem ok__law_told_n {f:Addr} {fd:FuncData} (F:Fun K "_law_told" "_law_told" st__law_told_n f fd) (hm:mg "_law_told" = some (.ref f)) (hb:Binds K fd ["keeper","number"] []) (T:Txt K mg) (d_Keeper_first_n:MetN P w K mg base "Keeper" "first" 6 2 F_Keeper_first_n) (d_Keeper_row:MetN P w K mg base "Keeper" "row" 1 1 F_Keeper_row) (d_Keeper_times_n:MetN P w K mg base "Keeper" "times" 6 2 F_Keeper_times_n) (d_Keeper_ways_n:MetN P w K mg base "Keeper" "ways" 6 2 F_Keeper_ways_n) (d_Keeper_worths_many:MetN P w K mg base "Keeper" "worths_many" 3 1 F_Keeper_worths_many):DefN P w K mg base "_law_told" 7 2 F__law_told_n:=
 def_ofN ["keeper","number"] ["keeper","number"] 6 7 2 2 rfl rfl rfl F hm hb sc__law_told_n (m:=m__law_told_n) fun cdv A outer s H E hr=>(ss_one (ss_ret (se_tup (sa_cons (se_metN0 d_Keeper_row (hr.mono (by decide)) (se_var 0 (by kernel_rfl) (Or.inl (by kernel_rfl)))) (sa_cons (se_metN0 d_Keeper_worths_many (hr.mono (by decide)) (se_var 0 (by kernel_rfl) (Or.inl (by kernel_rfl)))) (sa_cons (se_metN d_Keeper_ways_n (hr.mono (by decide)) (se_var 0 (by kernel_rfl) (Or.inl (by kernel_rfl))) (sa_cons (se_var 1 (by kernel_rfl) (Or.inl (by kernel_rfl))) sa_nil) (alen_cons alen_nil)) (sa_cons (se_metN d_Keeper_first_n (hr.mono (by decide)) (se_var 0 (by kernel_rfl) (Or.inl (by kernel_rfl))) (sa_cons (se_var 1 (by kernel_rfl) (Or.inl (by kernel_rfl))) sa_nil) (alen_cons alen_nil)) (sa_cons (se_metN d_Keeper_times_n (hr.mono (by decide)) (se_var 0 (by kernel_rfl) (Or.inl (by kernel_rfl))) (sa_cons (se_var 1 (by kernel_rfl) (Or.inl (by kernel_rfl))) sa_nil) (alen_cons alen_nil)) sa_nil))))))))
theorem sc__law_turned_n:FnScope ["box","keeper","many","kind"] ["box","keeper","many"] (defScope st__law_turned_n):=⟨by kernel_rfl,by kernel_rfl,by kernel_rfl,by decide +kernel,rfl,by decide +kernel,by decide +kernel⟩
theorem ok__law_turned_n {f:Addr} {fd:FuncData} (F:Fun K "_law_turned" "_law_turned" st__law_turned_n f fd) (hm:mg "_law_turned" = some (.ref f)) (hb:Binds K fd ["box","keeper","many"] []) (T:Txt K mg) (d_Keeper_put_n:MetN P w K mg base "Keeper" "put" 4 2 F_Keeper_put_n) (d_Keeper_row:MetN P w K mg base "Keeper" "row" 1 1 F_Keeper_row) (d_Keeper_take_n:MetN P w K mg base "Keeper" "take" 2 1 F_Keeper_take_n) (d__law_take:DefN P w K mg base "_law_take" 1 2 F__law_take):DefN P w K mg base "_law_turned" 5 3 F__law_turned_n:=
 def_ofN ["box","keeper","many","kind"] ["box","keeper","many"] 4 5 3 4 rfl rfl rfl F hm hb sc__law_turned_n (m:=m__law_turned_n) fun cdv A outer s H E hr=>(ss_cons (ss_set sc__law_turned_n.nd (by kernel_rfl) (Or.inl (by kernel_rfl)) (se_fnN d__law_take (hr.mono (by decide)) (by unfold Gl; kernel_rfl) (sa_cons (se_var 0 (by kernel_rfl) (Or.inl (by kernel_rfl))) (sa_cons se_int sa_nil)) (alen_cons (alen_cons alen_nil)))) (ss_one (ss_if (sw_st (sw_and (st_cmp xo_lt (se_var 3 (by kernel_rfl) (Or.inl (by kernel_rfl))) se_int) (sw_and1 (st_cmp xo_lt (se_callB xc_len (by unfold Gl; kernel_rfl) T.b_len boo_len (sa_cons (se_metN0 d_Keeper_row (hr.mono (by decide)) (se_var 1 (by kernel_rfl) (Or.inl (by kernel_rfl)))) sa_nil)) (se_var 2 (by kernel_rfl) (Or.inl (by kernel_rfl))))))) (ss_one (ss_expr (se_metN d_Keeper_put_n (hr.mono (by decide)) (se_var 1 (by kernel_rfl) (Or.inl (by kernel_rfl))) (sa_cons (se_op xo_add se_int (se_fnN d__law_take (hr.mono (by decide)) (by unfold Gl; kernel_rfl) (sa_cons (se_var 0 (by kernel_rfl) (Or.inl (by kernel_rfl))) (sa_cons (se_ix xi_ix (se_lst (sa_cons se_int (sa_cons se_int sa_nil))) (se_op xo_mod (se_var 3 (by kernel_rfl) (Or.inl (by kernel_rfl))) se_int)) sa_nil)) (alen_cons (alen_cons alen_nil)))) sa_nil) (alen_cons alen_nil)))) (ss_one (ss_if (sw_st (sw_and (st_cmp (xo_eqP hr) (se_var 3 (by kernel_rfl) (Or.inl (by kernel_rfl))) se_int) (sw_and1 (st_cmp (xo_neP hr) (se_metN0 d_Keeper_row (hr.mono (by decide)) (se_var 1 (by kernel_rfl) (Or.inl (by kernel_rfl)))) (se_tup sa_nil))))) (ss_one (ss_expr (se_metN0 d_Keeper_take_n (hr.mono (by decide)) (se_var 1 (by kernel_rfl) (Or.inl (by kernel_rfl)))))) ss_nil)))))
theorem sc_law:FnScope ["script","k","box","keepers","lap","keeper","which","seen","other","number","goal"] ["script"] (defScope st_law):=⟨by kernel_rfl,by kernel_rfl,by kernel_rfl,by decide +kernel,rfl,by decide +kernel,by decide +kernel⟩
end
/-! what the top has written -/
theorem cls_mk {K:PySem.W.Frag}
  (gt:PySem.W.specialIn K (.builtin "object.__class__") "__get__" = some (some (.builtin "getset_descriptor.__get__")))
  (tk:PySem.W.takesIn K (.builtin "object.__class__")=some true):Cls K raisedX askedX isaX:=
 ⟨gt,tk,fun c hc=>by simp [raisedX] at hc,
  fun c hc k hk=>by simp [raisedX,askedX] at hc hk⟩
theorem us1 {p:List Value → Prop} (h:∀ a,p [a]) (us:List Value) (e:us.length=1):p us:=by
 rcases us with _ | ⟨a,_ | ⟨b,r⟩⟩
 · simp at e
 · exact h a
 · simp at e
theorem us2 {p:List Value → Prop} (h:∀ a b,p [a,b]) (us:List Value) (e:us.length=2):p us:=by
 rcases us with _ | ⟨a,_ | ⟨b,_ | ⟨c,r⟩⟩⟩
 · simp at e
 · simp at e
 · exact h a b
 · simp at e
theorem us3 {p:List Value → Prop} (h:∀ a b c,p [a,b,c]) (us:List Value) (e:us.length=3):p us:=by
 rcases us with _ | ⟨a,_ | ⟨b,_ | ⟨c,_ | ⟨d,r⟩⟩⟩⟩
 · simp at e
 · simp at e
 · simp at e
 · exact h a b c
 · simp at e
theorem all_mk {P:Program} {w:World} {K:PySem.W.Frag} {h:Heap} {mg:Str→Option Value} {fa:Addr} (X:K.In h) (G:h.Ns mainGlobals mg) (hfa:mg "law" = some (.ref fa)) {K_Keeper:Addr} {f0:Addr} {od0 an0:Option Addr} {sl0:Array (Option Value)} {oc0 kV0 dc0 pm0 cd0 ct0:Value} {f1:Addr} {od1 an1:Option Addr} {sl1:Array (Option Value)} {oc1 kV1 dc1 pm1 cd1 ct1:Value} {f2:Addr} {od2 an2:Option Addr} {sl2:Array (Option Value)} {oc2 kV2 dc2 pm2 cd2 ct2:Value} {f3:Addr} {od3 an3:Option Addr} {sl3:Array (Option Value)} {oc3 kV3 dc3 pm3 cd3 ct3:Value} {f4:Addr} {od4 an4:Option Addr} {sl4:Array (Option Value)} {oc4 kV4 dc4 pm4 cd4 ct4:Value} {f5:Addr} {od5 an5:Option Addr} {sl5:Array (Option Value)} {oc5 kV5 dc5 pm5 cd5 ct5:Value} {f6:Addr} {od6 an6:Option Addr} {sl6:Array (Option Value)} {oc6 kV6 dc6 pm6 cd6 ct6:Value} {f7:Addr} {od7 an7:Option Addr} {sl7:Array (Option Value)} {oc7 kV7 dc7 pm7 cd7 ct7:Value} {f8:Addr} {od8 an8:Option Addr} {sl8:Array (Option Value)} {oc8 kV8 dc8 pm8 cd8 ct8:Value} {f9:Addr} {od9 an9:Option Addr} {sl9:Array (Option Value)} {oc9 kV9 dc9 pm9 cd9 ct9:Value} {f10:Addr} {od10 an10:Option Addr} {sl10:Array (Option Value)} {oc10 kV10 dc10 pm10 cd10 ct10:Value} {f11:Addr} {od11 an11:Option Addr} {sl11:Array (Option Value)} {oc11 kV11 dc11 pm11 cd11 ct11:Value} {f12:Addr} {od12 an12:Option Addr} {sl12:Array (Option Value)} {oc12 kV12 dc12 pm12 cd12 ct12:Value} {f13:Addr} {od13 an13:Option Addr} {sl13:Array (Option Value)} {oc13 kV13 dc13 pm13 cd13 ct13:Value} {f14:Addr} {od14 an14:Option Addr} {sl14:Array (Option Value)} {oc14 kV14 dc14 pm14 cd14 ct14:Value} {f15:Addr} {od15 an15:Option Addr} {sl15:Array (Option Value)} {oc15 kV15 dc15 pm15 cd15 ct15:Value} {f16:Addr} {od16 an16:Option Addr} {sl16:Array (Option Value)} {oc16 kV16 dc16 pm16 cd16 ct16:Value} {f17:Addr} {od17 an17:Option Addr} {sl17:Array (Option Value)} {oc17 kV17 dc17 pm17 cd17 ct17:Value} {f18:Addr} {od18 an18:Option Addr} {sl18:Array (Option Value)} {oc18 kV18 dc18 pm18 cd18 ct18:Value} {f19:Addr} {od19 an19:Option Addr} {sl19:Array (Option Value)} {oc19 kV19 dc19 pm19 cd19 ct19:Value} {f20:Addr} {od20 an20:Option Addr} {sl20:Array (Option Value)} {oc20 kV20 dc20 pm20 cd20 ct20:Value} {f21:Addr} {od21 an21:Option Addr} {sl21:Array (Option Value)} {oc21 kV21 dc21 pm21 cd21 ct21:Value} {f22:Addr} {od22 an22:Option Addr} {sl22:Array (Option Value)} {oc22 kV22 dc22 pm22 cd22 ct22:Value} {f23:Addr} {od23 an23:Option Addr} {sl23:Array (Option Value)} {oc23 kV23 dc23 pm23 cd23 ct23:Value} {f24:Addr} {od24 an24:Option Addr} {sl24:Array (Option Value)} {oc24 kV24 dc24 pm24 cd24 ct24:Value} {f25:Addr} {od25 an25:Option Addr} {sl25:Array (Option Value)} {oc25 kV25 dc25 pm25 cd25 ct25:Value} {f26:Addr} {od26 an26:Option Addr} {sl26:Array (Option Value)} {oc26 kV26 dc26 pm26 cd26 ct26:Value} {f27:Addr} {od27 an27:Option Addr} {sl27:Array (Option Value)} {oc27 kV27 dc27 pm27 cd27 ct27:Value} {t_LONGEST_ROW:Tok} {A_SIGNS:Addr} {od_SIGNS:Option Addr} {n_SIGNS:Nat} {sl_SIGNS:Array (Option Value)} {u0_SIGNS:Tok} {u1_SIGNS:Tok}
  (kn_Keeper:PySem.W.nsIn K mainGlobals "Keeper" = some (some (.ref K_Keeper)))
  (kg_Keeper:PySem.W.plainGet K K_Keeper Str.empty=true)
  (kd_Keeper:PySem.W.hasDictIn K K_Keeper=true)
  (ko_Keeper:PySem.W.plainOver K K_Keeper=true)
  (ks_Keeper:PySem.W.findIn K (.ref K_Keeper) "__setattr__" = some (some (.builtin "object.__setattr__")))
  (kk_Keeper:PySem.W.keepIn K (.ref K_Keeper)=true)
  (kf_Keeper_earlier:PySem.W.findIn K (.ref K_Keeper) "earlier" = some none)
  (kf_Keeper_numbers:PySem.W.findIn K (.ref K_Keeper) "numbers" = some none)
  (a0:PySem.W.findIn K (.ref K_Keeper) "__init__" = some (some (.ref f0))) (gfn0:PySem.W.isFn K (.ref f0)=true) (mk0:PySem.W.makesIn K K_Keeper=true) (l0:K.lookup f0=some ⟨oc0,od0,.func (PySem.W.fnOf "__init__" "Keeper.__init__" (defArgs st_Keeper___init__) (defBody st_Keeper___init__) (defScope st_Keeper___init__) .none kV0 dc0 pm0 an0 cd0 ct0),sl0⟩) (c0:PySem.W.codeIn K cd0 "Keeper.__init__" = true) (k0:PySem.W.keepIn K (.ref f0)=true)
  (a1:PySem.W.findIn K (.ref K_Keeper) "back" = some (some (.ref f1))) (gfn1:PySem.W.isFn K (.ref f1)=true) (l1:K.lookup f1=some ⟨oc1,od1,.func (PySem.W.fnOf "back" "Keeper.back" (defArgs st_Keeper_back_n) (defBody st_Keeper_back_n) (defScope st_Keeper_back_n) .none kV1 dc1 pm1 an1 cd1 ct1),sl1⟩) (c1:PySem.W.codeIn K cd1 "Keeper.back" = true) (k1:PySem.W.keepIn K (.ref f1)=true)
  (a2:PySem.W.nsIn K mainGlobals "firsts_stepped" = some (some (.ref f2))) (l2:K.lookup f2=some ⟨oc2,od2,.func (PySem.W.fnOf "firsts_stepped" "firsts_stepped" (defArgs st_firsts_stepped) (defBody st_firsts_stepped) (defScope st_firsts_stepped) .none kV2 dc2 pm2 an2 cd2 ct2),sl2⟩) (c2:PySem.W.codeIn K cd2 "firsts_stepped" = true) (k2:PySem.W.keepIn K (.ref f2)=true)
  (a3:PySem.W.nsIn K mainGlobals "firsts_of" = some (some (.ref f3))) (l3:K.lookup f3=some ⟨oc3,od3,.func (PySem.W.fnOf "firsts_of" "firsts_of" (defArgs st_firsts_of) (defBody st_firsts_of) (defScope st_firsts_of) .none kV3 dc3 pm3 an3 cd3 ct3),sl3⟩) (c3:PySem.W.codeIn K cd3 "firsts_of" = true) (k3:PySem.W.keepIn K (.ref f3)=true)
  (a4:PySem.W.nsIn K mainGlobals "halves_of" = some (some (.ref f4))) (l4:K.lookup f4=some ⟨oc4,od4,.func (PySem.W.fnOf "halves_of" "halves_of" (defArgs st_halves_of) (defBody st_halves_of) (defScope st_halves_of) .none kV4 dc4 pm4 an4 cd4 ct4),sl4⟩) (c4:PySem.W.codeIn K cd4 "halves_of" = true) (k4:PySem.W.keepIn K (.ref f4)=true)
  (a5:PySem.W.nsIn K mainGlobals "is_whole" = some (some (.ref f5))) (l5:K.lookup f5=some ⟨oc5,od5,.func (PySem.W.fnOf "is_whole" "is_whole" (defArgs st_is_whole) (defBody st_is_whole) (defScope st_is_whole) .none kV5 dc5 pm5 an5 cd5 ct5),sl5⟩) (c5:PySem.W.codeIn K cd5 "is_whole" = true) (k5:PySem.W.keepIn K (.ref f5)=true)
  (a6:PySem.W.nsIn K mainGlobals "need_number" = some (some (.ref f6))) (l6:K.lookup f6=some ⟨oc6,od6,.func (PySem.W.fnOf "need_number" "need_number" (defArgs st_need_number_n) (defBody st_need_number_n) (defScope st_need_number_n) .none kV6 dc6 pm6 an6 cd6 ct6),sl6⟩) (c6:PySem.W.codeIn K cd6 "need_number" = true) (k6:PySem.W.keepIn K (.ref f6)=true)
  (a7:PySem.W.nsIn K mainGlobals "is_row" = some (some (.ref f7))) (l7:K.lookup f7=some ⟨oc7,od7,.func (PySem.W.fnOf "is_row" "is_row" (defArgs st_is_row) (defBody st_is_row) (defScope st_is_row) .none kV7 dc7 pm7 an7 cd7 ct7),sl7⟩) (c7:PySem.W.codeIn K cd7 "is_row" = true) (k7:PySem.W.keepIn K (.ref f7)=true)
  (a8:PySem.W.nsIn K mainGlobals "need_row" = some (some (.ref f8))) (l8:K.lookup f8=some ⟨oc8,od8,.func (PySem.W.fnOf "need_row" "need_row" (defArgs st_need_row_n) (defBody st_need_row_n) (defScope st_need_row_n) .none kV8 dc8 pm8 an8 cd8 ct8),sl8⟩) (c8:PySem.W.codeIn K cd8 "need_row" = true) (k8:PySem.W.keepIn K (.ref f8)=true)
  (a9:PySem.W.nsIn K mainGlobals "need_row_and_number" = some (some (.ref f9))) (l9:K.lookup f9=some ⟨oc9,od9,.func (PySem.W.fnOf "need_row_and_number" "need_row_and_number" (defArgs st_need_row_and_number_n) (defBody st_need_row_and_number_n) (defScope st_need_row_and_number_n) .none kV9 dc9 pm9 an9 cd9 ct9),sl9⟩) (c9:PySem.W.codeIn K cd9 "need_row_and_number" = true) (k9:PySem.W.keepIn K (.ref f9)=true)
  (a10:PySem.W.nsIn K mainGlobals "first_met" = some (some (.ref f10))) (l10:K.lookup f10=some ⟨oc10,od10,.func (PySem.W.fnOf "first_met" "first_met" (defArgs st_first_met_n) (defBody st_first_met_n) (defScope st_first_met_n) .none kV10 dc10 pm10 an10 cd10 ct10),sl10⟩) (c10:PySem.W.codeIn K cd10 "first_met" = true) (k10:PySem.W.keepIn K (.ref f10)=true)
  (a11:PySem.W.findIn K (.ref K_Keeper) "first" = some (some (.ref f11))) (gfn11:PySem.W.isFn K (.ref f11)=true) (l11:K.lookup f11=some ⟨oc11,od11,.func (PySem.W.fnOf "first" "Keeper.first" (defArgs st_Keeper_first_n) (defBody st_Keeper_first_n) (defScope st_Keeper_first_n) .none kV11 dc11 pm11 an11 cd11 ct11),sl11⟩) (c11:PySem.W.codeIn K cd11 "Keeper.first" = true) (k11:PySem.W.keepIn K (.ref f11)=true)
  (a12:PySem.W.findIn K (.ref K_Keeper) "change" = some (some (.ref f12))) (gfn12:PySem.W.isFn K (.ref f12)=true) (l12:K.lookup f12=some ⟨oc12,od12,.func (PySem.W.fnOf "change" "Keeper.change" (defArgs st_Keeper_change) (defBody st_Keeper_change) (defScope st_Keeper_change) .none kV12 dc12 pm12 an12 cd12 ct12),sl12⟩) (c12:PySem.W.codeIn K cd12 "Keeper.change" = true) (k12:PySem.W.keepIn K (.ref f12)=true)
  (a13:PySem.W.nsIn K mainGlobals "need_number_from" = some (some (.ref f13))) (l13:K.lookup f13=some ⟨oc13,od13,.func (PySem.W.fnOf "need_number_from" "need_number_from" (defArgs st_need_number_from_n) (defBody st_need_number_from_n) (defScope st_need_number_from_n) .none kV13 dc13 pm13 an13 cd13 ct13),sl13⟩) (c13:PySem.W.codeIn K cd13 "need_number_from" = true) (k13:PySem.W.keepIn K (.ref f13)=true)
  (a14:PySem.W.findIn K (.ref K_Keeper) "put" = some (some (.ref f14))) (gfn14:PySem.W.isFn K (.ref f14)=true) (l14:K.lookup f14=some ⟨oc14,od14,.func (PySem.W.fnOf "put" "Keeper.put" (defArgs st_Keeper_put_n) (defBody st_Keeper_put_n) (defScope st_Keeper_put_n) .none kV14 dc14 pm14 an14 cd14 ct14),sl14⟩) (c14:PySem.W.codeIn K cd14 "Keeper.put" = true) (k14:PySem.W.keepIn K (.ref f14)=true)
  (a15:PySem.W.findIn K (.ref K_Keeper) "row" = some (some (.ref f15))) (gfn15:PySem.W.isFn K (.ref f15)=true) (l15:K.lookup f15=some ⟨oc15,od15,.func (PySem.W.fnOf "row" "Keeper.row" (defArgs st_Keeper_row) (defBody st_Keeper_row) (defScope st_Keeper_row) .none kV15 dc15 pm15 an15 cd15 ct15),sl15⟩) (c15:PySem.W.codeIn K cd15 "Keeper.row" = true) (k15:PySem.W.keepIn K (.ref f15)=true)
  (a16:PySem.W.findIn K (.ref K_Keeper) "take" = some (some (.ref f16))) (gfn16:PySem.W.isFn K (.ref f16)=true) (l16:K.lookup f16=some ⟨oc16,od16,.func (PySem.W.fnOf "take" "Keeper.take" (defArgs st_Keeper_take_n) (defBody st_Keeper_take_n) (defScope st_Keeper_take_n) .none kV16 dc16 pm16 an16 cd16 ct16),sl16⟩) (c16:PySem.W.codeIn K cd16 "Keeper.take" = true) (k16:PySem.W.keepIn K (.ref f16)=true)
  (a17:PySem.W.nsIn K mainGlobals "stepped" = some (some (.ref f17))) (l17:K.lookup f17=some ⟨oc17,od17,.func (PySem.W.fnOf "stepped" "stepped" (defArgs st_stepped) (defBody st_stepped) (defScope st_stepped) .none kV17 dc17 pm17 an17 cd17 ct17),sl17⟩) (c17:PySem.W.codeIn K cd17 "stepped" = true) (k17:PySem.W.keepIn K (.ref f17)=true)
  (a18:PySem.W.nsIn K mainGlobals "table_of" = some (some (.ref f18))) (l18:K.lookup f18=some ⟨oc18,od18,.func (PySem.W.fnOf "table_of" "table_of" (defArgs st_table_of) (defBody st_table_of) (defScope st_table_of) .none kV18 dc18 pm18 an18 cd18 ct18),sl18⟩) (c18:PySem.W.codeIn K cd18 "table_of" = true) (k18:PySem.W.keepIn K (.ref f18)=true)
  (a19:PySem.W.nsIn K mainGlobals "many_met" = some (some (.ref f19))) (l19:K.lookup f19=some ⟨oc19,od19,.func (PySem.W.fnOf "many_met" "many_met" (defArgs st_many_met_n) (defBody st_many_met_n) (defScope st_many_met_n) .none kV19 dc19 pm19 an19 cd19 ct19),sl19⟩) (c19:PySem.W.codeIn K cd19 "many_met" = true) (k19:PySem.W.keepIn K (.ref f19)=true)
  (a20:PySem.W.findIn K (.ref K_Keeper) "ways" = some (some (.ref f20))) (gfn20:PySem.W.isFn K (.ref f20)=true) (l20:K.lookup f20=some ⟨oc20,od20,.func (PySem.W.fnOf "ways" "Keeper.ways" (defArgs st_Keeper_ways_n) (defBody st_Keeper_ways_n) (defScope st_Keeper_ways_n) .none kV20 dc20 pm20 an20 cd20 ct20),sl20⟩) (c20:PySem.W.codeIn K cd20 "Keeper.ways" = true) (k20:PySem.W.keepIn K (.ref f20)=true)
  (a21:PySem.W.findIn K (.ref K_Keeper) "worths_many" = some (some (.ref f21))) (gfn21:PySem.W.isFn K (.ref f21)=true) (l21:K.lookup f21=some ⟨oc21,od21,.func (PySem.W.fnOf "worths_many" "Keeper.worths_many" (defArgs st_Keeper_worths_many) (defBody st_Keeper_worths_many) (defScope st_Keeper_worths_many) .none kV21 dc21 pm21 an21 cd21 ct21),sl21⟩) (c21:PySem.W.codeIn K cd21 "Keeper.worths_many" = true) (k21:PySem.W.keepIn K (.ref f21)=true)
  (a22:PySem.W.nsIn K mainGlobals "_law_box" = some (some (.ref f22))) (l22:K.lookup f22=some ⟨oc22,od22,.func (PySem.W.fnOf "_law_box" "_law_box" (defArgs st__law_box) (defBody st__law_box) (defScope st__law_box) .none kV22 dc22 pm22 an22 cd22 ct22),sl22⟩) (c22:PySem.W.codeIn K cd22 "_law_box" = true) (k22:PySem.W.keepIn K (.ref f22)=true)
  (a23:PySem.W.nsIn K mainGlobals "_law_take" = some (some (.ref f23))) (l23:K.lookup f23=some ⟨oc23,od23,.func (PySem.W.fnOf "_law_take" "_law_take" (defArgs st__law_take) (defBody st__law_take) (defScope st__law_take) .none kV23 dc23 pm23 an23 cd23 ct23),sl23⟩) (c23:PySem.W.codeIn K cd23 "_law_take" = true) (k23:PySem.W.keepIn K (.ref f23)=true)
  (a24:PySem.W.findIn K (.ref K_Keeper) "times" = some (some (.ref f24))) (gfn24:PySem.W.isFn K (.ref f24)=true) (l24:K.lookup f24=some ⟨oc24,od24,.func (PySem.W.fnOf "times" "Keeper.times" (defArgs st_Keeper_times_n) (defBody st_Keeper_times_n) (defScope st_Keeper_times_n) .none kV24 dc24 pm24 an24 cd24 ct24),sl24⟩) (c24:PySem.W.codeIn K cd24 "Keeper.times" = true) (k24:PySem.W.keepIn K (.ref f24)=true)
  (a25:PySem.W.nsIn K mainGlobals "_law_told" = some (some (.ref f25))) (l25:K.lookup f25=some ⟨oc25,od25,.func (PySem.W.fnOf "_law_told" "_law_told" (defArgs st__law_told_n) (defBody st__law_told_n) (defScope st__law_told_n) .none kV25 dc25 pm25 an25 cd25 ct25),sl25⟩) (c25:PySem.W.codeIn K cd25 "_law_told" = true) (k25:PySem.W.keepIn K (.ref f25)=true)
  (a26:PySem.W.nsIn K mainGlobals "_law_turned" = some (some (.ref f26))) (l26:K.lookup f26=some ⟨oc26,od26,.func (PySem.W.fnOf "_law_turned" "_law_turned" (defArgs st__law_turned_n) (defBody st__law_turned_n) (defScope st__law_turned_n) .none kV26 dc26 pm26 an26 cd26 ct26),sl26⟩) (c26:PySem.W.codeIn K cd26 "_law_turned" = true) (k26:PySem.W.keepIn K (.ref f26)=true)
  (a27:PySem.W.nsIn K mainGlobals "law" = some (some (.ref f27))) (l27:K.lookup f27=some ⟨oc27,od27,.func (PySem.W.fnOf "law" "law" (defArgs st_law) (defBody st_law) (defScope st_law) .none kV27 dc27 pm27 an27 cd27 ct27),sl27⟩) (c27:PySem.W.codeIn K cd27 "law" = true) (k27:PySem.W.keepIn K (.ref f27)=true)
  (z_all:PySem.W.nsIn K mainGlobals "all" = some none)
  (z_bool:PySem.W.nsIn K mainGlobals "bool" = some none)
  (z_divmod:PySem.W.nsIn K mainGlobals "divmod" = some none)
  (z_int:PySem.W.nsIn K mainGlobals "int" = some none)
  (z_isinstance:PySem.W.nsIn K mainGlobals "isinstance" = some none)
  (z_len:PySem.W.nsIn K mainGlobals "len" = some none)
  (z_max:PySem.W.nsIn K mainGlobals "max" = some none)
  (z_min:PySem.W.nsIn K mainGlobals "min" = some none)
  (z_range:PySem.W.nsIn K mainGlobals "range" = some none)
  (z_sum:PySem.W.nsIn K mainGlobals "sum" = some none)
  (z_tuple:PySem.W.nsIn K mainGlobals "tuple" = some none)
  (z_LONGEST_ROW:PySem.W.nsIn K mainGlobals "LONGEST_ROW" = some (some (.int 16 t_LONGEST_ROW)))
  (zt_SIGNS:PySem.W.nsIn K mainGlobals "SIGNS" = some (some (.ref A_SIGNS))) (yt_SIGNS:K.lookup A_SIGNS=some ⟨.type "tuple",od_SIGNS,.seq #[.int (-1) u0_SIGNS,.int (1) u1_SIGNS] n_SIGNS,sl_SIGNS⟩)
  (gt:PySem.W.specialIn K (.builtin "object.__class__") "__get__" = some (some (.builtin "getset_descriptor.__get__")))
  (tk:PySem.W.takesIn K (.builtin "object.__class__")=some true):
  ∃ fd:FuncData,(∀ (s:Shared) (v:Value),BindsTo s fd ⟨[v],[]⟩ [("script",v)])∧∀ base:Heap,K.In base→base.Ns mainGlobals mg→FnOk P w K mg base (CX1 P w) 8 fa fd ["script"] (spN K 1 F_law):=by
 have e:=hfa.symm.trans (PySem.W.mg_of X G a27)
 cases e
 have T:Txt K mg:=⟨cls_mk gt tk,⟨_,kn_Keeper,⟨kg_Keeper,kd_Keeper,ko_Keeper,ks_Keeper⟩⟩,⟨_,kn_Keeper,kf_Keeper_earlier⟩,⟨_,kn_Keeper,kf_Keeper_numbers⟩,PySem.W.mg_none_of X G z_all,PySem.W.mg_none_of X G z_bool,PySem.W.mg_none_of X G z_divmod,PySem.W.mg_none_of X G z_int,PySem.W.mg_none_of X G z_isinstance,PySem.W.mg_none_of X G z_len,PySem.W.mg_none_of X G z_max,PySem.W.mg_none_of X G z_min,PySem.W.mg_none_of X G z_range,PySem.W.mg_none_of X G z_sum,PySem.W.mg_none_of X G z_tuple,⟨_,PySem.W.mg_of X G z_LONGEST_ROW⟩,tup2_mk X G zt_SIGNS yt_SIGNS⟩
 have F0:=fun_mk (st:=st_Keeper___init__) l0 c0 k0
 have b0:=F0.binds (ps:=["self"]) fun _ _ _ _ _ _=>us1 fun _=>rfl
 have F1:=fun_mk (st:=st_Keeper_back_n) l1 c1 k1
 have b1:=F1.binds (ps:=["self"]) fun _ _ _ _ _ _=>us1 fun _=>rfl
 have F2:=fun_mk (st:=st_firsts_stepped) l2 c2 k2
 have b2:=F2.binds (ps:=["firsts","step"]) fun _ _ _ _ _ _=>us2 fun _ _=>rfl
 have F3:=fun_mk (st:=st_firsts_of) l3 c3 k3
 have b3:=F3.binds (ps:=["row"]) fun _ _ _ _ _ _=>us1 fun _=>rfl
 have F4:=fun_mk (st:=st_halves_of) l4 c4 k4
 have b4:=F4.binds (ps:=["row"]) fun _ _ _ _ _ _=>us1 fun _=>rfl
 have F5:=fun_mk (st:=st_is_whole) l5 c5 k5
 have b5:=F5.binds (ps:=["thing"]) fun _ _ _ _ _ _=>us1 fun _=>rfl
 have F6:=fun_mk (st:=st_need_number_n) l6 c6 k6
 have b6:=F6.binds (ps:=["thing"]) fun _ _ _ _ _ _=>us1 fun _=>rfl
 have F7:=fun_mk (st:=st_is_row) l7 c7 k7
 have b7:=F7.binds (ps:=["thing"]) fun _ _ _ _ _ _=>us1 fun _=>rfl
 have F8:=fun_mk (st:=st_need_row_n) l8 c8 k8
 have b8:=F8.binds (ps:=["thing"]) fun _ _ _ _ _ _=>us1 fun _=>rfl
 have F9:=fun_mk (st:=st_need_row_and_number_n) l9 c9 k9
 have b9:=F9.binds (ps:=["row","number"]) fun _ _ _ _ _ _=>us2 fun _ _=>rfl
 have F10:=fun_mk (st:=st_first_met_n) l10 c10 k10
 have b10:=F10.binds (ps:=["row","number"]) fun _ _ _ _ _ _=>us2 fun _ _=>rfl
 have F11:=fun_mk (st:=st_Keeper_first_n) l11 c11 k11
 have b11:=F11.binds (ps:=["self","number"]) fun _ _ _ _ _ _=>us2 fun _ _=>rfl
 have F12:=fun_mk (st:=st_Keeper_change) l12 c12 k12
 have b12:=F12.binds (ps:=["self","numbers"]) fun _ _ _ _ _ _=>us2 fun _ _=>rfl
 have F13:=fun_mk (st:=st_need_number_from_n) l13 c13 k13
 have b13:=F13.binds (ps:=["least","thing"]) fun _ _ _ _ _ _=>us2 fun _ _=>rfl
 have F14:=fun_mk (st:=st_Keeper_put_n) l14 c14 k14
 have b14:=F14.binds (ps:=["self","number"]) fun _ _ _ _ _ _=>us2 fun _ _=>rfl
 have F15:=fun_mk (st:=st_Keeper_row) l15 c15 k15
 have b15:=F15.binds (ps:=["self"]) fun _ _ _ _ _ _=>us1 fun _=>rfl
 have F16:=fun_mk (st:=st_Keeper_take_n) l16 c16 k16
 have b16:=F16.binds (ps:=["self"]) fun _ _ _ _ _ _=>us1 fun _=>rfl
 have F17:=fun_mk (st:=st_stepped) l17 c17 k17
 have b17:=F17.binds (ps:=["table","step","choices"]) fun _ _ _ _ _ _=>us3 fun _ _ _=>rfl
 have F18:=fun_mk (st:=st_table_of) l18 c18 k18
 have b18:=F18.binds (ps:=["row","choices"]) fun _ _ _ _ _ _=>us2 fun _ _=>rfl
 have F19:=fun_mk (st:=st_many_met_n) l19 c19 k19
 have b19:=F19.binds (ps:=["row","number"]) fun _ _ _ _ _ _=>us2 fun _ _=>rfl
 have F20:=fun_mk (st:=st_Keeper_ways_n) l20 c20 k20
 have b20:=F20.binds (ps:=["self","number"]) fun _ _ _ _ _ _=>us2 fun _ _=>rfl
 have F21:=fun_mk (st:=st_Keeper_worths_many) l21 c21 k21
 have b21:=F21.binds (ps:=["self"]) fun _ _ _ _ _ _=>us1 fun _=>rfl
 have F22:=fun_mk (st:=st__law_box) l22 c22 k22
 have b22:=F22.binds (ps:=["script","k"]) fun _ _ _ _ _ _=>us2 fun _ _=>rfl
 have F23:=fun_mk (st:=st__law_take) l23 c23 k23
 have b23:=F23.binds (ps:=["box","many"]) fun _ _ _ _ _ _=>us2 fun _ _=>rfl
 have F24:=fun_mk (st:=st_Keeper_times_n) l24 c24 k24
 have b24:=F24.binds (ps:=["self","number"]) fun _ _ _ _ _ _=>us2 fun _ _=>rfl
 have F25:=fun_mk (st:=st__law_told_n) l25 c25 k25
 have b25:=F25.binds (ps:=["keeper","number"]) fun _ _ _ _ _ _=>us2 fun _ _=>rfl
 have F26:=fun_mk (st:=st__law_turned_n) l26 c26 k26
 have b26:=F26.binds (ps:=["box","keeper","many"]) fun _ _ _ _ _ _=>us3 fun _ _ _=>rfl
 have F27:=fun_mk (st:=st_law) l27 c27 k27
 have b27:=F27.binds (ps:=["script"]) fun _ _ _ _ _ _=>us1 fun _=>rfl
 refine ⟨PySem.W.fnOf "law" "law" (defArgs st_law) (defBody st_law) (defScope st_law) .none kV27 dc27 pm27 an27 cd27 ct27,fun s v=>.of_eq rfl,fun base _ _=>?_⟩
 have d_Keeper___init__:MakN P w K mg base "Keeper" 1 F_Keeper___init__:=ok_Keeper___init__ F0 kn_Keeper (PySem.W.mg_of X G kn_Keeper) ⟨mk0,a0,gfn0,kk_Keeper⟩ b0 T
 have d_Keeper_back_n:MetN P w K mg base "Keeper" "back" 1 1 F_Keeper_back_n:=ok_Keeper_back_n F1 kn_Keeper ⟨kg_Keeper,kd_Keeper,ko_Keeper,ks_Keeper⟩ ⟨a1,gfn1,k1⟩ b1 T
 have d_firsts_stepped:DefN P w K mg base "firsts_stepped" 1 2 F_firsts_stepped:=ok_firsts_stepped F2 (PySem.W.mg_of X G a2) b2 T
 have d_firsts_of:DefN P w K mg base "firsts_of" 2 1 F_firsts_of:=ok_firsts_of F3 (PySem.W.mg_of X G a3) b3 T d_firsts_stepped
 have d_halves_of:DefN P w K mg base "halves_of" 1 1 F_halves_of:=ok_halves_of F4 (PySem.W.mg_of X G a4) b4 T
 have d_is_whole:DefN P w K mg base "is_whole" 1 1 F_is_whole:=ok_is_whole F5 (PySem.W.mg_of X G a5) b5 T
 have d_need_number_n:DefN P w K mg base "need_number" 2 1 F_need_number_n:=ok_need_number_n F6 (PySem.W.mg_of X G a6) b6 T d_is_whole
 have d_is_row:DefN P w K mg base "is_row" 2 1 F_is_row:=ok_is_row F7 (PySem.W.mg_of X G a7) b7 T d_is_whole
 have d_need_row_n:DefN P w K mg base "need_row" 3 1 F_need_row_n:=ok_need_row_n F8 (PySem.W.mg_of X G a8) b8 T d_is_row
 have d_need_row_and_number_n:DefN P w K mg base "need_row_and_number" 4 2 F_need_row_and_number_n:=ok_need_row_and_number_n F9 (PySem.W.mg_of X G a9) b9 T d_need_number_n d_need_row_n
 have d_first_met_n:DefN P w K mg base "first_met" 5 2 F_first_met_n:=ok_first_met_n F10 (PySem.W.mg_of X G a10) b10 T d_firsts_of d_halves_of d_need_row_and_number_n
 have d_Keeper_first_n:MetN P w K mg base "Keeper" "first" 6 2 F_Keeper_first_n:=ok_Keeper_first_n F11 kn_Keeper ⟨kg_Keeper,kd_Keeper,ko_Keeper,ks_Keeper⟩ ⟨a11,gfn11,k11⟩ b11 T d_first_met_n
 have d_Keeper_change:MetN P w K mg base "Keeper" "change" 1 2 F_Keeper_change:=ok_Keeper_change F12 kn_Keeper ⟨kg_Keeper,kd_Keeper,ko_Keeper,ks_Keeper⟩ ⟨a12,gfn12,k12⟩ b12 T
 have d_need_number_from_n:DefN P w K mg base "need_number_from" 3 2 F_need_number_from_n:=ok_need_number_from_n F13 (PySem.W.mg_of X G a13) b13 T d_need_number_n
 have d_Keeper_put_n:MetN P w K mg base "Keeper" "put" 4 2 F_Keeper_put_n:=ok_Keeper_put_n F14 kn_Keeper ⟨kg_Keeper,kd_Keeper,ko_Keeper,ks_Keeper⟩ ⟨a14,gfn14,k14⟩ b14 T d_Keeper_change d_need_number_from_n
 have d_Keeper_row:MetN P w K mg base "Keeper" "row" 1 1 F_Keeper_row:=ok_Keeper_row F15 kn_Keeper ⟨kg_Keeper,kd_Keeper,ko_Keeper,ks_Keeper⟩ ⟨a15,gfn15,k15⟩ b15 T
 have d_Keeper_take_n:MetN P w K mg base "Keeper" "take" 2 1 F_Keeper_take_n:=ok_Keeper_take_n F16 kn_Keeper ⟨kg_Keeper,kd_Keeper,ko_Keeper,ks_Keeper⟩ ⟨a16,gfn16,k16⟩ b16 T d_Keeper_change
 have d_stepped:DefN P w K mg base "stepped" 1 3 F_stepped:=ok_stepped F17 (PySem.W.mg_of X G a17) b17 T
 have d_table_of:DefN P w K mg base "table_of" 2 2 F_table_of:=ok_table_of F18 (PySem.W.mg_of X G a18) b18 T d_stepped
 have d_many_met_n:DefN P w K mg base "many_met" 5 2 F_many_met_n:=ok_many_met_n F19 (PySem.W.mg_of X G a19) b19 T d_halves_of d_need_row_and_number_n d_table_of
 have d_Keeper_ways_n:MetN P w K mg base "Keeper" "ways" 6 2 F_Keeper_ways_n:=ok_Keeper_ways_n F20 kn_Keeper ⟨kg_Keeper,kd_Keeper,ko_Keeper,ks_Keeper⟩ ⟨a20,gfn20,k20⟩ b20 T d_many_met_n
 have d_Keeper_worths_many:MetN P w K mg base "Keeper" "worths_many" 3 1 F_Keeper_worths_many:=ok_Keeper_worths_many F21 kn_Keeper ⟨kg_Keeper,kd_Keeper,ko_Keeper,ks_Keeper⟩ ⟨a21,gfn21,k21⟩ b21 T d_table_of
 have d__law_box:DefN P w K mg base "_law_box" 1 2 F__law_box:=ok__law_box F22 (PySem.W.mg_of X G a22) b22 T
 have d__law_take:DefN P w K mg base "_law_take" 1 2 F__law_take:=ok__law_take F23 (PySem.W.mg_of X G a23) b23 T
 have d_Keeper_times_n:MetN P w K mg base "Keeper" "times" 6 2 F_Keeper_times_n:=ok_Keeper_times_n F24 kn_Keeper ⟨kg_Keeper,kd_Keeper,ko_Keeper,ks_Keeper⟩ ⟨a24,gfn24,k24⟩ b24 T d_many_met_n
 have d__law_told_n:DefN P w K mg base "_law_told" 7 2 F__law_told_n:=ok__law_told_n F25 (PySem.W.mg_of X G a25) b25 T d_Keeper_first_n d_Keeper_row d_Keeper_times_n d_Keeper_ways_n d_Keeper_worths_many
 have d__law_turned_n:DefN P w K mg base "_law_turned" 5 3 F__law_turned_n:=ok__law_turned_n F26 (PySem.W.mg_of X G a26) b26 T d_Keeper_put_n d_Keeper_row d_Keeper_take_n d__law_take
 exact law_ofN ["script","k","box","keepers","lap","keeper","which","seen","other","number","goal"] ["script"] 7 8 1 11 rfl rfl rfl (m:=m_law) F27 sc_law fun cdv A outer s H E hr=>(ss_cons (ss_for PassesOwn.never rfl (si_range1 (by unfold Gl; kernel_rfl) T.b_range (sa_cons (se_callB (xc_max rfl) (by unfold Gl; kernel_rfl) T.b_max boo_max (sa_cons se_int (sa_cons (se_callB (xc_min rfl) (by unfold Gl; kernel_rfl) T.b_min boo_min (sa_cons (se_callB xc_len (by unfold Gl; kernel_rfl) T.b_len boo_len (sa_cons (se_var 0 (by kernel_rfl) (Or.inl (by kernel_rfl))) sa_nil)) (sa_cons se_int sa_nil))) sa_nil))) sa_nil)) (sg_name sc_law.nd (by kernel_rfl) (Or.inl (by kernel_rfl))) (ss_cons (ss_set sc_law.nd (by kernel_rfl) (Or.inl (by kernel_rfl)) (se_fnN d__law_box (hr.mono (by decide)) (by unfold Gl; kernel_rfl) (sa_cons (se_var 0 (by kernel_rfl) (Or.inl (by kernel_rfl))) (sa_cons (se_var 1 (by kernel_rfl) (Or.inl (by kernel_rfl))) sa_nil)) (alen_cons (alen_cons alen_nil)))) (ss_cons (ss_set sc_law.nd (by kernel_rfl) (Or.inl (by kernel_rfl)) (se_lst (sa_cons (se_mak d_Keeper___init__ (hr.mono (by decide)) (by unfold Gl; kernel_rfl)) (sa_cons (se_mak d_Keeper___init__ (hr.mono (by decide)) (by unfold Gl; kernel_rfl)) sa_nil)))) (ss_cons (ss_for PassesOwn.never rfl (si_range1 (by unfold Gl; kernel_rfl) T.b_range (sa_cons se_int sa_nil)) (sg_name sc_law.nd (by kernel_rfl) (Or.inl (by kernel_rfl))) (ss_cons (ss_set sc_law.nd (by kernel_rfl) (Or.inl (by kernel_rfl)) (se_op xo_mod (se_var 4 (by kernel_rfl) (Or.inl (by kernel_rfl))) se_int)) (ss_cons (ss_set sc_law.nd (by kernel_rfl) (Or.inl (by kernel_rfl)) (se_fnN d__law_told_n (hr.mono (by decide)) (by unfold Gl; kernel_rfl) (sa_cons (se_ix xi_ix (se_var 3 (by kernel_rfl) (Or.inl (by kernel_rfl))) (se_op xo_sub se_int (se_var 6 (by kernel_rfl) (Or.inl (by kernel_rfl))))) (sa_cons (se_var 4 (by kernel_rfl) (Or.inl (by kernel_rfl))) sa_nil)) (alen_cons (alen_cons alen_nil)))) (ss_cons (ss_expr (se_fnN d__law_turned_n (hr.mono (by decide)) (by unfold Gl; kernel_rfl) (sa_cons (se_var 2 (by kernel_rfl) (Or.inl (by kernel_rfl))) (sa_cons (se_ix xi_ix (se_var 3 (by kernel_rfl) (Or.inl (by kernel_rfl))) (se_var 6 (by kernel_rfl) (Or.inl (by kernel_rfl)))) (sa_cons se_int sa_nil))) (alen_cons (alen_cons (alen_cons alen_nil))))) (ss_one (ss_if (st_cmp (xo_neP hr) (se_fnN d__law_told_n (hr.mono (by decide)) (by unfold Gl; kernel_rfl) (sa_cons (se_ix xi_ix (se_var 3 (by kernel_rfl) (Or.inl (by kernel_rfl))) (se_op xo_sub se_int (se_var 6 (by kernel_rfl) (Or.inl (by kernel_rfl))))) (sa_cons (se_var 4 (by kernel_rfl) (Or.inl (by kernel_rfl))) sa_nil)) (alen_cons (alen_cons alen_nil))) (se_var 7 (by kernel_rfl) (Or.inl (by kernel_rfl)))) (ss_one (ss_ret se_bl)) ss_nil)))))) (ss_one (ss_for PassesOwn.never rfl (si_seq (se_var 3 (by kernel_rfl) (Or.inl (by kernel_rfl)))) (sg_name sc_law.nd (by kernel_rfl) (Or.inl (by kernel_rfl))) (ss_cons (ss_set sc_law.nd (by kernel_rfl) (Or.inl (by kernel_rfl)) (se_mak d_Keeper___init__ (hr.mono (by decide)) (by unfold Gl; kernel_rfl))) (ss_cons (ss_for PassesOwn.never rfl (si_seq (se_metN0 d_Keeper_row (hr.mono (by decide)) (se_var 5 (by kernel_rfl) (Or.inl (by kernel_rfl))))) (sg_name sc_law.nd (by kernel_rfl) (Or.inl (by kernel_rfl))) (ss_one (ss_expr (se_metN d_Keeper_put_n (hr.mono (by decide)) (se_var 8 (by kernel_rfl) (Or.inl (by kernel_rfl))) (sa_cons (se_var 9 (by kernel_rfl) (Or.inl (by kernel_rfl))) sa_nil) (alen_cons alen_nil))))) (ss_cons (ss_set sc_law.nd (by kernel_rfl) (Or.inl (by kernel_rfl)) (se_op xo_sub (se_fnN d__law_take (hr.mono (by decide)) (by unfold Gl; kernel_rfl) (sa_cons (se_var 2 (by kernel_rfl) (Or.inl (by kernel_rfl))) (sa_cons se_int sa_nil)) (alen_cons (alen_cons alen_nil))) se_int)) (ss_cons (ss_set sc_law.nd (by kernel_rfl) (Or.inl (by kernel_rfl)) (se_fnN d__law_told_n (hr.mono (by decide)) (by unfold Gl; kernel_rfl) (sa_cons (se_var 5 (by kernel_rfl) (Or.inl (by kernel_rfl))) (sa_cons (se_var 10 (by kernel_rfl) (Or.inl (by kernel_rfl))) sa_nil)) (alen_cons (alen_cons alen_nil)))) (ss_cons (ss_if (sw_st (sw_or (st_cmp (xo_neP hr) (se_fnN d__law_told_n (hr.mono (by decide)) (by unfold Gl; kernel_rfl) (sa_cons (se_var 8 (by kernel_rfl) (Or.inl (by kernel_rfl))) (sa_cons (se_var 10 (by kernel_rfl) (Or.inl (by kernel_rfl))) sa_nil)) (alen_cons (alen_cons alen_nil))) (se_var 7 (by kernel_rfl) (Or.inl (by kernel_rfl)))) (sw_or1 (st_cmp (xo_neP hr) (se_metN d_Keeper_ways_n (hr.mono (by decide)) (se_var 5 (by kernel_rfl) (Or.inl (by kernel_rfl))) (sa_cons (se_var 10 (by kernel_rfl) (Or.inl (by kernel_rfl))) sa_nil) (alen_cons alen_nil)) (se_fnN d_many_met_n (hr.mono (by decide)) (by unfold Gl; kernel_rfl) (sa_cons (se_metN0 d_Keeper_row (hr.mono (by decide)) (se_var 5 (by kernel_rfl) (Or.inl (by kernel_rfl)))) (sa_cons (se_var 10 (by kernel_rfl) (Or.inl (by kernel_rfl))) sa_nil)) (alen_cons (alen_cons alen_nil))))))) (ss_one (ss_ret se_bl)) ss_nil) (ss_cons (ss_if (st_cmp (xo_neP hr) (se_metN d_Keeper_first_n (hr.mono (by decide)) (se_var 5 (by kernel_rfl) (Or.inl (by kernel_rfl))) (sa_cons (se_var 10 (by kernel_rfl) (Or.inl (by kernel_rfl))) sa_nil) (alen_cons alen_nil)) (se_fnN d_first_met_n (hr.mono (by decide)) (by unfold Gl; kernel_rfl) (sa_cons (se_metN0 d_Keeper_row (hr.mono (by decide)) (se_var 5 (by kernel_rfl) (Or.inl (by kernel_rfl)))) (sa_cons (se_var 10 (by kernel_rfl) (Or.inl (by kernel_rfl))) sa_nil)) (alen_cons (alen_cons alen_nil)))) (ss_one (ss_ret se_bl)) ss_nil) (ss_cons (ss_expr (se_metN d_Keeper_put_n (hr.mono (by decide)) (se_var 5 (by kernel_rfl) (Or.inl (by kernel_rfl))) (sa_cons (se_op xo_add se_int (se_fnN d__law_take (hr.mono (by decide)) (by unfold Gl; kernel_rfl) (sa_cons (se_var 2 (by kernel_rfl) (Or.inl (by kernel_rfl))) (sa_cons se_int sa_nil)) (alen_cons (alen_cons alen_nil)))) sa_nil) (alen_cons alen_nil))) (ss_cons (ss_if (st_not (st_chain xo_lt xo_le (se_ix xi_ix (se_var 7 (by kernel_rfl) (Or.inl (by kernel_rfl))) se_int) (se_metN0 d_Keeper_worths_many (hr.mono (by decide)) (se_var 5 (by kernel_rfl) (Or.inl (by kernel_rfl)))) (se_op xo_mul se_int (se_ix xi_ix (se_var 7 (by kernel_rfl) (Or.inl (by kernel_rfl))) se_int)))) (ss_one (ss_ret se_bl)) ss_nil) (ss_cons (ss_expr (se_metN0 d_Keeper_take_n (hr.mono (by decide)) (se_var 5 (by kernel_rfl) (Or.inl (by kernel_rfl))))) (ss_cons (ss_if (sw_st (sw_or (st_cmp (xo_neP hr) (se_fnN d__law_told_n (hr.mono (by decide)) (by unfold Gl; kernel_rfl) (sa_cons (se_var 5 (by kernel_rfl) (Or.inl (by kernel_rfl))) (sa_cons (se_var 10 (by kernel_rfl) (Or.inl (by kernel_rfl))) sa_nil)) (alen_cons (alen_cons alen_nil))) (se_var 7 (by kernel_rfl) (Or.inl (by kernel_rfl)))) (sw_or (st_cmp (xo_neP hr) (se_metN0 d_Keeper_back_n (hr.mono (by decide)) (se_var 5 (by kernel_rfl) (Or.inl (by kernel_rfl)))) (se_op xo_add (se_callB xc_len (by unfold Gl; kernel_rfl) T.b_len boo_len (sa_cons (se_ix xi_ix (se_var 7 (by kernel_rfl) (Or.inl (by kernel_rfl))) se_int) sa_nil)) se_int)) (sw_or1 (st_cmp (xo_neP hr) (se_metN0 d_Keeper_back_n (hr.mono (by decide)) (se_var 5 (by kernel_rfl) (Or.inl (by kernel_rfl)))) (se_callB xc_len (by unfold Gl; kernel_rfl) T.b_len boo_len (sa_cons (se_ix xi_ix (se_var 7 (by kernel_rfl) (Or.inl (by kernel_rfl))) se_int) sa_nil))))))) (ss_one (ss_ret se_bl)) ss_nil) (ss_one (ss_if (st_cmp (xo_neP hr) (se_fnN d__law_told_n (hr.mono (by decide)) (by unfold Gl; kernel_rfl) (sa_cons (se_var 5 (by kernel_rfl) (Or.inl (by kernel_rfl))) (sa_cons (se_var 10 (by kernel_rfl) (Or.inl (by kernel_rfl))) sa_nil)) (alen_cons (alen_cons alen_nil))) (se_var 7 (by kernel_rfl) (Or.inl (by kernel_rfl)))) (ss_one (ss_ret se_bl)) ss_nil)))))))))))))))))) (ss_one (ss_ret se_bl)))
theorem walk {l:PySem.W.OpenLaw} {q:Program} {loose:List Str} {XP:(Str→Option Value)→Heap→Prop} {YP:World→Heap→Prop} {d:DefRec} {K:Params→PySem.W.Frag} (hn:l.most=some 63) (hdf:d.params.defaults=[])
  (hY:∀ (w:World) (h:Heap),YP w h→(K w.params).In h)
  (F:∀ (w:World) (mg:Str→Option Value) (fa:Addr) (h:Heap),(K w.params).In h→h.Ns mainGlobals mg→mg d.name=some (.ref fa)→
   ∃ fd:FuncData,(∀ (s:Shared) (u:Value),BindsTo s fd ⟨[u],[]⟩ [("script",u)])∧∀ base:Heap,(K w.params).In base→base.Ns mainGlobals mg→FnOk l.prog w (K w.params) mg base (CX1 l.prog w) 8 fa fd ["script"] (spN (K w.params) 1 F_law)):
  PySem.W.WalkO q loose XP YP l.row.toRowW d [] (fun f vs=>PySem.call f vs):=
 L2.walk_of (n:=63) (k:=8) (x:="script") (CX:=fun w=>CX1 l.prog w) (sp:=fun w=>spN (K w.params) 1 F_law) hn (by decide) hdf ⟨rfl,by decide,by decide,rfl⟩ hY F (fun w H a ns hl ho hS=>law_spN law_true (K w.params) H a ns hl ho hS) fun _ _ _ _ _ z=>cx1_no z
end Lw
open PySem PySem.W PyProof.Rows
set_option maxRecDepth 100000 in
set_option maxHeartbeats 0 in
theorem PySem.Challenge.cw_plusless_k44_whole_keepers_holds : PySem.Challenge.rw_plusless_k44_whole_keepers.Holds := by
  w_on; o_law
  refine holds_open (q := Lw.hV) (loose := []) (Xt := Lw.hX) (XP := XL Lw.hV []) (Yf := Hook.obs (kHook Lw.hK Lw.hA Lw.hKA)) (Ya := Hook.val (kHook Lw.hK Lw.hA Lw.hKA)) (YP := Hook.says (kHook Lw.hK Lw.hA Lw.hKA)) (N := 7000) Lw.left (Hook.of (kHook Lw.hK Lw.hA Lw.hKA)) (Hook.keeps (kHook Lw.hK Lw.hA Lw.hKA)) (fun s e => xl_of s (Bool.and_eq_true_iff.mp e).1) XL.keeps (by rfl) (by rfl) (by rfl) (fun s e => recFacts_of (Bool.and_eq_true_iff.mp e).2) (by rfl) (by first | assumption | decide +kernel) (by decide +kernel) ⟨rfl, rfl, rfl, rfl, rfl, by decide +kernel⟩ ?hw ?hc
  case hw => w_witness2
  k_fill
  refine Lw.walk (l := PySem.Challenge.rw_plusless_k44_whole_keepers) rfl rfl (fun w h Y => PySem.W.kIn_of Y) ?F
  case F =>
    intro w mg fa h KX G hmg
    refine' Lw.all_mk KX G hmg ?kn_Keeper ?kg_Keeper ?kd_Keeper ?ko_Keeper ?ks_Keeper ?kk_Keeper ?kf_Keeper_earlier ?kf_Keeper_numbers ?a0 ?gfn0 ?mk0 ?l0 ?c0 ?k0 ?a1 ?gfn1 ?l1 ?c1 ?k1 ?a2 ?l2 ?c2 ?k2 ?a3 ?l3 ?c3 ?k3 ?a4 ?l4 ?c4 ?k4 ?a5 ?l5 ?c5 ?k5 ?a6 ?l6 ?c6 ?k6 ?a7 ?l7 ?c7 ?k7 ?a8 ?l8 ?c8 ?k8 ?a9 ?l9 ?c9 ?k9 ?a10 ?l10 ?c10 ?k10 ?a11 ?gfn11 ?l11 ?c11 ?k11 ?a12 ?gfn12 ?l12 ?c12 ?k12 ?a13 ?l13 ?c13 ?k13 ?a14 ?gfn14 ?l14 ?c14 ?k14 ?a15 ?gfn15 ?l15 ?c15 ?k15 ?a16 ?gfn16 ?l16 ?c16 ?k16 ?a17 ?l17 ?c17 ?k17 ?a18 ?l18 ?c18 ?k18 ?a19 ?l19 ?c19 ?k19 ?a20 ?gfn20 ?l20 ?c20 ?k20 ?a21 ?gfn21 ?l21 ?c21 ?k21 ?a22 ?l22 ?c22 ?k22 ?a23 ?l23 ?c23 ?k23 ?a24 ?gfn24 ?l24 ?c24 ?k24 ?a25 ?l25 ?c25 ?k25 ?a26 ?l26 ?c26 ?k26 ?a27 ?l27 ?c27 ?k27 ?z_all ?z_bool ?z_divmod ?z_int ?z_isinstance ?z_len ?z_max ?z_min ?z_range ?z_sum ?z_tuple ?z_LONGEST_ROW ?zt_SIGNS ?yt_SIGNS ?gt ?tk
    (case kn_Keeper => k_is)
    (case kg_Keeper => k_is)
    (case kd_Keeper => k_is)
    (case ko_Keeper => k_is)
    (case ks_Keeper => k_is)
    (case kk_Keeper => k_is)
    (case kf_Keeper_earlier => k_is)
    (case kf_Keeper_numbers => k_is)
    (case a0 => k_is)
    (case gfn0 => k_is)
    (case mk0 => k_is)
    (case l0 => k_is)
    (case c0 => k_is)
    (case k0 => k_is)
    (case a1 => k_is)
    (case gfn1 => k_is)
    (case l1 => k_is)
    (case c1 => k_is)
    (case k1 => k_is)
    (case a2 => k_is)
    (case l2 => k_is)
    (case c2 => k_is)
    (case k2 => k_is)
    (case a3 => k_is)
    (case l3 => k_is)
    (case c3 => k_is)
    (case k3 => k_is)
    (case a4 => k_is)
    (case l4 => k_is)
    (case c4 => k_is)
    (case k4 => k_is)
    (case a5 => k_is)
    (case l5 => k_is)
    (case c5 => k_is)
    (case k5 => k_is)
    (case a6 => k_is)
    (case l6 => k_is)
    (case c6 => k_is)
    (case k6 => k_is)
    (case a7 => k_is)
    (case l7 => k_is)
    (case c7 => k_is)
    (case k7 => k_is)
    (case a8 => k_is)
    (case l8 => k_is)
    (case c8 => k_is)
    (case k8 => k_is)
    (case a9 => k_is)
    (case l9 => k_is)
    (case c9 => k_is)
    (case k9 => k_is)
    (case a10 => k_is)
    (case l10 => k_is)
    (case c10 => k_is)
    (case k10 => k_is)
    (case a11 => k_is)
    (case gfn11 => k_is)
    (case l11 => k_is)
    (case c11 => k_is)
    (case k11 => k_is)
    (case a12 => k_is)
    (case gfn12 => k_is)
    (case l12 => k_is)
    (case c12 => k_is)
    (case k12 => k_is)
    (case a13 => k_is)
    (case l13 => k_is)
    (case c13 => k_is)
    (case k13 => k_is)
    (case a14 => k_is)
    (case gfn14 => k_is)
    (case l14 => k_is)
    (case c14 => k_is)
    (case k14 => k_is)
    (case a15 => k_is)
    (case gfn15 => k_is)
    (case l15 => k_is)
    (case c15 => k_is)
    (case k15 => k_is)
    (case a16 => k_is)
    (case gfn16 => k_is)
    (case l16 => k_is)
    (case c16 => k_is)
    (case k16 => k_is)
    (case a17 => k_is)
    (case l17 => k_is)
    (case c17 => k_is)
    (case k17 => k_is)
    (case a18 => k_is)
    (case l18 => k_is)
    (case c18 => k_is)
    (case k18 => k_is)
    (case a19 => k_is)
    (case l19 => k_is)
    (case c19 => k_is)
    (case k19 => k_is)
    (case a20 => k_is)
    (case gfn20 => k_is)
    (case l20 => k_is)
    (case c20 => k_is)
    (case k20 => k_is)
    (case a21 => k_is)
    (case gfn21 => k_is)
    (case l21 => k_is)
    (case c21 => k_is)
    (case k21 => k_is)
    (case a22 => k_is)
    (case l22 => k_is)
    (case c22 => k_is)
    (case k22 => k_is)
    (case a23 => k_is)
    (case l23 => k_is)
    (case c23 => k_is)
    (case k23 => k_is)
    (case a24 => k_is)
    (case gfn24 => k_is)
    (case l24 => k_is)
    (case c24 => k_is)
    (case k24 => k_is)
    (case a25 => k_is)
    (case l25 => k_is)
    (case c25 => k_is)
    (case k25 => k_is)
    (case a26 => k_is)
    (case l26 => k_is)
    (case c26 => k_is)
    (case k26 => k_is)
    (case a27 => k_is)
    (case l27 => k_is)
    (case c27 => k_is)
    (case k27 => k_is)
    (case z_all => k_is)
    (case z_bool => k_is)
    (case z_divmod => k_is)
    (case z_int => k_is)
    (case z_isinstance => k_is)
    (case z_len => k_is)
    (case z_max => k_is)
    (case z_min => k_is)
    (case z_range => k_is)
    (case z_sum => k_is)
    (case z_tuple => k_is)
    (case z_LONGEST_ROW => k_is)
    (case zt_SIGNS => k_is)
    (case yt_SIGNS => k_is)
    (case gt => k_is)
    (case tk => k_is)
