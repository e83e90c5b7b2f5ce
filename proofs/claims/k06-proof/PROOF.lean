import PyProof.Rows.All
import Wide.All
import OpenK.AllK
import Wide.FinOn
import PyProof.EqAt
import PyProof.EqKinds
import PyProof.TupleCall
import PyProof.ZipIter
import PyProof.EnumMake
import PyProof.Draws
import PyProof.LayNew
import PyProof.Rows.SortShell
import PyProof.IsRules
import PyProof.ListIndex
import PyProof.Cells
import PyProof.CompUse
import PyProof.DictItems
import PyProof.DictItemsLoops
import PyProof.Rows.MinMaxN
import PyProof.Rows.Range3
import KE.KRevIter
import PyProof.DictWalks
import PyProof.NeKinds
import PyProof.DictList
import PyProof.DictUpdate
import PyProof.Rows.Tup
import PyProof.FactsAll.tuple_2
import PyProof.Rows.CallKwBuiltin
import KE.KDictSum
import Lean
import PySem.Challenge.RW_plusless_k06_what_is_no_row
set_option Elab.async false
set_option linter.all false
set_option maxRecDepth 100000
set_option genSizeOf false
theorem Au.h2 (h:True:=by decide):True:=h
theorem Au.h5 (h:True:=by intro _; rfl):True:=h
theorem Au.h1 (h:True:=by rfl):True:=h
theorem Au.h8 (h:True:=by intro _ _ z; cases z):True:=h
theorem Au.h0 (h:True:=by kernel_rfl):True:=h
theorem Au.h3 (h:True:=by decide +kernel):True:=h
theorem Au.h9 (h:True:=by first | exact L2.nomark _ | kernel_rfl):True:=h
theorem Au.h4 (h:True:=by intro _; kernel_rfl):True:=h
theorem Au.h7 (h:True:=by first | left; rfl | right; kernel_rfl):True:=h
theorem ex5 {α β:Type} {a b c:α→β→Prop} {P:Prop} (z:∃ x y,a x y∧b x y∧c x y) (f:∀ x y,a x y→b x y→c x y→P):P:=by
 obtain ⟨x,y,u,v,w⟩:=z
 exact f x y u v w
namespace Lw
open PySem
noncomputable def top (i:Nat):Stmt:=PySem.Challenge.pw_plusless_k06_what_is_no_row.main.body.getD i (.Pass ⟨0,0,0,0⟩)
noncomputable def hdI (s:Stmt) (j:Nat):Stmt:=match s with
 | .ClassDef _ _ _ body _ _ _ _ _ _ _=>body.getD j (.Pass ⟨0,0,0,0⟩)
 | _=>.Pass ⟨0,0,0,0⟩
noncomputable def hdA (s:Stmt):Arguments:=match s with
 | .FunctionDef _ a _ _ _ _ _ _ _ _=>a
 | _=>{posonlyargs:=[],args:=[],vararg:=none,kwonlyargs:=[],kw_defaults:=[],kwarg:=none,defaults:=[]}
noncomputable def hdB (s:Stmt):List Stmt:=match s with
 | .FunctionDef _ _ b _ _ _ _ _ _ _=>b
 | _=>[]
noncomputable def hdS (s:Stmt):Scope:=match s with
 | .FunctionDef _ _ _ _ _ _ sc _ _ _=>sc
 | _=>{kind:=.function,names:=[],isGenerator:=false,isCoroutine:=false}
noncomputable def hE (P:Params) (n:Str) (t:Tok) (v:Value):DictEntry:={hash:=PyData.keyHash P n,key:=.str n t,val:=v}
noncomputable def hF (n:Str) (i:Nat) (m:Str) (t:Tok) (c:Addr):Obj:={cls:=.type "function",data:=.func {name:=n,qualname:=n,params:=hdA (top i),body:=.stmts (hdB (top i)),scope:=hdS (top i),globals:=3,closure:=[],defaults:=.none,kwdefaults:=.none,pyModule:=.str m t,code:=.ref c}}
noncomputable def hC (n:Str) (t0 t1 t2:Tok) (a b c d e:Int) (r0:Value) (f:Int) (r1 r2 r3 r4 r5:Value) (g h:Int) (t3:Tok):Obj:={cls:=.type "code",data:=.fields #[.str n t0,.str n t1,.str "/claim/cut.py" t2,.int a 0,.int b 0,.int c 0,.int d 0,.int e 0,r0,.bool true,.int f 0,r1,r2,r3,r4,r5,.int g 0,.int h 0,.str "/claim/cut.py" t3]}
noncomputable def hM (n q:Str) (i j:Nat) (m:Str) (t:Tok) (c:Addr):Obj:={cls:=.type "function",data:=.func {name:=n,qualname:=q,params:=hdA (hdI (top i) j),body:=.stmts (hdB (hdI (top i) j)),scope:=hdS (hdI (top i) j),globals:=3,closure:=[],defaults:=.none,kwdefaults:=.none,pyModule:=.str m t,code:=.ref c}}
noncomputable def hC2 (q n:Str) (t0 t1 t2:Tok) (a b c d e:Int) (r0:Value) (f:Int) (r1 r2 r3 r4 r5:Value) (g h:Int) (t3:Tok):Obj:={cls:=.type "code",data:=.fields #[.str n t0,.str q t1,.str "/claim/cut.py" t2,.int a 0,.int b 0,.int c 0,.int d 0,.int e 0,r0,.bool true,.int f 0,r1,r2,r3,r4,r5,.int g 0,.int h 0,.str "/claim/cut.py" t3]}
noncomputable def hK:Params→PySem.W.Frag:=fun P=>(nat_lit 2,{ cls:=.none,data:=.dict #[] })::
 (nat_lit 3,{ cls:=.type "dict",data:=.dict #[hE P "__name__" 165 (.str "law_plusless_k06_what_is_no_row" 893),hE P "__doc__" 166 .none,hE P "__package__" 167 .none,hE P "__loader__" 168 (.builtin "__main__.__loader__#opaque"),hE P "__spec__" 169 .none,hE P "__annotations__" 170 (.ref 6),hE P "__builtins__" 171 (.ref 4),hE P "__file__" 173 (.str "/claim/cut.py" 172),hE P "__cached__" 174 .none,hE P "PlusError" 206 (.ref 24),hE P "NoRow" 222 (.ref 37),hE P "NoNumber" 238 (.ref 49),hE P "NoSigns" 254 (.ref 61),hE P "TooMany" 270 (.ref 73),hE P "Lacking" 286 (.ref 85),hE P "NoText" 311 (.ref 104),hE P "LONGEST_ROW" 315 (.int 16 314),hE P "is_whole" 322 (.ref 113),hE P "are_whole" 328 (.ref 118),hE P "is_row" 334 (.ref 123),hE P "need_row" 341 (.ref 130),hE P "need_number" 348 (.ref 137),hE P "need_row_and_number" 356 (.ref 144),hE P "are_parts" 362 (.ref 149),hE P "are_so_many_signs" 368 (.ref 154),hE P "are_signs" 376 (.ref 161),hE P "need_parts" 384 (.ref 168),hE P "total" 391 (.ref 175),hE P "worth" 397 (.ref 180),hE P "turned" 403 (.ref 185),hE P "places_with" 409 (.ref 190),hE P "lots" 417 (.ref 197),hE P "kept" 423 (.ref 202),hE P "LONGEST_TABLED" 427 (.int 10 426),hE P "SIGNS" 431 (.ref 203),hE P "PARTS" 436 (.ref 204),hE P "need_few" 443 (.ref 211),hE P "need_few_and_number" 451 (.ref 218),hE P "stepped" 465 (.ref 225),hE P "table_of" 475 (.ref 232),hE P "sign_table" 482 (.ref 239),hE P "part_table" 489 (.ref 246),hE P "tables_from_behind" 499 (.ref 253),hE P "first_to" 505 (.ref 258),hE P "signs_to" 513 (.ref 265),hE P "parts_to" 521 (.ref 272),hE P "sign_ways" 529 (.ref 279),hE P "part_ways" 537 (.ref 286),hE P "is_rising" 543 (.ref 291),hE P "leads_on" 549 (.ref 296),hE P "are_layers" 555 (.ref 301),hE P "is_barred" 564 (.ref 308),hE P "is_wide_barred" 573 (.ref 315),hE P "least_layers" 584 (.ref 322),hE P "least_without" 594 (.ref 329),hE P "layers_for" 602 (.ref 336),hE P "wide_layers_for" 610 (.ref 343),hE P "is_rest" 616 (.ref 348),hE P "common_divisor" 627 (.ref 355),hE P "rest_for" 636 (.ref 362),hE P "halves_of" 646 (.ref 369),hE P "half_worths" 652 (.ref 374),hE P "many_met" 658 (.ref 379),hE P "firsts_stepped" 672 (.ref 386),hE P "firsts_of" 681 (.ref 393),hE P "first_met" 687 (.ref 398),hE P "walk" 700 (.ref 405),hE P "stair_for" 706 (.ref 410),hE P "is_stair" 712 (.ref 415),hE P "below" 718 (.ref 420),hE P "above" 724 (.ref 425),hE P "unevenness" 733 (.ref 432),hE P "evenest" 741 (.ref 439),hE P "evenest_many" 750 (.ref 446),hE P "parts_of_one" 756 (.ref 451),hE P "difference" 762 (.ref 456),hE P "difference_steps" 768 (.ref 461),hE P "differences" 774 (.ref 466),hE P "difference_signs" 782 (.ref 473),hE P "uneven_bound" 788 (.ref 478),hE P "uneven_paper" 795 (.ref 485),hE P "TIMES_BY_PARTS" 799 (.int 2 798),hE P "TIMES_BY_SIGNS" 801 (.int 1 800),hE P "ahead_of_too_great" 811 (.ref 492),hE P "every_by_parts" 818 (.ref 499),hE P "every_by_signs" 825 (.ref 506),hE P "missed_by_parts" 833 (.ref 513),hE P "missed_by_signs" 841 (.ref 520),hE P "part_towards" 849 (.ref 527),hE P "weighed" 862 (.ref 534),hE P "MARK_OF" 875 (.ref 535),hE P "PIECE" 877 (.int 60 876),hE P "figures_of" 886 (.ref 542),hE P "show" 892 (.ref 547),hE P "_law_cell" 902 (.ref 554),hE P "_law_mix" 912 (.ref 561),hE P "_law_box" 923 (.ref 568),hE P "_law_take" 933 (.ref 575),hE P "_law_row" 948 (.ref 582),hE P "_law_marks" 956 (.ref 589),hE P "_law_first" 964 (.ref 596),hE P "_law_second" 972 (.ref 603),hE P "_law_third" 980 (.ref 610),hE P "_law_fourth" 988 (.ref 617),hE P "_law_last" 996 (.ref 624),hE P "_law_said" 1006 (.ref 631),hE P "law" 1021 (.ref 638)] 107 })::
 (nat_lit 23,{ cls:=.type "dict",data:=.dict #[hE P "__module__" 196 (.str "plusless.errors" 187),hE P "__firstlineno__" 200 (.int 2 199),hE P "__static_attributes__" 201 (.ref 22),hE P "__weakref__" 203 (.ref 25),hE P "__doc__" 204 .none] 3 })::
 (nat_lit 24,{ cls:=.type "type",data:=.cls { name:="PlusError",bases:=[.type "ValueError"],mro:=[.ref 24,.type "ValueError",.type "Exception",.type "BaseException",.type "object"],ns:=23,qualname:="PlusError",subclasses:=[.ref 37,.ref 49,.ref 61,.ref 73,.ref 85,.ref 104] },slots:=#[some (.ref 15),none,some (.str "PlusError" 189),some (.str "PlusError" 197),some (.builtin "ValueError.__new__"),some (.bool true)] })::
 (nat_lit 36,{ cls:=.type "dict",data:=.dict #[hE P "__module__" 214 (.str "plusless.errors" 187),hE P "__firstlineno__" 218 (.int 4 217),hE P "__static_attributes__" 219 (.ref 35),hE P "__doc__" 220 .none] 2 })::
 (nat_lit 37,{ cls:=.type "type",data:=.cls { name:="NoRow",bases:=[.ref 24],mro:=[.ref 37,.ref 24,.type "ValueError",.type "Exception",.type "BaseException",.type "object"],ns:=36,qualname:="NoRow" },slots:=#[some (.ref 28),none,some (.str "NoRow" 207),some (.str "NoRow" 215),some (.builtin "ValueError.__new__"),some (.bool true)] })::
 (nat_lit 48,{ cls:=.type "dict",data:=.dict #[hE P "__module__" 230 (.str "plusless.errors" 187),hE P "__firstlineno__" 234 (.int 6 233),hE P "__static_attributes__" 235 (.ref 47),hE P "__doc__" 236 .none] 2 })::
 (nat_lit 49,{ cls:=.type "type",data:=.cls { name:="NoNumber",bases:=[.ref 24],mro:=[.ref 49,.ref 24,.type "ValueError",.type "Exception",.type "BaseException",.type "object"],ns:=48,qualname:="NoNumber" },slots:=#[some (.ref 40),none,some (.str "NoNumber" 223),some (.str "NoNumber" 231),some (.builtin "ValueError.__new__"),some (.bool true)] })::
 (nat_lit 60,{ cls:=.type "dict",data:=.dict #[hE P "__module__" 246 (.str "plusless.errors" 187),hE P "__firstlineno__" 250 (.int 8 249),hE P "__static_attributes__" 251 (.ref 59),hE P "__doc__" 252 .none] 2 })::
 (nat_lit 61,{ cls:=.type "type",data:=.cls { name:="NoSigns",bases:=[.ref 24],mro:=[.ref 61,.ref 24,.type "ValueError",.type "Exception",.type "BaseException",.type "object"],ns:=60,qualname:="NoSigns" },slots:=#[some (.ref 52),none,some (.str "NoSigns" 239),some (.str "NoSigns" 247),some (.builtin "ValueError.__new__"),some (.bool true)] })::
 (nat_lit 72,{ cls:=.type "dict",data:=.dict #[hE P "__module__" 262 (.str "plusless.errors" 187),hE P "__firstlineno__" 266 (.int 10 265),hE P "__static_attributes__" 267 (.ref 71),hE P "__doc__" 268 .none] 2 })::
 (nat_lit 73,{ cls:=.type "type",data:=.cls { name:="TooMany",bases:=[.ref 24],mro:=[.ref 73,.ref 24,.type "ValueError",.type "Exception",.type "BaseException",.type "object"],ns:=72,qualname:="TooMany" },slots:=#[some (.ref 64),none,some (.str "TooMany" 255),some (.str "TooMany" 263),some (.builtin "ValueError.__new__"),some (.bool true)] })::
 (nat_lit 84,{ cls:=.type "dict",data:=.dict #[hE P "__module__" 278 (.str "plusless.errors" 187),hE P "__firstlineno__" 282 (.int 12 281),hE P "__static_attributes__" 283 (.ref 83),hE P "__doc__" 284 .none] 2 })::
 (nat_lit 85,{ cls:=.type "type",data:=.cls { name:="Lacking",bases:=[.ref 24],mro:=[.ref 85,.ref 24,.type "ValueError",.type "Exception",.type "BaseException",.type "object"],ns:=84,qualname:="Lacking" },slots:=#[some (.ref 76),none,some (.str "Lacking" 271),some (.str "Lacking" 279),some (.builtin "ValueError.__new__"),some (.bool true)] })::
 (nat_lit 103,{ cls:=.type "dict",data:=.dict #[hE P "__module__" 294 (.str "plusless.errors" 187),hE P "__firstlineno__" 298 (.int 14 297),hE P "__init__" 306 (.ref 101),hE P "__static_attributes__" 308 (.ref 102),hE P "__doc__" 309 .none] 2 })::
 (nat_lit 104,{ cls:=.type "type",data:=.cls { name:="NoText",bases:=[.ref 24],mro:=[.ref 104,.ref 24,.type "ValueError",.type "Exception",.type "BaseException",.type "object"],ns:=103,qualname:="NoText" },slots:=#[some (.ref 88),none,some (.str "NoText" 287),some (.str "NoText" 295),some (.builtin "ValueError.__new__"),some (.bool true)] })::
 (nat_lit 112,hC "is_whole" 316 317 318 20 1 0 0 3 (.ref 107) 181 (.ref 108) .none (.ref 109) (.ref 110) (.ref 111) 320 20 321)::
 (nat_lit 113,hF "is_whole" 10 "plusless.rows" 312 112)::
 (nat_lit 122,hC "is_row" 329 330 331 24 1 0 0 3 (.ref 119) 181 (.ref 120) .none .none .none (.ref 121) 332 24 333)::
 (nat_lit 123,hF "is_row" 12 "plusless.rows" 312 122)::
 (nat_lit 129,hC "need_row" 335 336 337 28 1 0 0 3 (.ref 124) 181 (.ref 125) .none (.ref 126) (.ref 127) (.ref 128) 339 28 340)::
 (nat_lit 130,hF "need_row" 13 "plusless.rows" 312 129)::
 (nat_lit 143,hC "need_row_and_number" 349 350 351 34 2 0 0 3 (.ref 138) 181 (.ref 139) .none (.ref 140) (.ref 141) (.ref 142) 354 34 355)::
 (nat_lit 144,hF "need_row_and_number" 15 "plusless.rows" 312 143)::
 (nat_lit 148,hC "are_parts" 357 358 359 37 2 0 0 3 (.ref 145) 181 (.ref 146) .none .none .none (.ref 147) 360 37 361)::
 (nat_lit 149,hF "are_parts" 16 "plusless.rows" 312 148)::
 (nat_lit 160,hC "are_signs" 369 370 371 42 2 0 0 3 (.ref 155) 181 (.ref 156) .none (.ref 157) (.ref 158) (.ref 159) 374 42 375)::
 (nat_lit 161,hF "are_signs" 18 "plusless.rows" 312 160)::
 (nat_lit 167,hC "need_parts" 377 378 379 45 2 0 0 3 (.ref 162) 181 (.ref 163) .none (.ref 164) (.ref 165) (.ref 166) 382 45 383)::
 (nat_lit 168,hF "need_parts" 19 "plusless.rows" 312 167)::
 (nat_lit 174,hC "total" 385 386 387 48 1 0 0 3 (.ref 169) 181 (.ref 170) .none (.ref 171) (.ref 172) (.ref 173) 389 48 390)::
 (nat_lit 175,hF "total" 20 "plusless.rows" 312 174)::
 (nat_lit 179,hC "worth" 392 393 394 51 2 0 0 3 (.ref 176) 181 (.ref 177) .none .none .none (.ref 178) 395 51 396)::
 (nat_lit 180,hF "worth" 21 "plusless.rows" 312 179)::
 (nat_lit 184,hC "turned" 398 399 400 54 2 0 0 3 (.ref 181) 181 (.ref 182) .none .none .none (.ref 183) 401 54 402)::
 (nat_lit 185,hF "turned" 22 "plusless.rows" 312 184)::
 (nat_lit 196,hC "lots" 410 411 412 59 2 0 0 3 (.ref 191) 181 (.ref 192) .none (.ref 193) (.ref 194) (.ref 195) 415 59 416)::
 (nat_lit 197,hF "lots" 24 "plusless.rows" 312 196)::
 (nat_lit 201,hC "kept" 418 419 420 62 2 0 0 3 (.ref 198) 181 (.ref 199) .none .none .none (.ref 200) 421 62 422)::
 (nat_lit 202,hF "kept" 25 "plusless.rows" 312 201)::
 (nat_lit 210,hC "need_few" 437 438 439 71 1 0 0 3 (.ref 205) 181 (.ref 206) .none (.ref 207) (.ref 208) (.ref 209) 441 71 442)::
 (nat_lit 211,hF "need_few" 30 "plusless.tables" 424 210)::
 (nat_lit 217,hC "need_few_and_number" 444 445 446 75 2 0 0 3 (.ref 212) 181 (.ref 213) .none (.ref 214) (.ref 215) (.ref 216) 449 75 450)::
 (nat_lit 218,hF "need_few_and_number" 31 "plusless.tables" 424 217)::
 (nat_lit 238,hC "sign_table" 476 477 478 90 1 0 0 3 (.ref 233) 181 (.ref 234) .none (.ref 235) (.ref 236) (.ref 237) 480 90 481)::
 (nat_lit 239,hF "sign_table" 34 "plusless.tables" 424 238)::
 (nat_lit 245,hC "part_table" 483 484 485 93 1 0 0 3 (.ref 240) 181 (.ref 241) .none (.ref 242) (.ref 243) (.ref 244) 487 93 488)::
 (nat_lit 246,hF "part_table" 35 "plusless.tables" 424 245)::
 (nat_lit 264,hC "signs_to" 506 507 508 113 2 0 0 3 (.ref 259) 181 (.ref 260) .none (.ref 261) (.ref 262) (.ref 263) 511 113 512)::
 (nat_lit 265,hF "signs_to" 38 "plusless.tables" 424 264)::
 (nat_lit 271,hC "parts_to" 514 515 516 116 2 0 0 3 (.ref 266) 181 (.ref 267) .none (.ref 268) (.ref 269) (.ref 270) 519 116 520)::
 (nat_lit 272,hF "parts_to" 39 "plusless.tables" 424 271)::
 (nat_lit 278,hC "sign_ways" 522 523 524 119 2 0 0 3 (.ref 273) 181 (.ref 274) .none (.ref 275) (.ref 276) (.ref 277) 527 119 528)::
 (nat_lit 279,hF "sign_ways" 40 "plusless.tables" 424 278)::
 (nat_lit 285,hC "part_ways" 530 531 532 122 2 0 0 3 (.ref 280) 181 (.ref 281) .none (.ref 282) (.ref 283) (.ref 284) 535 122 536)::
 (nat_lit 286,hF "part_ways" 41 "plusless.tables" 424 285)::
 (nat_lit 307,hC "is_barred" 556 557 558 142 3 0 0 3 (.ref 302) 181 (.ref 303) .none (.ref 304) (.ref 305) (.ref 306) 562 142 563)::
 (nat_lit 308,hF "is_barred" 45 "plusless.tables" 424 307)::
 (nat_lit 314,hC "is_wide_barred" 565 566 567 145 3 0 0 3 (.ref 309) 181 (.ref 310) .none (.ref 311) (.ref 312) (.ref 313) 571 145 572)::
 (nat_lit 315,hF "is_wide_barred" 46 "plusless.tables" 424 314)::
 (nat_lit 335,hC "layers_for" 595 596 597 158 2 0 0 3 (.ref 330) 181 (.ref 331) .none (.ref 332) (.ref 333) (.ref 334) 600 158 601)::
 (nat_lit 336,hF "layers_for" 49 "plusless.tables" 424 335)::
 (nat_lit 342,hC "wide_layers_for" 603 604 605 161 2 0 0 3 (.ref 337) 181 (.ref 338) .none (.ref 339) (.ref 340) (.ref 341) 608 161 609)::
 (nat_lit 343,hF "wide_layers_for" 50 "plusless.tables" 424 342)::
 (nat_lit 347,hC "is_rest" 611 612 613 164 3 0 0 3 (.ref 344) 181 (.ref 345) .none .none .none (.ref 346) 614 164 615)::
 (nat_lit 348,hF "is_rest" 51 "plusless.tables" 424 347)::
 (nat_lit 361,hC "rest_for" 628 629 630 179 2 0 0 3 (.ref 356) 181 (.ref 357) .none (.ref 358) (.ref 359) (.ref 360) 634 179 635)::
 (nat_lit 362,hF "rest_for" 53 "plusless.tables" 424 361)::
 (nat_lit 373,hC "half_worths" 647 648 649 189 1 0 0 3 (.ref 370) 181 (.ref 371) .none .none .none (.ref 372) 650 189 651)::
 (nat_lit 374,hF "half_worths" 56 "plusless.halves" 637 373)::
 (nat_lit 378,hC "many_met" 653 654 655 192 2 0 0 3 (.ref 375) 181 (.ref 376) .none .none .none (.ref 377) 656 192 657)::
 (nat_lit 379,hF "many_met" 57 "plusless.halves" 637 378)::
 (nat_lit 397,hC "first_met" 682 683 684 209 2 0 0 3 (.ref 394) 181 (.ref 395) .none .none .none (.ref 396) 685 209 686)::
 (nat_lit 398,hF "first_met" 60 "plusless.halves" 637 397)::
 (nat_lit 409,hC "stair_for" 701 702 703 227 2 0 0 3 (.ref 406) 181 (.ref 407) .none .none .none (.ref 408) 704 227 705)::
 (nat_lit 410,hF "stair_for" 62 "plusless.halves" 637 409)::
 (nat_lit 414,hC "is_stair" 707 708 709 233 3 0 0 3 (.ref 411) 181 (.ref 412) .none .none .none (.ref 413) 710 233 711)::
 (nat_lit 415,hF "is_stair" 63 "plusless.halves" 637 414)::
 (nat_lit 419,hC "below" 713 714 715 238 2 0 0 3 (.ref 416) 181 (.ref 417) .none .none .none (.ref 418) 716 238 717)::
 (nat_lit 420,hF "below" 64 "plusless.halves" 637 419)::
 (nat_lit 424,hC "above" 719 720 721 241 2 0 0 3 (.ref 421) 181 (.ref 422) .none .none .none (.ref 423) 722 241 723)::
 (nat_lit 425,hF "above" 65 "plusless.halves" 637 424)::
 (nat_lit 431,hC "unevenness" 727 728 729 245 1 0 0 3 (.ref 426) 181 (.ref 427) .none (.ref 428) (.ref 429) (.ref 430) 731 245 732)::
 (nat_lit 432,hF "unevenness" 67 "plusless.evenness" 725 431)::
 (nat_lit 438,hC "evenest" 734 735 736 247 1 0 0 3 (.ref 433) 181 (.ref 434) .none (.ref 435) (.ref 436) (.ref 437) 739 247 740)::
 (nat_lit 439,hF "evenest" 68 "plusless.evenness" 725 438)::
 (nat_lit 445,hC "evenest_many" 742 743 744 250 1 0 0 3 (.ref 440) 181 (.ref 441) .none (.ref 442) (.ref 443) (.ref 444) 748 250 749)::
 (nat_lit 446,hF "evenest_many" 69 "plusless.evenness" 725 445)::
 (nat_lit 465,hC "differences" 769 770 771 266 1 0 0 3 (.ref 462) 181 (.ref 463) .none .none .none (.ref 464) 772 266 773)::
 (nat_lit 466,hF "differences" 73 "plusless.evenness" 725 465)::
 (nat_lit 472,hC "difference_signs" 775 776 777 269 1 0 0 3 (.ref 467) 181 (.ref 468) .none (.ref 469) (.ref 470) (.ref 471) 780 269 781)::
 (nat_lit 473,hF "difference_signs" 74 "plusless.evenness" 725 472)::
 (nat_lit 477,hC "uneven_bound" 783 784 785 275 2 0 0 3 (.ref 474) 181 (.ref 475) .none .none .none (.ref 476) 786 275 787)::
 (nat_lit 478,hF "uneven_bound" 75 "plusless.evenness" 725 477)::
 (nat_lit 484,hC "uneven_paper" 789 790 791 280 1 0 0 3 (.ref 479) 181 (.ref 480) .none (.ref 481) (.ref 482) (.ref 483) 793 280 794)::
 (nat_lit 485,hF "uneven_paper" 76 "plusless.evenness" 725 484)::
 (nat_lit 498,hC "every_by_parts" 812 813 814 293 1 0 0 3 (.ref 493) 181 (.ref 494) .none (.ref 495) (.ref 496) (.ref 497) 816 293 817)::
 (nat_lit 499,hF "every_by_parts" 81 "plusless.every" 796 498)::
 (nat_lit 505,hC "every_by_signs" 819 820 821 296 1 0 0 3 (.ref 500) 181 (.ref 501) .none (.ref 502) (.ref 503) (.ref 504) 823 296 824)::
 (nat_lit 506,hF "every_by_signs" 82 "plusless.every" 796 505)::
 (nat_lit 512,hC "missed_by_parts" 826 827 828 299 1 0 0 3 (.ref 507) 181 (.ref 508) .none (.ref 509) (.ref 510) (.ref 511) 831 299 832)::
 (nat_lit 513,hF "missed_by_parts" 83 "plusless.every" 796 512)::
 (nat_lit 519,hC "missed_by_signs" 834 835 836 303 1 0 0 3 (.ref 514) 181 (.ref 515) .none (.ref 516) (.ref 517) (.ref 518) 839 303 840)::
 (nat_lit 520,hF "missed_by_signs" 84 "plusless.every" 796 519)::
 (nat_lit 533,hC "weighed" 850 851 852 313 2 0 0 3 (.ref 528) 181 (.ref 529) .none (.ref 530) (.ref 531) (.ref 532) 860 313 861)::
 (nat_lit 534,hF "weighed" 86 "plusless.every" 796 533)::
 (nat_lit 546,hC "show" 887 888 889 337 2 0 0 3 (.ref 543) 181 (.ref 544) .none .none .none (.ref 545) 890 337 891)::
 (nat_lit 547,hF "show" 91 "plusless.texts" 863 546)::
 (nat_lit 553,hC "_law_cell" 895 896 897 341 2 0 0 3 (.ref 548) 181 (.ref 549) .none (.ref 550) (.ref 551) (.ref 552) 900 341 901)::
 (nat_lit 554,hF "_law_cell" 93 "law_plusless_k06_what_is_no_row" 893 553)::
 (nat_lit 560,hC "_law_mix" 903 904 905 345 2 0 0 3 (.ref 555) 181 (.ref 556) .none (.ref 557) (.ref 558) (.ref 559) 910 345 911)::
 (nat_lit 561,hF "_law_mix" 94 "law_plusless_k06_what_is_no_row" 893 560)::
 (nat_lit 567,hC "_law_box" 913 914 915 350 2 0 0 3 (.ref 562) 181 (.ref 563) .none (.ref 564) (.ref 565) (.ref 566) 921 350 922)::
 (nat_lit 568,hF "_law_box" 95 "law_plusless_k06_what_is_no_row" 893 567)::
 (nat_lit 574,hC "_law_take" 924 925 926 358 2 0 0 3 (.ref 569) 181 (.ref 570) .none (.ref 571) (.ref 572) (.ref 573) 931 358 932)::
 (nat_lit 575,hF "_law_take" 96 "law_plusless_k06_what_is_no_row" 893 574)::
 (nat_lit 581,hC "_law_row" 934 935 936 362 2 0 0 3 (.ref 576) 181 (.ref 577) .none (.ref 578) (.ref 579) (.ref 580) 946 362 947)::
 (nat_lit 582,hF "_law_row" 97 "law_plusless_k06_what_is_no_row" 893 581)::
 (nat_lit 588,hC "_law_marks" 949 950 951 372 1 0 0 3 (.ref 583) 181 (.ref 584) .none (.ref 585) (.ref 586) (.ref 587) 954 372 955)::
 (nat_lit 589,hF "_law_marks" 98 "law_plusless_k06_what_is_no_row" 893 588)::
 (nat_lit 595,hC "_law_first" 957 958 959 380 2 0 0 3 (.ref 590) 181 (.ref 591) .none (.ref 592) (.ref 593) (.ref 594) 962 380 963)::
 (nat_lit 596,hF "_law_first" 99 "law_plusless_k06_what_is_no_row" 893 595)::
 (nat_lit 602,hC "_law_second" 965 966 967 399 2 0 0 3 (.ref 597) 181 (.ref 598) .none (.ref 599) (.ref 600) (.ref 601) 970 399 971)::
 (nat_lit 603,hF "_law_second" 100 "law_plusless_k06_what_is_no_row" 893 602)::
 (nat_lit 609,hC "_law_third" 973 974 975 418 2 0 0 3 (.ref 604) 181 (.ref 605) .none (.ref 606) (.ref 607) (.ref 608) 978 418 979)::
 (nat_lit 610,hF "_law_third" 101 "law_plusless_k06_what_is_no_row" 893 609)::
 (nat_lit 616,hC "_law_fourth" 981 982 983 437 2 0 0 3 (.ref 611) 181 (.ref 612) .none (.ref 613) (.ref 614) (.ref 615) 986 437 987)::
 (nat_lit 617,hF "_law_fourth" 102 "law_plusless_k06_what_is_no_row" 893 616)::
 (nat_lit 623,hC "_law_last" 989 990 991 456 2 0 0 3 (.ref 618) 181 (.ref 619) .none (.ref 620) (.ref 621) (.ref 622) 994 456 995)::
 (nat_lit 624,hF "_law_last" 103 "law_plusless_k06_what_is_no_row" 893 623)::
 (nat_lit 630,hC "_law_said" 997 998 999 463 3 0 0 3 (.ref 625) 181 (.ref 626) .none (.ref 627) (.ref 628) (.ref 629) 1004 463 1005)::
 (nat_lit 631,hF "_law_said" 104 "law_plusless_k06_what_is_no_row" 893 630)::
 (nat_lit 637,hC "law" 1007 1008 1009 478 1 0 0 3 (.ref 632) 181 (.ref 633) .none (.ref 634) (.ref 635) (.ref 636) 1019 478 1020)::
 (nat_lit 638,hF "law" 105 "law_plusless_k06_what_is_no_row" 893 637)::[]
noncomputable def hA:List Addr:=[2,3,23,24,36,37,48,49,60,61,72,73,84,85,103,104,112,113,122,123,129,130,143,144,148,149,160,161,167,168,174,175,179,180,184,185,196,197,201,202,210,211,217,218,238,239,245,246,264,265,271,272,278,279,285,286,307,308,314,315,335,336,342,343,347,348,361,362,373,374,378,379,397,398,409,410,414,415,419,420,424,425,431,432,438,439,445,446,465,466,472,473,477,478,484,485,498,499,505,506,512,513,519,520,533,534,546,547,553,554,560,561,567,568,574,575,581,582,588,589,595,596,602,603,609,610,616,617,623,624,630,631,637,638]
noncomputable def hV:Program:={PySem.Challenge.pw_plusless_k06_what_is_no_row with main:={PySem.Challenge.pw_plusless_k06_what_is_no_row.main with body:=[top 1,top 2,top 3,top 4,top 5,top 6,top 7,top 9,top 10,top 11,top 12,top 13,top 14,top 15,top 16,top 17,top 18,top 19,top 20,top 21,top 22,top 23,top 24,top 25,top 27,top 28,top 29,top 30,top 31,top 32,top 33,top 34,top 35,top 36,top 37,top 38,top 39,top 40,top 41,top 42,top 43,top 44,top 45,top 46,top 47,top 48,top 49,top 50,top 51,top 52,top 53,top 55,top 56,top 57,top 58,top 59,top 60,top 61,top 62,top 63,top 64,top 65,top 67,top 68,top 69,top 70,top 71,top 72,top 73,top 74,top 75,top 76,top 78,top 79,top 80,top 81,top 82,top 83,top 84,top 85,top 86,top 88,top 89,top 90,top 91,top 93,top 94,top 95,top 96,top 97,top 98,top 99,top 100,top 101,top 102,top 103,top 104,top 105]}}
theorem hKA (P:Params):hA=(hK P).map (·.1):=by kernel_rfl
noncomputable abbrev hX (s:Shared):Bool:=PySem.W.xlAt hV [] s && PySem.W.recOk (PySem.W.RowW.records PySem.Challenge.rw_plusless_k06_what_is_no_row.row.toRowW) s
noncomputable def hG (n:Str) (i:Nat):Obj:={cls:=.none,data:=.func {name:=n,qualname:=n,params:=hdA (top i),body:=.stmts (hdB (top i)),scope:=hdS (top i),globals:=0,closure:=[],defaults:=.none,kwdefaults:=.none}}
noncomputable def hG2 (n q:Str) (i j:Nat):Obj:={cls:=.none,data:=.func {name:=n,qualname:=q,params:=hdA (hdI (top i) j),body:=.stmts (hdB (hdI (top i) j)),scope:=hdS (hdI (top i) j),globals:=0,closure:=[],defaults:=.none,kwdefaults:=.none}}
noncomputable def q0 (P:Params):Obj:={ cls:=.type "tuple",data:=.seq #[] }
noncomputable def q1 (P:Params):Obj:={ cls:=.none,data:=.fields #[] }
noncomputable def q2 (P:Params):Obj:={ cls:=.type "code",data:=.fields #[.str "<module>" 182,.str "<module>" 183,.str "/claim/cut.py" 184,.int 1 0,.int 0 0,.int 0 0,.int 0 0,.int 0 0,.ref 11,.bool false,.int 181 0,.ref 12,.none,.none,.none,.none,.int 185 0,.int 1 0,.str "/claim/cut.py" 186] }
noncomputable def q3 (P:Params):Obj:={ cls:=.type "frame",slots:=#[some (.ref 13),some (.ref 3),some (.ref 3),none,some (.str "__main__" 164),none,some (.ref 0)] }
noncomputable def q4 (P:Params):Obj:={ cls:=.type "dict",data:=.dict #[hE P "__name__" 165 (.str "plusless.tables" 424),hE P "__doc__" 166 .none,hE P "__package__" 167 .none,hE P "__loader__" 168 (.builtin "__main__.__loader__#opaque"),hE P "__spec__" 169 .none,hE P "__annotations__" 170 (.ref 6),hE P "__builtins__" 171 (.ref 4),hE P "__file__" 173 (.str "/claim/cut.py" 172),hE P "__cached__" 174 .none,hE P "PlusError" 206 (.ref 24),hE P "NoRow" 222 (.ref 37),hE P "NoNumber" 238 (.ref 49),hE P "NoSigns" 254 (.ref 61),hE P "TooMany" 270 (.ref 73),hE P "Lacking" 286 (.ref 85),hE P "NoText" 311 (.ref 104),hE P "LONGEST_ROW" 315 (.int 16 314),hE P "is_whole" 322 (.ref 113),hE P "are_whole" 328 (.ref 118),hE P "is_row" 334 (.ref 123),hE P "need_row" 341 (.ref 130),hE P "need_number" 348 (.ref 137),hE P "need_row_and_number" 356 (.ref 144),hE P "are_parts" 362 (.ref 149),hE P "are_so_many_signs" 368 (.ref 154),hE P "are_signs" 376 (.ref 161),hE P "need_parts" 384 (.ref 168),hE P "total" 391 (.ref 175),hE P "worth" 397 (.ref 180),hE P "turned" 403 (.ref 185),hE P "places_with" 409 (.ref 190),hE P "lots" 417 (.ref 197),hE P "kept" 423 (.ref 202),hE P "LONGEST_TABLED" 427 (.int 10 426),hE P "SIGNS" 431 (.ref 203),hE P "PARTS" 436 (.ref 204),hE P "need_few" 443 (.ref 211),hE P "need_few_and_number" 451 (.ref 218),hE P "stepped" 465 (.ref 225),hE P "table_of" 475 (.ref 232),hE P "sign_table" 482 (.ref 239),hE P "part_table" 489 (.ref 246),hE P "tables_from_behind" 499 (.ref 253),hE P "first_to" 505 (.ref 258),hE P "signs_to" 513 (.ref 265),hE P "parts_to" 521 (.ref 272),hE P "sign_ways" 529 (.ref 279),hE P "part_ways" 537 (.ref 286),hE P "is_rising" 543 (.ref 291)] 49 }
noncomputable def q5 (P:Params):Obj:={ cls:=.none,data:=.fields #[.int 2 0,.int 0 0,.ref 20,.int 4 0,.int 0 0,.ref 33,.int 6 0,.int 0 0,.ref 45,.int 8 0,.int 0 0,.ref 57,.int 10 0,.int 0 0,.ref 69,.int 12 0,.int 0 0,.ref 81,.int 14 0,.int 0 0,.ref 93,.int 20 0,.int 0 0,.ref 112,.int 22 0,.int 0 0,.ref 117,.int 24 0,.int 0 0,.ref 122,.int 28 0,.int 0 0,.ref 129,.int 31 0,.int 0 0,.ref 136,.int 34 0,.int 0 0,.ref 143,.int 37 0,.int 0 0,.ref 148,.int 40 0,.int 0 0,.ref 153,.int 42 0,.int 0 0,.ref 160,.int 45 0,.int 0 0,.ref 167,.int 48 0,.int 0 0,.ref 174,.int 51 0,.int 0 0,.ref 179,.int 54 0,.int 0 0,.ref 184,.int 57 0,.int 0 0,.ref 189,.int 59 0,.int 0 0,.ref 196,.int 62 0,.int 0 0,.ref 201,.int 71 0,.int 0 0,.ref 210,.int 75 0,.int 0 0,.ref 217,.int 78 0,.int 0 0,.ref 224,.int 85 0,.int 0 0,.ref 231,.int 90 0,.int 0 0,.ref 238,.int 93 0,.int 0 0,.ref 245,.int 96 0,.int 0 0,.ref 252,.int 101 0,.int 0 0,.ref 257,.int 113 0,.int 0 0,.ref 264,.int 116 0,.int 0 0,.ref 271,.int 119 0,.int 0 0,.ref 278,.int 122 0,.int 0 0,.ref 285,.int 125 0,.int 0 0,.ref 290] }
noncomputable def q6 (P:Params):Obj:={ cls:=.type "tuple",data:=.seq #[.type "ValueError"] }
noncomputable def q7 (P:Params):Obj:={ cls:=.type "builtin_function_or_method",data:=.fields #[.builtin "type.__prepare__",.type "type"] }
noncomputable def q8 (P:Params):Obj:={ cls:=.type "dict",data:=.dict #[hE P "__module__" 196 (.str "plusless.errors" 187),hE P "__qualname__" 198 (.str "PlusError" 197),hE P "__firstlineno__" 200 (.int 2 199),hE P "__static_attributes__" 201 (.ref 22)] 4 }
noncomputable def q9 (P:Params):Obj:={ cls:=.type "tuple",data:=.seq #[] }
noncomputable def q10 (P:Params):Obj:={ cls:=.none,data:=.fields #[] }
noncomputable def q11 (P:Params):Obj:={ cls:=.type "code",data:=.fields #[.str "PlusError" 191,.str "PlusError" 192,.str "/claim/cut.py" 193,.int 2 0,.int 0 0,.int 0 0,.int 0 0,.int 0 0,.ref 18,.bool false,.int 181 0,.ref 19,.none,.none,.none,.none,.int 194 0,.int 2 0,.str "/claim/cut.py" 195] }
noncomputable def q12 (P:Params):Obj:={ cls:=.type "frame",slots:=#[some (.ref 20),some (.ref 3),some (.ref 17),none,some (.str "plusless.errors" 187),none,some (.ref 0)] }
noncomputable def q13 (P:Params):Obj:={ cls:=.type "tuple",data:=.seq #[] }
noncomputable def q14 (P:Params):Obj:={ cls:=.type "dict",data:=.dict #[hE P "__module__" 196 (.str "plusless.errors" 187),hE P "__firstlineno__" 200 (.int 2 199),hE P "__static_attributes__" 201 (.ref 22),hE P "__weakref__" 203 (.ref 25),hE P "__doc__" 204 .none] 3 }
noncomputable def q15 (P:Params):Obj:={ cls:=.type "type",data:=.cls { name:="PlusError",bases:=[.type "ValueError"],mro:=[.ref 24,.type "ValueError",.type "Exception",.type "BaseException",.type "object"],ns:=23,qualname:="PlusError",subclasses:=[.ref 37,.ref 49,.ref 61,.ref 73,.ref 85,.ref 104] },slots:=#[some (.ref 15),none,some (.str "PlusError" 189),some (.str "PlusError" 197),some (.builtin "ValueError.__new__"),some (.bool true)] }
noncomputable def q16 (P:Params):Obj:={ cls:=.type "getset_descriptor",data:=.fields #[.str "__weakref__" 202,.ref 24,.builtin "ExceptionGroup.__weakref__",.none] }
noncomputable def q17 (P:Params):Obj:={ cls:=.type "super",data:=.fields #[.ref 24,.ref 24,.ref 24] }
noncomputable def q18 (P:Params):Obj:={ cls:=.type "builtin_function_or_method",data:=.fields #[.builtin "object.__init_subclass__",.ref 24] }
noncomputable def q19 (P:Params):Obj:={ cls:=.type "tuple",data:=.seq #[.ref 24] }
noncomputable def q20 (P:Params):Obj:={ cls:=.type "builtin_function_or_method",data:=.fields #[.builtin "type.__prepare__",.type "type"] }
noncomputable def q21 (P:Params):Obj:={ cls:=.type "dict",data:=.dict #[hE P "__module__" 214 (.str "plusless.errors" 187),hE P "__qualname__" 216 (.str "NoRow" 215),hE P "__firstlineno__" 218 (.int 4 217),hE P "__static_attributes__" 219 (.ref 35)] 4 }
noncomputable def q22 (P:Params):Obj:={ cls:=.type "tuple",data:=.seq #[] }
noncomputable def q23 (P:Params):Obj:={ cls:=.none,data:=.fields #[] }
noncomputable def q24 (P:Params):Obj:={ cls:=.type "code",data:=.fields #[.str "NoRow" 209,.str "NoRow" 210,.str "/claim/cut.py" 211,.int 4 0,.int 0 0,.int 0 0,.int 0 0,.int 0 0,.ref 31,.bool false,.int 181 0,.ref 32,.none,.none,.none,.none,.int 212 0,.int 4 0,.str "/claim/cut.py" 213] }
noncomputable def q25 (P:Params):Obj:={ cls:=.type "frame",slots:=#[some (.ref 33),some (.ref 3),some (.ref 30),none,some (.str "plusless.errors" 187),none,some (.ref 0)] }
noncomputable def q26 (P:Params):Obj:={ cls:=.type "tuple",data:=.seq #[] }
noncomputable def q27 (P:Params):Obj:={ cls:=.type "dict",data:=.dict #[hE P "__module__" 214 (.str "plusless.errors" 187),hE P "__firstlineno__" 218 (.int 4 217),hE P "__static_attributes__" 219 (.ref 35),hE P "__doc__" 220 .none] 2 }
noncomputable def q28 (P:Params):Obj:={ cls:=.type "type",data:=.cls { name:="NoRow",bases:=[.ref 24],mro:=[.ref 37,.ref 24,.type "ValueError",.type "Exception",.type "BaseException",.type "object"],ns:=36,qualname:="NoRow" },slots:=#[some (.ref 28),none,some (.str "NoRow" 207),some (.str "NoRow" 215),some (.builtin "ValueError.__new__"),some (.bool true)] }
noncomputable def q29 (P:Params):Obj:={ cls:=.type "super",data:=.fields #[.ref 37,.ref 37,.ref 37] }
noncomputable def q30 (P:Params):Obj:={ cls:=.type "builtin_function_or_method",data:=.fields #[.builtin "object.__init_subclass__",.ref 37] }
noncomputable def q31 (P:Params):Obj:={ cls:=.type "tuple",data:=.seq #[.ref 24] }
noncomputable def q32 (P:Params):Obj:={ cls:=.type "builtin_function_or_method",data:=.fields #[.builtin "type.__prepare__",.type "type"] }
noncomputable def q33 (P:Params):Obj:={ cls:=.type "dict",data:=.dict #[hE P "__module__" 230 (.str "plusless.errors" 187),hE P "__qualname__" 232 (.str "NoNumber" 231),hE P "__firstlineno__" 234 (.int 6 233),hE P "__static_attributes__" 235 (.ref 47)] 4 }
noncomputable def q34 (P:Params):Obj:={ cls:=.type "tuple",data:=.seq #[] }
noncomputable def q35 (P:Params):Obj:={ cls:=.none,data:=.fields #[] }
noncomputable def q36 (P:Params):Obj:={ cls:=.type "code",data:=.fields #[.str "NoNumber" 225,.str "NoNumber" 226,.str "/claim/cut.py" 227,.int 6 0,.int 0 0,.int 0 0,.int 0 0,.int 0 0,.ref 43,.bool false,.int 181 0,.ref 44,.none,.none,.none,.none,.int 228 0,.int 6 0,.str "/claim/cut.py" 229] }
noncomputable def q37 (P:Params):Obj:={ cls:=.type "frame",slots:=#[some (.ref 45),some (.ref 3),some (.ref 42),none,some (.str "plusless.errors" 187),none,some (.ref 0)] }
noncomputable def q38 (P:Params):Obj:={ cls:=.type "tuple",data:=.seq #[] }
noncomputable def q39 (P:Params):Obj:={ cls:=.type "dict",data:=.dict #[hE P "__module__" 230 (.str "plusless.errors" 187),hE P "__firstlineno__" 234 (.int 6 233),hE P "__static_attributes__" 235 (.ref 47),hE P "__doc__" 236 .none] 2 }
noncomputable def q40 (P:Params):Obj:={ cls:=.type "type",data:=.cls { name:="NoNumber",bases:=[.ref 24],mro:=[.ref 49,.ref 24,.type "ValueError",.type "Exception",.type "BaseException",.type "object"],ns:=48,qualname:="NoNumber" },slots:=#[some (.ref 40),none,some (.str "NoNumber" 223),some (.str "NoNumber" 231),some (.builtin "ValueError.__new__"),some (.bool true)] }
noncomputable def q41 (P:Params):Obj:={ cls:=.type "super",data:=.fields #[.ref 49,.ref 49,.ref 49] }
noncomputable def q42 (P:Params):Obj:={ cls:=.type "builtin_function_or_method",data:=.fields #[.builtin "object.__init_subclass__",.ref 49] }
noncomputable def q43 (P:Params):Obj:={ cls:=.type "tuple",data:=.seq #[.ref 24] }
noncomputable def q44 (P:Params):Obj:={ cls:=.type "builtin_function_or_method",data:=.fields #[.builtin "type.__prepare__",.type "type"] }
noncomputable def q45 (P:Params):Obj:={ cls:=.type "dict",data:=.dict #[hE P "__module__" 246 (.str "plusless.errors" 187),hE P "__qualname__" 248 (.str "NoSigns" 247),hE P "__firstlineno__" 250 (.int 8 249),hE P "__static_attributes__" 251 (.ref 59)] 4 }
noncomputable def q46 (P:Params):Obj:={ cls:=.type "tuple",data:=.seq #[] }
noncomputable def q47 (P:Params):Obj:={ cls:=.none,data:=.fields #[] }
noncomputable def q48 (P:Params):Obj:={ cls:=.type "code",data:=.fields #[.str "NoSigns" 241,.str "NoSigns" 242,.str "/claim/cut.py" 243,.int 8 0,.int 0 0,.int 0 0,.int 0 0,.int 0 0,.ref 55,.bool false,.int 181 0,.ref 56,.none,.none,.none,.none,.int 244 0,.int 8 0,.str "/claim/cut.py" 245] }
noncomputable def q49 (P:Params):Obj:={ cls:=.type "frame",slots:=#[some (.ref 57),some (.ref 3),some (.ref 54),none,some (.str "plusless.errors" 187),none,some (.ref 0)] }
noncomputable def q50 (P:Params):Obj:={ cls:=.type "tuple",data:=.seq #[] }
noncomputable def q51 (P:Params):Obj:={ cls:=.type "dict",data:=.dict #[hE P "__module__" 246 (.str "plusless.errors" 187),hE P "__firstlineno__" 250 (.int 8 249),hE P "__static_attributes__" 251 (.ref 59),hE P "__doc__" 252 .none] 2 }
noncomputable def q52 (P:Params):Obj:={ cls:=.type "type",data:=.cls { name:="NoSigns",bases:=[.ref 24],mro:=[.ref 61,.ref 24,.type "ValueError",.type "Exception",.type "BaseException",.type "object"],ns:=60,qualname:="NoSigns" },slots:=#[some (.ref 52),none,some (.str "NoSigns" 239),some (.str "NoSigns" 247),some (.builtin "ValueError.__new__"),some (.bool true)] }
noncomputable def q53 (P:Params):Obj:={ cls:=.type "super",data:=.fields #[.ref 61,.ref 61,.ref 61] }
noncomputable def q54 (P:Params):Obj:={ cls:=.type "builtin_function_or_method",data:=.fields #[.builtin "object.__init_subclass__",.ref 61] }
noncomputable def q55 (P:Params):Obj:={ cls:=.type "tuple",data:=.seq #[.ref 24] }
noncomputable def q56 (P:Params):Obj:={ cls:=.type "builtin_function_or_method",data:=.fields #[.builtin "type.__prepare__",.type "type"] }
noncomputable def q57 (P:Params):Obj:={ cls:=.type "dict",data:=.dict #[hE P "__module__" 262 (.str "plusless.errors" 187),hE P "__qualname__" 264 (.str "TooMany" 263),hE P "__firstlineno__" 266 (.int 10 265),hE P "__static_attributes__" 267 (.ref 71)] 4 }
noncomputable def q58 (P:Params):Obj:={ cls:=.type "tuple",data:=.seq #[] }
noncomputable def q59 (P:Params):Obj:={ cls:=.none,data:=.fields #[] }
noncomputable def q60 (P:Params):Obj:={ cls:=.type "code",data:=.fields #[.str "TooMany" 257,.str "TooMany" 258,.str "/claim/cut.py" 259,.int 10 0,.int 0 0,.int 0 0,.int 0 0,.int 0 0,.ref 67,.bool false,.int 181 0,.ref 68,.none,.none,.none,.none,.int 260 0,.int 10 0,.str "/claim/cut.py" 261] }
noncomputable def q61 (P:Params):Obj:={ cls:=.type "frame",slots:=#[some (.ref 69),some (.ref 3),some (.ref 66),none,some (.str "plusless.errors" 187),none,some (.ref 0)] }
noncomputable def q62 (P:Params):Obj:={ cls:=.type "tuple",data:=.seq #[] }
noncomputable def q63 (P:Params):Obj:={ cls:=.type "dict",data:=.dict #[hE P "__module__" 262 (.str "plusless.errors" 187),hE P "__firstlineno__" 266 (.int 10 265),hE P "__static_attributes__" 267 (.ref 71),hE P "__doc__" 268 .none] 2 }
noncomputable def q64 (P:Params):Obj:={ cls:=.type "type",data:=.cls { name:="TooMany",bases:=[.ref 24],mro:=[.ref 73,.ref 24,.type "ValueError",.type "Exception",.type "BaseException",.type "object"],ns:=72,qualname:="TooMany" },slots:=#[some (.ref 64),none,some (.str "TooMany" 255),some (.str "TooMany" 263),some (.builtin "ValueError.__new__"),some (.bool true)] }
noncomputable def q65 (P:Params):Obj:={ cls:=.type "super",data:=.fields #[.ref 73,.ref 73,.ref 73] }
noncomputable def q66 (P:Params):Obj:={ cls:=.type "builtin_function_or_method",data:=.fields #[.builtin "object.__init_subclass__",.ref 73] }
noncomputable def q67 (P:Params):Obj:={ cls:=.type "tuple",data:=.seq #[.ref 24] }
noncomputable def q68 (P:Params):Obj:={ cls:=.type "builtin_function_or_method",data:=.fields #[.builtin "type.__prepare__",.type "type"] }
noncomputable def q69 (P:Params):Obj:={ cls:=.type "dict",data:=.dict #[hE P "__module__" 278 (.str "plusless.errors" 187),hE P "__qualname__" 280 (.str "Lacking" 279),hE P "__firstlineno__" 282 (.int 12 281),hE P "__static_attributes__" 283 (.ref 83)] 4 }
noncomputable def q70 (P:Params):Obj:={ cls:=.type "tuple",data:=.seq #[] }
noncomputable def q71 (P:Params):Obj:={ cls:=.none,data:=.fields #[] }
noncomputable def q72 (P:Params):Obj:={ cls:=.type "code",data:=.fields #[.str "Lacking" 273,.str "Lacking" 274,.str "/claim/cut.py" 275,.int 12 0,.int 0 0,.int 0 0,.int 0 0,.int 0 0,.ref 79,.bool false,.int 181 0,.ref 80,.none,.none,.none,.none,.int 276 0,.int 12 0,.str "/claim/cut.py" 277] }
noncomputable def q73 (P:Params):Obj:={ cls:=.type "frame",slots:=#[some (.ref 81),some (.ref 3),some (.ref 78),none,some (.str "plusless.errors" 187),none,some (.ref 0)] }
noncomputable def q74 (P:Params):Obj:={ cls:=.type "tuple",data:=.seq #[] }
noncomputable def q75 (P:Params):Obj:={ cls:=.type "dict",data:=.dict #[hE P "__module__" 278 (.str "plusless.errors" 187),hE P "__firstlineno__" 282 (.int 12 281),hE P "__static_attributes__" 283 (.ref 83),hE P "__doc__" 284 .none] 2 }
noncomputable def q76 (P:Params):Obj:={ cls:=.type "type",data:=.cls { name:="Lacking",bases:=[.ref 24],mro:=[.ref 85,.ref 24,.type "ValueError",.type "Exception",.type "BaseException",.type "object"],ns:=84,qualname:="Lacking" },slots:=#[some (.ref 76),none,some (.str "Lacking" 271),some (.str "Lacking" 279),some (.builtin "ValueError.__new__"),some (.bool true)] }
noncomputable def q77 (P:Params):Obj:={ cls:=.type "super",data:=.fields #[.ref 85,.ref 85,.ref 85] }
noncomputable def q78 (P:Params):Obj:={ cls:=.type "builtin_function_or_method",data:=.fields #[.builtin "object.__init_subclass__",.ref 85] }
noncomputable def q79 (P:Params):Obj:={ cls:=.type "tuple",data:=.seq #[.ref 24] }
noncomputable def q80 (P:Params):Obj:={ cls:=.type "builtin_function_or_method",data:=.fields #[.builtin "type.__prepare__",.type "type"] }
noncomputable def q81 (P:Params):Obj:={ cls:=.type "dict",data:=.dict #[hE P "__module__" 294 (.str "plusless.errors" 187),hE P "__qualname__" 296 (.str "NoText" 295),hE P "__firstlineno__" 298 (.int 14 297),hE P "__init__" 306 (.ref 101),hE P "__static_attributes__" 308 (.ref 102)] 5 }
noncomputable def q82 (P:Params):Obj:={ cls:=.type "tuple",data:=.seq #[] }
noncomputable def q83 (P:Params):Obj:={ cls:=.none,data:=.fields #[.int 16 0,.int 4 0,.ref 100] }
noncomputable def q84 (P:Params):Obj:={ cls:=.type "code",data:=.fields #[.str "NoText" 289,.str "NoText" 290,.str "/claim/cut.py" 291,.int 14 0,.int 0 0,.int 0 0,.int 0 0,.int 0 0,.ref 91,.bool false,.int 181 0,.ref 92,.none,.none,.none,.none,.int 292 0,.int 14 0,.str "/claim/cut.py" 293] }
noncomputable def q85 (P:Params):Obj:={ cls:=.type "frame",slots:=#[some (.ref 93),some (.ref 3),some (.ref 90),none,some (.str "plusless.errors" 187),none,some (.ref 0)] }
noncomputable def q86 (P:Params):Obj:={ cls:=.type "tuple",data:=.seq #[] }
noncomputable def q87 (P:Params):Obj:={ cls:=.none,data:=.fields #[] }
noncomputable def q88 (P:Params):Obj:={ cls:=.type "tuple",data:=.seq #[.str "self" 302,.str "at" 303] }
noncomputable def q89 (P:Params):Obj:={ cls:=.type "tuple",data:=.seq #[] }
noncomputable def q90 (P:Params):Obj:=hG2 "__init__" "NoText.__init__" 7 0
noncomputable def q91 (P:Params):Obj:=hC2 "NoText.__init__" "__init__" 299 300 301 16 2 0 0 3 (.ref 95) 181 (.ref 96) .none (.ref 97) (.ref 98) (.ref 99) 304 16 305
noncomputable def q92 (P:Params):Obj:=hM "__init__" "NoText.__init__" 7 0 "plusless.errors" 187 100
noncomputable def q93 (P:Params):Obj:={ cls:=.type "tuple",data:=.seq #[.str "at" 307] }
noncomputable def q94 (P:Params):Obj:={ cls:=.type "dict",data:=.dict #[hE P "__module__" 294 (.str "plusless.errors" 187),hE P "__firstlineno__" 298 (.int 14 297),hE P "__init__" 306 (.ref 101),hE P "__static_attributes__" 308 (.ref 102),hE P "__doc__" 309 .none] 2 }
noncomputable def q95 (P:Params):Obj:={ cls:=.type "type",data:=.cls { name:="NoText",bases:=[.ref 24],mro:=[.ref 104,.ref 24,.type "ValueError",.type "Exception",.type "BaseException",.type "object"],ns:=103,qualname:="NoText" },slots:=#[some (.ref 88),none,some (.str "NoText" 287),some (.str "NoText" 295),some (.builtin "ValueError.__new__"),some (.bool true)] }
noncomputable def q96 (P:Params):Obj:={ cls:=.type "super",data:=.fields #[.ref 104,.ref 104,.ref 104] }
noncomputable def q97 (P:Params):Obj:={ cls:=.type "builtin_function_or_method",data:=.fields #[.builtin "object.__init_subclass__",.ref 104] }
noncomputable def q98 (P:Params):Obj:={ cls:=.type "tuple",data:=.seq #[] }
noncomputable def q99 (P:Params):Obj:={ cls:=.none,data:=.fields #[] }
noncomputable def q100 (P:Params):Obj:={ cls:=.type "tuple",data:=.seq #[.str "thing" 319] }
noncomputable def q101 (P:Params):Obj:={ cls:=.type "tuple",data:=.seq #[] }
noncomputable def q102 (P:Params):Obj:=hG "is_whole" 10
noncomputable def q103 (P:Params):Obj:=hC "is_whole" 316 317 318 20 1 0 0 3 (.ref 107) 181 (.ref 108) .none (.ref 109) (.ref 110) (.ref 111) 320 20 321
noncomputable def q104 (P:Params):Obj:=hF "is_whole" 10 "plusless.rows" 312 112
noncomputable def q105 (P:Params):Obj:={ cls:=.type "tuple",data:=.seq #[] }
noncomputable def q106 (P:Params):Obj:={ cls:=.none,data:=.fields #[] }
noncomputable def q107 (P:Params):Obj:=hG "are_whole" 11
noncomputable def q108 (P:Params):Obj:=hC "are_whole" 323 324 325 22 2 0 0 3 (.ref 114) 181 (.ref 115) .none .none .none (.ref 116) 326 22 327
noncomputable def q109 (P:Params):Obj:=hF "are_whole" 11 "plusless.rows" 312 117
noncomputable def q110 (P:Params):Obj:={ cls:=.type "tuple",data:=.seq #[] }
noncomputable def q111 (P:Params):Obj:={ cls:=.none,data:=.fields #[] }
noncomputable def q112 (P:Params):Obj:=hG "is_row" 12
noncomputable def q113 (P:Params):Obj:=hC "is_row" 329 330 331 24 1 0 0 3 (.ref 119) 181 (.ref 120) .none .none .none (.ref 121) 332 24 333
noncomputable def q114 (P:Params):Obj:=hF "is_row" 12 "plusless.rows" 312 122
noncomputable def q115 (P:Params):Obj:={ cls:=.type "tuple",data:=.seq #[] }
noncomputable def q116 (P:Params):Obj:={ cls:=.none,data:=.fields #[] }
noncomputable def q117 (P:Params):Obj:={ cls:=.type "tuple",data:=.seq #[.str "thing" 338] }
noncomputable def q118 (P:Params):Obj:={ cls:=.type "tuple",data:=.seq #[] }
noncomputable def q119 (P:Params):Obj:=hG "need_row" 13
noncomputable def q120 (P:Params):Obj:=hC "need_row" 335 336 337 28 1 0 0 3 (.ref 124) 181 (.ref 125) .none (.ref 126) (.ref 127) (.ref 128) 339 28 340
noncomputable def q121 (P:Params):Obj:=hF "need_row" 13 "plusless.rows" 312 129
noncomputable def q122 (P:Params):Obj:={ cls:=.type "tuple",data:=.seq #[] }
noncomputable def q123 (P:Params):Obj:={ cls:=.none,data:=.fields #[] }
noncomputable def q124 (P:Params):Obj:={ cls:=.type "tuple",data:=.seq #[.str "thing" 345] }
noncomputable def q125 (P:Params):Obj:={ cls:=.type "tuple",data:=.seq #[] }
noncomputable def q126 (P:Params):Obj:=hG "need_number" 14
noncomputable def q127 (P:Params):Obj:=hC "need_number" 342 343 344 31 1 0 0 3 (.ref 131) 181 (.ref 132) .none (.ref 133) (.ref 134) (.ref 135) 346 31 347
noncomputable def q128 (P:Params):Obj:=hF "need_number" 14 "plusless.rows" 312 136
noncomputable def q129 (P:Params):Obj:={ cls:=.type "tuple",data:=.seq #[] }
noncomputable def q130 (P:Params):Obj:={ cls:=.none,data:=.fields #[] }
noncomputable def q131 (P:Params):Obj:={ cls:=.type "tuple",data:=.seq #[.str "row" 352,.str "number" 353] }
noncomputable def q132 (P:Params):Obj:={ cls:=.type "tuple",data:=.seq #[] }
noncomputable def q133 (P:Params):Obj:=hG "need_row_and_number" 15
noncomputable def q134 (P:Params):Obj:=hC "need_row_and_number" 349 350 351 34 2 0 0 3 (.ref 138) 181 (.ref 139) .none (.ref 140) (.ref 141) (.ref 142) 354 34 355
noncomputable def q135 (P:Params):Obj:=hF "need_row_and_number" 15 "plusless.rows" 312 143
noncomputable def q136 (P:Params):Obj:={ cls:=.type "tuple",data:=.seq #[] }
noncomputable def q137 (P:Params):Obj:={ cls:=.none,data:=.fields #[] }
noncomputable def q138 (P:Params):Obj:=hG "are_parts" 16
noncomputable def q139 (P:Params):Obj:=hC "are_parts" 357 358 359 37 2 0 0 3 (.ref 145) 181 (.ref 146) .none .none .none (.ref 147) 360 37 361
noncomputable def q140 (P:Params):Obj:=hF "are_parts" 16 "plusless.rows" 312 148
noncomputable def q141 (P:Params):Obj:={ cls:=.type "tuple",data:=.seq #[] }
noncomputable def q142 (P:Params):Obj:={ cls:=.none,data:=.fields #[] }
noncomputable def q143 (P:Params):Obj:=hG "are_so_many_signs" 17
noncomputable def q144 (P:Params):Obj:=hC "are_so_many_signs" 363 364 365 40 2 0 0 3 (.ref 150) 181 (.ref 151) .none .none .none (.ref 152) 366 40 367
noncomputable def q145 (P:Params):Obj:=hF "are_so_many_signs" 17 "plusless.rows" 312 153
noncomputable def q146 (P:Params):Obj:={ cls:=.type "tuple",data:=.seq #[] }
noncomputable def q147 (P:Params):Obj:={ cls:=.none,data:=.fields #[] }
noncomputable def q148 (P:Params):Obj:={ cls:=.type "tuple",data:=.seq #[.str "thing" 372,.str "row" 373] }
noncomputable def q149 (P:Params):Obj:={ cls:=.type "tuple",data:=.seq #[] }
noncomputable def q150 (P:Params):Obj:=hG "are_signs" 18
noncomputable def q151 (P:Params):Obj:=hC "are_signs" 369 370 371 42 2 0 0 3 (.ref 155) 181 (.ref 156) .none (.ref 157) (.ref 158) (.ref 159) 374 42 375
noncomputable def q152 (P:Params):Obj:=hF "are_signs" 18 "plusless.rows" 312 160
noncomputable def q153 (P:Params):Obj:={ cls:=.type "tuple",data:=.seq #[] }
noncomputable def q154 (P:Params):Obj:={ cls:=.none,data:=.fields #[] }
noncomputable def q155 (P:Params):Obj:={ cls:=.type "tuple",data:=.seq #[.str "row" 380,.str "thing" 381] }
noncomputable def q156 (P:Params):Obj:={ cls:=.type "tuple",data:=.seq #[] }
noncomputable def q157 (P:Params):Obj:=hG "need_parts" 19
noncomputable def q158 (P:Params):Obj:=hC "need_parts" 377 378 379 45 2 0 0 3 (.ref 162) 181 (.ref 163) .none (.ref 164) (.ref 165) (.ref 166) 382 45 383
noncomputable def q159 (P:Params):Obj:=hF "need_parts" 19 "plusless.rows" 312 167
noncomputable def q160 (P:Params):Obj:={ cls:=.type "tuple",data:=.seq #[] }
noncomputable def q161 (P:Params):Obj:={ cls:=.none,data:=.fields #[] }
noncomputable def q162 (P:Params):Obj:={ cls:=.type "tuple",data:=.seq #[.str "row" 388] }
noncomputable def q163 (P:Params):Obj:={ cls:=.type "tuple",data:=.seq #[] }
noncomputable def q164 (P:Params):Obj:=hG "total" 20
noncomputable def q165 (P:Params):Obj:=hC "total" 385 386 387 48 1 0 0 3 (.ref 169) 181 (.ref 170) .none (.ref 171) (.ref 172) (.ref 173) 389 48 390
noncomputable def q166 (P:Params):Obj:=hF "total" 20 "plusless.rows" 312 174
noncomputable def q167 (P:Params):Obj:={ cls:=.type "tuple",data:=.seq #[] }
noncomputable def q168 (P:Params):Obj:={ cls:=.none,data:=.fields #[] }
noncomputable def q169 (P:Params):Obj:=hG "worth" 21
noncomputable def q170 (P:Params):Obj:=hC "worth" 392 393 394 51 2 0 0 3 (.ref 176) 181 (.ref 177) .none .none .none (.ref 178) 395 51 396
noncomputable def q171 (P:Params):Obj:=hF "worth" 21 "plusless.rows" 312 179
noncomputable def q172 (P:Params):Obj:={ cls:=.type "tuple",data:=.seq #[] }
noncomputable def q173 (P:Params):Obj:={ cls:=.none,data:=.fields #[] }
noncomputable def q174 (P:Params):Obj:=hG "turned" 22
noncomputable def q175 (P:Params):Obj:=hC "turned" 398 399 400 54 2 0 0 3 (.ref 181) 181 (.ref 182) .none .none .none (.ref 183) 401 54 402
noncomputable def q176 (P:Params):Obj:=hF "turned" 22 "plusless.rows" 312 184
noncomputable def q177 (P:Params):Obj:={ cls:=.type "tuple",data:=.seq #[] }
noncomputable def q178 (P:Params):Obj:={ cls:=.none,data:=.fields #[] }
noncomputable def q179 (P:Params):Obj:=hG "places_with" 23
noncomputable def q180 (P:Params):Obj:=hC "places_with" 404 405 406 57 2 0 0 3 (.ref 186) 181 (.ref 187) .none .none .none (.ref 188) 407 57 408
noncomputable def q181 (P:Params):Obj:=hF "places_with" 23 "plusless.rows" 312 189
noncomputable def q182 (P:Params):Obj:={ cls:=.type "tuple",data:=.seq #[] }
noncomputable def q183 (P:Params):Obj:={ cls:=.none,data:=.fields #[] }
noncomputable def q184 (P:Params):Obj:={ cls:=.type "tuple",data:=.seq #[.str "row" 413,.str "parts" 414] }
noncomputable def q185 (P:Params):Obj:={ cls:=.type "tuple",data:=.seq #[] }
noncomputable def q186 (P:Params):Obj:=hG "lots" 24
noncomputable def q187 (P:Params):Obj:=hC "lots" 410 411 412 59 2 0 0 3 (.ref 191) 181 (.ref 192) .none (.ref 193) (.ref 194) (.ref 195) 415 59 416
noncomputable def q188 (P:Params):Obj:=hF "lots" 24 "plusless.rows" 312 196
noncomputable def q189 (P:Params):Obj:={ cls:=.type "tuple",data:=.seq #[] }
noncomputable def q190 (P:Params):Obj:={ cls:=.none,data:=.fields #[] }
noncomputable def q191 (P:Params):Obj:=hG "kept" 25
noncomputable def q192 (P:Params):Obj:=hC "kept" 418 419 420 62 2 0 0 3 (.ref 198) 181 (.ref 199) .none .none .none (.ref 200) 421 62 422
noncomputable def q193 (P:Params):Obj:=hF "kept" 25 "plusless.rows" 312 201
noncomputable def q194 (P:Params):Obj:={ cls:=.type "tuple",data:=.seq #[.int (-1) 429,.int 1 430] }
noncomputable def q195 (P:Params):Obj:={ cls:=.type "tuple",data:=.seq #[.int (-1) 433,.int 0 434,.int 1 435] }
noncomputable def q196 (P:Params):Obj:={ cls:=.type "tuple",data:=.seq #[] }
noncomputable def q197 (P:Params):Obj:={ cls:=.none,data:=.fields #[] }
noncomputable def q198 (P:Params):Obj:={ cls:=.type "tuple",data:=.seq #[.str "row" 440] }
noncomputable def q199 (P:Params):Obj:={ cls:=.type "tuple",data:=.seq #[] }
noncomputable def q200 (P:Params):Obj:=hG "need_few" 30
noncomputable def q201 (P:Params):Obj:=hC "need_few" 437 438 439 71 1 0 0 3 (.ref 205) 181 (.ref 206) .none (.ref 207) (.ref 208) (.ref 209) 441 71 442
noncomputable def q202 (P:Params):Obj:=hF "need_few" 30 "plusless.tables" 424 210
noncomputable def q203 (P:Params):Obj:={ cls:=.type "tuple",data:=.seq #[] }
noncomputable def q204 (P:Params):Obj:={ cls:=.none,data:=.fields #[] }
noncomputable def q205 (P:Params):Obj:={ cls:=.type "tuple",data:=.seq #[.str "row" 447,.str "number" 448] }
noncomputable def q206 (P:Params):Obj:={ cls:=.type "tuple",data:=.seq #[] }
noncomputable def q207 (P:Params):Obj:=hG "need_few_and_number" 31
noncomputable def q208 (P:Params):Obj:=hC "need_few_and_number" 444 445 446 75 2 0 0 3 (.ref 212) 181 (.ref 213) .none (.ref 214) (.ref 215) (.ref 216) 449 75 450
noncomputable def q209 (P:Params):Obj:=hF "need_few_and_number" 31 "plusless.tables" 424 217
noncomputable def q210 (P:Params):Obj:={ cls:=.type "tuple",data:=.seq #[] }
noncomputable def q211 (P:Params):Obj:={ cls:=.none,data:=.fields #[] }
noncomputable def q212 (P:Params):Obj:={ cls:=.type "tuple",data:=.seq #[.str "table" 455,.str "step" 456,.str "choices" 457,.str "wider" 458,.str "reached" 459,.str "ways" 460,.str "choice" 461,.str "there" 462] }
noncomputable def q213 (P:Params):Obj:={ cls:=.type "tuple",data:=.seq #[] }
noncomputable def q214 (P:Params):Obj:=hG "stepped" 32
noncomputable def q215 (P:Params):Obj:=hC "stepped" 452 453 454 78 3 0 0 3 (.ref 219) 181 (.ref 220) .none (.ref 221) (.ref 222) (.ref 223) 463 78 464
noncomputable def q216 (P:Params):Obj:=hF "stepped" 32 "plusless.tables" 424 224
noncomputable def q217 (P:Params):Obj:={ cls:=.type "tuple",data:=.seq #[] }
noncomputable def q218 (P:Params):Obj:={ cls:=.none,data:=.fields #[] }
noncomputable def q219 (P:Params):Obj:={ cls:=.type "tuple",data:=.seq #[.str "row" 469,.str "choices" 470,.str "table" 471,.str "step" 472] }
noncomputable def q220 (P:Params):Obj:={ cls:=.type "tuple",data:=.seq #[] }
noncomputable def q221 (P:Params):Obj:=hG "table_of" 33
noncomputable def q222 (P:Params):Obj:=hC "table_of" 466 467 468 85 2 0 0 3 (.ref 226) 181 (.ref 227) .none (.ref 228) (.ref 229) (.ref 230) 473 85 474
noncomputable def q223 (P:Params):Obj:=hF "table_of" 33 "plusless.tables" 424 231
noncomputable def q224 (P:Params):Obj:={ cls:=.type "tuple",data:=.seq #[] }
noncomputable def q225 (P:Params):Obj:={ cls:=.none,data:=.fields #[] }
noncomputable def q226 (P:Params):Obj:={ cls:=.type "tuple",data:=.seq #[.str "row" 479] }
noncomputable def q227 (P:Params):Obj:={ cls:=.type "tuple",data:=.seq #[] }
noncomputable def q228 (P:Params):Obj:=hG "sign_table" 34
noncomputable def q229 (P:Params):Obj:=hC "sign_table" 476 477 478 90 1 0 0 3 (.ref 233) 181 (.ref 234) .none (.ref 235) (.ref 236) (.ref 237) 480 90 481
noncomputable def q230 (P:Params):Obj:=hF "sign_table" 34 "plusless.tables" 424 238
noncomputable def q231 (P:Params):Obj:={ cls:=.type "tuple",data:=.seq #[] }
noncomputable def q232 (P:Params):Obj:={ cls:=.none,data:=.fields #[] }
noncomputable def q233 (P:Params):Obj:={ cls:=.type "tuple",data:=.seq #[.str "row" 486] }
noncomputable def q234 (P:Params):Obj:={ cls:=.type "tuple",data:=.seq #[] }
noncomputable def q235 (P:Params):Obj:=hG "part_table" 35
noncomputable def q236 (P:Params):Obj:=hC "part_table" 483 484 485 93 1 0 0 3 (.ref 240) 181 (.ref 241) .none (.ref 242) (.ref 243) (.ref 244) 487 93 488
noncomputable def q237 (P:Params):Obj:=hF "part_table" 35 "plusless.tables" 424 245
noncomputable def q238 (P:Params):Obj:={ cls:=.type "tuple",data:=.seq #[] }
noncomputable def q239 (P:Params):Obj:={ cls:=.none,data:=.fields #[] }
noncomputable def q240 (P:Params):Obj:={ cls:=.type "tuple",data:=.seq #[.str "row" 493,.str "choices" 494,.str "tables" 495,.str "step" 496] }
noncomputable def q241 (P:Params):Obj:={ cls:=.type "tuple",data:=.seq #[] }
noncomputable def q242 (P:Params):Obj:=hG "tables_from_behind" 36
noncomputable def q243 (P:Params):Obj:=hC "tables_from_behind" 490 491 492 96 2 0 0 3 (.ref 247) 181 (.ref 248) .none (.ref 249) (.ref 250) (.ref 251) 497 96 498
noncomputable def q244 (P:Params):Obj:=hF "tables_from_behind" 36 "plusless.tables" 424 252
noncomputable def q245 (P:Params):Obj:={ cls:=.type "tuple",data:=.seq #[] }
noncomputable def q246 (P:Params):Obj:={ cls:=.none,data:=.fields #[] }
noncomputable def q247 (P:Params):Obj:=hG "first_to" 37
noncomputable def q248 (P:Params):Obj:=hC "first_to" 500 501 502 101 3 0 0 3 (.ref 254) 181 (.ref 255) .none .none .none (.ref 256) 503 101 504
noncomputable def q249 (P:Params):Obj:=hF "first_to" 37 "plusless.tables" 424 257
noncomputable def q250 (P:Params):Obj:={ cls:=.type "tuple",data:=.seq #[] }
noncomputable def q251 (P:Params):Obj:={ cls:=.none,data:=.fields #[] }
noncomputable def q252 (P:Params):Obj:={ cls:=.type "tuple",data:=.seq #[.str "row" 509,.str "number" 510] }
noncomputable def q253 (P:Params):Obj:={ cls:=.type "tuple",data:=.seq #[] }
noncomputable def q254 (P:Params):Obj:=hG "signs_to" 38
noncomputable def q255 (P:Params):Obj:=hC "signs_to" 506 507 508 113 2 0 0 3 (.ref 259) 181 (.ref 260) .none (.ref 261) (.ref 262) (.ref 263) 511 113 512
noncomputable def q256 (P:Params):Obj:=hF "signs_to" 38 "plusless.tables" 424 264
noncomputable def q257 (P:Params):Obj:={ cls:=.type "tuple",data:=.seq #[] }
noncomputable def q258 (P:Params):Obj:={ cls:=.none,data:=.fields #[] }
noncomputable def q259 (P:Params):Obj:={ cls:=.type "tuple",data:=.seq #[.str "row" 517,.str "number" 518] }
noncomputable def q260 (P:Params):Obj:={ cls:=.type "tuple",data:=.seq #[] }
noncomputable def q261 (P:Params):Obj:=hG "parts_to" 39
noncomputable def q262 (P:Params):Obj:=hC "parts_to" 514 515 516 116 2 0 0 3 (.ref 266) 181 (.ref 267) .none (.ref 268) (.ref 269) (.ref 270) 519 116 520
noncomputable def q263 (P:Params):Obj:=hF "parts_to" 39 "plusless.tables" 424 271
noncomputable def q264 (P:Params):Obj:={ cls:=.type "tuple",data:=.seq #[] }
noncomputable def q265 (P:Params):Obj:={ cls:=.none,data:=.fields #[] }
noncomputable def q266 (P:Params):Obj:={ cls:=.type "tuple",data:=.seq #[.str "row" 525,.str "number" 526] }
noncomputable def q267 (P:Params):Obj:={ cls:=.type "tuple",data:=.seq #[] }
noncomputable def q268 (P:Params):Obj:=hG "sign_ways" 40
noncomputable def q269 (P:Params):Obj:=hC "sign_ways" 522 523 524 119 2 0 0 3 (.ref 273) 181 (.ref 274) .none (.ref 275) (.ref 276) (.ref 277) 527 119 528
noncomputable def q270 (P:Params):Obj:=hF "sign_ways" 40 "plusless.tables" 424 278
noncomputable def q271 (P:Params):Obj:={ cls:=.type "tuple",data:=.seq #[] }
noncomputable def q272 (P:Params):Obj:={ cls:=.none,data:=.fields #[] }
noncomputable def q273 (P:Params):Obj:={ cls:=.type "tuple",data:=.seq #[.str "row" 533,.str "number" 534] }
noncomputable def q274 (P:Params):Obj:={ cls:=.type "tuple",data:=.seq #[] }
noncomputable def q275 (P:Params):Obj:=hG "part_ways" 41
noncomputable def q276 (P:Params):Obj:=hC "part_ways" 530 531 532 122 2 0 0 3 (.ref 280) 181 (.ref 281) .none (.ref 282) (.ref 283) (.ref 284) 535 122 536
noncomputable def q277 (P:Params):Obj:=hF "part_ways" 41 "plusless.tables" 424 285
noncomputable def q278 (P:Params):Obj:={ cls:=.type "tuple",data:=.seq #[] }
noncomputable def q279 (P:Params):Obj:={ cls:=.none,data:=.fields #[] }
noncomputable def q280 (P:Params):Obj:=hG "is_rising" 42
noncomputable def q281 (P:Params):Obj:=hC "is_rising" 538 539 540 125 1 0 0 3 (.ref 287) 181 (.ref 288) .none .none .none (.ref 289) 541 125 542
noncomputable def q282 (P:Params):Obj:=hF "is_rising" 42 "plusless.tables" 424 290
noncomputable def q283 (P:Params):Obj:={ cls:=.type "dict",data:=.dict #[hE P "__name__" 165 (.str "plusless.every" 796),hE P "__doc__" 166 .none,hE P "__package__" 167 .none,hE P "__loader__" 168 (.builtin "__main__.__loader__#opaque"),hE P "__spec__" 169 .none,hE P "__annotations__" 170 (.ref 6),hE P "__builtins__" 171 (.ref 4),hE P "__file__" 173 (.str "/claim/cut.py" 172),hE P "__cached__" 174 .none,hE P "PlusError" 206 (.ref 24),hE P "NoRow" 222 (.ref 37),hE P "NoNumber" 238 (.ref 49),hE P "NoSigns" 254 (.ref 61),hE P "TooMany" 270 (.ref 73),hE P "Lacking" 286 (.ref 85),hE P "NoText" 311 (.ref 104),hE P "LONGEST_ROW" 315 (.int 16 314),hE P "is_whole" 322 (.ref 113),hE P "are_whole" 328 (.ref 118),hE P "is_row" 334 (.ref 123),hE P "need_row" 341 (.ref 130),hE P "need_number" 348 (.ref 137),hE P "need_row_and_number" 356 (.ref 144),hE P "are_parts" 362 (.ref 149),hE P "are_so_many_signs" 368 (.ref 154),hE P "are_signs" 376 (.ref 161),hE P "need_parts" 384 (.ref 168),hE P "total" 391 (.ref 175),hE P "worth" 397 (.ref 180),hE P "turned" 403 (.ref 185),hE P "places_with" 409 (.ref 190),hE P "lots" 417 (.ref 197),hE P "kept" 423 (.ref 202),hE P "LONGEST_TABLED" 427 (.int 10 426),hE P "SIGNS" 431 (.ref 203),hE P "PARTS" 436 (.ref 204),hE P "need_few" 443 (.ref 211),hE P "need_few_and_number" 451 (.ref 218),hE P "stepped" 465 (.ref 225),hE P "table_of" 475 (.ref 232),hE P "sign_table" 482 (.ref 239),hE P "part_table" 489 (.ref 246),hE P "tables_from_behind" 499 (.ref 253),hE P "first_to" 505 (.ref 258),hE P "signs_to" 513 (.ref 265),hE P "parts_to" 521 (.ref 272),hE P "sign_ways" 529 (.ref 279),hE P "part_ways" 537 (.ref 286),hE P "is_rising" 543 (.ref 291),hE P "leads_on" 549 (.ref 296),hE P "are_layers" 555 (.ref 301),hE P "is_barred" 564 (.ref 308),hE P "is_wide_barred" 573 (.ref 315),hE P "least_layers" 584 (.ref 322),hE P "least_without" 594 (.ref 329),hE P "layers_for" 602 (.ref 336),hE P "wide_layers_for" 610 (.ref 343),hE P "is_rest" 616 (.ref 348),hE P "common_divisor" 627 (.ref 355),hE P "rest_for" 636 (.ref 362),hE P "halves_of" 646 (.ref 369),hE P "half_worths" 652 (.ref 374),hE P "many_met" 658 (.ref 379),hE P "firsts_stepped" 672 (.ref 386),hE P "firsts_of" 681 (.ref 393),hE P "first_met" 687 (.ref 398),hE P "walk" 700 (.ref 405),hE P "stair_for" 706 (.ref 410),hE P "is_stair" 712 (.ref 415),hE P "below" 718 (.ref 420),hE P "above" 724 (.ref 425),hE P "unevenness" 733 (.ref 432),hE P "evenest" 741 (.ref 439),hE P "evenest_many" 750 (.ref 446),hE P "parts_of_one" 756 (.ref 451),hE P "difference" 762 (.ref 456),hE P "difference_steps" 768 (.ref 461),hE P "differences" 774 (.ref 466),hE P "difference_signs" 782 (.ref 473),hE P "uneven_bound" 788 (.ref 478),hE P "uneven_paper" 795 (.ref 485),hE P "TIMES_BY_PARTS" 799 (.int 2 798),hE P "TIMES_BY_SIGNS" 801 (.int 1 800),hE P "ahead_of_too_great" 811 (.ref 492),hE P "every_by_parts" 818 (.ref 499),hE P "every_by_signs" 825 (.ref 506),hE P "missed_by_parts" 833 (.ref 513),hE P "missed_by_signs" 841 (.ref 520),hE P "part_towards" 849 (.ref 527)] 89 }
noncomputable def q284 (P:Params):Obj:={ cls:=.none,data:=.fields #[.int 2 0,.int 0 0,.ref 20,.int 4 0,.int 0 0,.ref 33,.int 6 0,.int 0 0,.ref 45,.int 8 0,.int 0 0,.ref 57,.int 10 0,.int 0 0,.ref 69,.int 12 0,.int 0 0,.ref 81,.int 14 0,.int 0 0,.ref 93,.int 20 0,.int 0 0,.ref 112,.int 22 0,.int 0 0,.ref 117,.int 24 0,.int 0 0,.ref 122,.int 28 0,.int 0 0,.ref 129,.int 31 0,.int 0 0,.ref 136,.int 34 0,.int 0 0,.ref 143,.int 37 0,.int 0 0,.ref 148,.int 40 0,.int 0 0,.ref 153,.int 42 0,.int 0 0,.ref 160,.int 45 0,.int 0 0,.ref 167,.int 48 0,.int 0 0,.ref 174,.int 51 0,.int 0 0,.ref 179,.int 54 0,.int 0 0,.ref 184,.int 57 0,.int 0 0,.ref 189,.int 59 0,.int 0 0,.ref 196,.int 62 0,.int 0 0,.ref 201,.int 71 0,.int 0 0,.ref 210,.int 75 0,.int 0 0,.ref 217,.int 78 0,.int 0 0,.ref 224,.int 85 0,.int 0 0,.ref 231,.int 90 0,.int 0 0,.ref 238,.int 93 0,.int 0 0,.ref 245,.int 96 0,.int 0 0,.ref 252,.int 101 0,.int 0 0,.ref 257,.int 113 0,.int 0 0,.ref 264,.int 116 0,.int 0 0,.ref 271,.int 119 0,.int 0 0,.ref 278,.int 122 0,.int 0 0,.ref 285,.int 125 0,.int 0 0,.ref 290,.int 129 0,.int 0 0,.ref 295,.int 136 0,.int 0 0,.ref 300,.int 142 0,.int 0 0,.ref 307,.int 145 0,.int 0 0,.ref 314,.int 148 0,.int 0 0,.ref 321,.int 155 0,.int 0 0,.ref 328,.int 158 0,.int 0 0,.ref 335,.int 161 0,.int 0 0,.ref 342,.int 164 0,.int 0 0,.ref 347,.int 170 0,.int 0 0,.ref 354,.int 179 0,.int 0 0,.ref 361,.int 186 0,.int 0 0,.ref 368,.int 189 0,.int 0 0,.ref 373,.int 192 0,.int 0 0,.ref 378,.int 196 0,.int 0 0,.ref 385,.int 204 0,.int 0 0,.ref 392,.int 209 0,.int 0 0,.ref 397,.int 214 0,.int 0 0,.ref 404,.int 227 0,.int 0 0,.ref 409,.int 233 0,.int 0 0,.ref 414,.int 238 0,.int 0 0,.ref 419,.int 241 0,.int 0 0,.ref 424,.int 245 0,.int 0 0,.ref 431,.int 247 0,.int 0 0,.ref 438,.int 250 0,.int 0 0,.ref 445,.int 254 0,.int 0 0,.ref 450,.int 256 0,.int 0 0,.ref 455,.int 259 0,.int 0 0,.ref 460,.int 266 0,.int 0 0,.ref 465,.int 269 0,.int 0 0,.ref 472,.int 275 0,.int 0 0,.ref 477,.int 280 0,.int 0 0,.ref 484,.int 286 0,.int 0 0,.ref 491,.int 293 0,.int 0 0,.ref 498,.int 296 0,.int 0 0,.ref 505,.int 299 0,.int 0 0,.ref 512,.int 303 0,.int 0 0,.ref 519,.int 307 0,.int 0 0,.ref 526] }
noncomputable def q285 (P:Params):Obj:={ cls:=.type "tuple",data:=.seq #[] }
noncomputable def q286 (P:Params):Obj:={ cls:=.none,data:=.fields #[] }
noncomputable def q287 (P:Params):Obj:=hG "leads_on" 43
noncomputable def q288 (P:Params):Obj:=hC "leads_on" 544 545 546 129 4 0 0 3 (.ref 292) 181 (.ref 293) .none .none .none (.ref 294) 547 129 548
noncomputable def q289 (P:Params):Obj:=hF "leads_on" 43 "plusless.tables" 424 295
noncomputable def q290 (P:Params):Obj:={ cls:=.type "tuple",data:=.seq #[] }
noncomputable def q291 (P:Params):Obj:={ cls:=.none,data:=.fields #[] }
noncomputable def q292 (P:Params):Obj:=hG "are_layers" 44
noncomputable def q293 (P:Params):Obj:=hC "are_layers" 550 551 552 136 3 0 0 3 (.ref 297) 181 (.ref 298) .none .none .none (.ref 299) 553 136 554
noncomputable def q294 (P:Params):Obj:=hF "are_layers" 44 "plusless.tables" 424 300
noncomputable def q295 (P:Params):Obj:={ cls:=.type "tuple",data:=.seq #[] }
noncomputable def q296 (P:Params):Obj:={ cls:=.none,data:=.fields #[] }
noncomputable def q297 (P:Params):Obj:={ cls:=.type "tuple",data:=.seq #[.str "thing" 559,.str "row" 560,.str "number" 561] }
noncomputable def q298 (P:Params):Obj:={ cls:=.type "tuple",data:=.seq #[] }
noncomputable def q299 (P:Params):Obj:=hG "is_barred" 45
noncomputable def q300 (P:Params):Obj:=hC "is_barred" 556 557 558 142 3 0 0 3 (.ref 302) 181 (.ref 303) .none (.ref 304) (.ref 305) (.ref 306) 562 142 563
noncomputable def q301 (P:Params):Obj:=hF "is_barred" 45 "plusless.tables" 424 307
noncomputable def q302 (P:Params):Obj:={ cls:=.type "tuple",data:=.seq #[] }
noncomputable def q303 (P:Params):Obj:={ cls:=.none,data:=.fields #[] }
noncomputable def q304 (P:Params):Obj:={ cls:=.type "tuple",data:=.seq #[.str "thing" 568,.str "row" 569,.str "number" 570] }
noncomputable def q305 (P:Params):Obj:={ cls:=.type "tuple",data:=.seq #[] }
noncomputable def q306 (P:Params):Obj:=hG "is_wide_barred" 46
noncomputable def q307 (P:Params):Obj:=hC "is_wide_barred" 565 566 567 145 3 0 0 3 (.ref 309) 181 (.ref 310) .none (.ref 311) (.ref 312) (.ref 313) 571 145 572
noncomputable def q308 (P:Params):Obj:=hF "is_wide_barred" 46 "plusless.tables" 424 314
noncomputable def q309 (P:Params):Obj:={ cls:=.type "tuple",data:=.seq #[] }
noncomputable def q310 (P:Params):Obj:={ cls:=.none,data:=.fields #[] }
noncomputable def q311 (P:Params):Obj:={ cls:=.type "tuple",data:=.seq #[.str "row" 577,.str "choices" 578,.str "table" 579,.str "layers" 580,.str "step" 581] }
noncomputable def q312 (P:Params):Obj:={ cls:=.type "tuple",data:=.seq #[] }
noncomputable def q313 (P:Params):Obj:=hG "least_layers" 47
noncomputable def q314 (P:Params):Obj:=hC "least_layers" 574 575 576 148 2 0 0 3 (.ref 316) 181 (.ref 317) .none (.ref 318) (.ref 319) (.ref 320) 582 148 583
noncomputable def q315 (P:Params):Obj:=hF "least_layers" 47 "plusless.tables" 424 321
noncomputable def q316 (P:Params):Obj:={ cls:=.type "tuple",data:=.seq #[] }
noncomputable def q317 (P:Params):Obj:={ cls:=.none,data:=.fields #[] }
noncomputable def q318 (P:Params):Obj:={ cls:=.type "tuple",data:=.seq #[.str "number" 588,.str "row" 589,.str "choices" 590,.str "layers" 591] }
noncomputable def q319 (P:Params):Obj:={ cls:=.type "tuple",data:=.seq #[] }
noncomputable def q320 (P:Params):Obj:=hG "least_without" 48
noncomputable def q321 (P:Params):Obj:=hC "least_without" 585 586 587 155 3 0 0 3 (.ref 323) 181 (.ref 324) .none (.ref 325) (.ref 326) (.ref 327) 592 155 593
noncomputable def q322 (P:Params):Obj:=hF "least_without" 48 "plusless.tables" 424 328
noncomputable def q323 (P:Params):Obj:={ cls:=.type "tuple",data:=.seq #[] }
noncomputable def q324 (P:Params):Obj:={ cls:=.none,data:=.fields #[] }
noncomputable def q325 (P:Params):Obj:={ cls:=.type "tuple",data:=.seq #[.str "row" 598,.str "number" 599] }
noncomputable def q326 (P:Params):Obj:={ cls:=.type "tuple",data:=.seq #[] }
noncomputable def q327 (P:Params):Obj:=hG "layers_for" 49
noncomputable def q328 (P:Params):Obj:=hC "layers_for" 595 596 597 158 2 0 0 3 (.ref 330) 181 (.ref 331) .none (.ref 332) (.ref 333) (.ref 334) 600 158 601
noncomputable def q329 (P:Params):Obj:=hF "layers_for" 49 "plusless.tables" 424 335
noncomputable def q330 (P:Params):Obj:={ cls:=.type "tuple",data:=.seq #[] }
noncomputable def q331 (P:Params):Obj:={ cls:=.none,data:=.fields #[] }
noncomputable def q332 (P:Params):Obj:={ cls:=.type "tuple",data:=.seq #[.str "row" 606,.str "number" 607] }
noncomputable def q333 (P:Params):Obj:={ cls:=.type "tuple",data:=.seq #[] }
noncomputable def q334 (P:Params):Obj:=hG "wide_layers_for" 50
noncomputable def q335 (P:Params):Obj:=hC "wide_layers_for" 603 604 605 161 2 0 0 3 (.ref 337) 181 (.ref 338) .none (.ref 339) (.ref 340) (.ref 341) 608 161 609
noncomputable def q336 (P:Params):Obj:=hF "wide_layers_for" 50 "plusless.tables" 424 342
noncomputable def q337 (P:Params):Obj:={ cls:=.type "tuple",data:=.seq #[] }
noncomputable def q338 (P:Params):Obj:={ cls:=.none,data:=.fields #[] }
noncomputable def q339 (P:Params):Obj:=hG "is_rest" 51
noncomputable def q340 (P:Params):Obj:=hC "is_rest" 611 612 613 164 3 0 0 3 (.ref 344) 181 (.ref 345) .none .none .none (.ref 346) 614 164 615
noncomputable def q341 (P:Params):Obj:=hF "is_rest" 51 "plusless.tables" 424 347
noncomputable def q342 (P:Params):Obj:={ cls:=.type "tuple",data:=.seq #[] }
noncomputable def q343 (P:Params):Obj:={ cls:=.none,data:=.fields #[] }
noncomputable def q344 (P:Params):Obj:={ cls:=.type "tuple",data:=.seq #[.str "row" 620,.str "divisor" 621,.str "number" 622,.str "other" 623,.str "left" 624] }
noncomputable def q345 (P:Params):Obj:={ cls:=.type "tuple",data:=.seq #[] }
noncomputable def q346 (P:Params):Obj:=hG "common_divisor" 52
noncomputable def q347 (P:Params):Obj:=hC "common_divisor" 617 618 619 170 1 0 0 3 (.ref 349) 181 (.ref 350) .none (.ref 351) (.ref 352) (.ref 353) 625 170 626
noncomputable def q348 (P:Params):Obj:=hF "common_divisor" 52 "plusless.tables" 424 354
noncomputable def q349 (P:Params):Obj:={ cls:=.type "tuple",data:=.seq #[] }
noncomputable def q350 (P:Params):Obj:={ cls:=.none,data:=.fields #[] }
noncomputable def q351 (P:Params):Obj:={ cls:=.type "tuple",data:=.seq #[.str "row" 631,.str "number" 632,.str "greatest" 633] }
noncomputable def q352 (P:Params):Obj:={ cls:=.type "tuple",data:=.seq #[] }
noncomputable def q353 (P:Params):Obj:=hG "rest_for" 53
noncomputable def q354 (P:Params):Obj:=hC "rest_for" 628 629 630 179 2 0 0 3 (.ref 356) 181 (.ref 357) .none (.ref 358) (.ref 359) (.ref 360) 634 179 635
noncomputable def q355 (P:Params):Obj:=hF "rest_for" 53 "plusless.tables" 424 361
noncomputable def q356 (P:Params):Obj:={ cls:=.type "tuple",data:=.seq #[] }
noncomputable def q357 (P:Params):Obj:={ cls:=.none,data:=.fields #[] }
noncomputable def q358 (P:Params):Obj:={ cls:=.type "tuple",data:=.seq #[.str "row" 642,.str "middle" 643] }
noncomputable def q359 (P:Params):Obj:={ cls:=.type "tuple",data:=.seq #[] }
noncomputable def q360 (P:Params):Obj:=hG "halves_of" 55
noncomputable def q361 (P:Params):Obj:=hC "halves_of" 639 640 641 186 1 0 0 3 (.ref 363) 181 (.ref 364) .none (.ref 365) (.ref 366) (.ref 367) 644 186 645
noncomputable def q362 (P:Params):Obj:=hF "halves_of" 55 "plusless.halves" 637 368
noncomputable def q363 (P:Params):Obj:={ cls:=.type "tuple",data:=.seq #[] }
noncomputable def q364 (P:Params):Obj:={ cls:=.none,data:=.fields #[] }
noncomputable def q365 (P:Params):Obj:=hG "half_worths" 56
noncomputable def q366 (P:Params):Obj:=hC "half_worths" 647 648 649 189 1 0 0 3 (.ref 370) 181 (.ref 371) .none .none .none (.ref 372) 650 189 651
noncomputable def q367 (P:Params):Obj:=hF "half_worths" 56 "plusless.halves" 637 373
noncomputable def q368 (P:Params):Obj:={ cls:=.type "tuple",data:=.seq #[] }
noncomputable def q369 (P:Params):Obj:={ cls:=.none,data:=.fields #[] }
noncomputable def q370 (P:Params):Obj:=hG "many_met" 57
noncomputable def q371 (P:Params):Obj:=hC "many_met" 653 654 655 192 2 0 0 3 (.ref 375) 181 (.ref 376) .none .none .none (.ref 377) 656 192 657
noncomputable def q372 (P:Params):Obj:=hF "many_met" 57 "plusless.halves" 637 378
noncomputable def q373 (P:Params):Obj:={ cls:=.type "tuple",data:=.seq #[] }
noncomputable def q374 (P:Params):Obj:={ cls:=.none,data:=.fields #[] }
noncomputable def q375 (P:Params):Obj:={ cls:=.type "tuple",data:=.seq #[.str "firsts" 662,.str "step" 663,.str "longer" 664,.str "reached" 665,.str "signs" 666,.str "sign" 667,.str "there" 668,.str "chosen" 669] }
noncomputable def q376 (P:Params):Obj:={ cls:=.type "tuple",data:=.seq #[] }
noncomputable def q377 (P:Params):Obj:=hG "firsts_stepped" 58
noncomputable def q378 (P:Params):Obj:=hC "firsts_stepped" 659 660 661 196 2 0 0 3 (.ref 380) 181 (.ref 381) .none (.ref 382) (.ref 383) (.ref 384) 670 196 671
noncomputable def q379 (P:Params):Obj:=hF "firsts_stepped" 58 "plusless.halves" 637 385
noncomputable def q380 (P:Params):Obj:={ cls:=.type "tuple",data:=.seq #[] }
noncomputable def q381 (P:Params):Obj:={ cls:=.none,data:=.fields #[] }
noncomputable def q382 (P:Params):Obj:={ cls:=.type "tuple",data:=.seq #[.str "row" 676,.str "firsts" 677,.str "step" 678] }
noncomputable def q383 (P:Params):Obj:={ cls:=.type "tuple",data:=.seq #[] }
noncomputable def q384 (P:Params):Obj:=hG "firsts_of" 59
noncomputable def q385 (P:Params):Obj:=hC "firsts_of" 673 674 675 204 1 0 0 3 (.ref 387) 181 (.ref 388) .none (.ref 389) (.ref 390) (.ref 391) 679 204 680
noncomputable def q386 (P:Params):Obj:=hF "firsts_of" 59 "plusless.halves" 637 392
noncomputable def q387 (P:Params):Obj:={ cls:=.type "tuple",data:=.seq #[] }
noncomputable def q388 (P:Params):Obj:={ cls:=.none,data:=.fields #[] }
noncomputable def q389 (P:Params):Obj:=hG "first_met" 60
noncomputable def q390 (P:Params):Obj:=hC "first_met" 682 683 684 209 2 0 0 3 (.ref 394) 181 (.ref 395) .none .none .none (.ref 396) 685 209 686
noncomputable def q391 (P:Params):Obj:=hF "first_met" 60 "plusless.halves" 637 397
noncomputable def q392 (P:Params):Obj:={ cls:=.type "tuple",data:=.seq #[] }
noncomputable def q393 (P:Params):Obj:={ cls:=.none,data:=.fields #[] }
noncomputable def q394 (P:Params):Obj:={ cls:=.type "tuple",data:=.seq #[.str "row" 691,.str "number" 692,.str "worths" 693,.str "walked" 694,.str "i" 695,.str "j" 696,.str "both" 697] }
noncomputable def q395 (P:Params):Obj:={ cls:=.type "tuple",data:=.seq #[] }
noncomputable def q396 (P:Params):Obj:=hG "walk" 61
noncomputable def q397 (P:Params):Obj:=hC "walk" 688 689 690 214 2 0 0 3 (.ref 399) 181 (.ref 400) .none (.ref 401) (.ref 402) (.ref 403) 698 214 699
noncomputable def q398 (P:Params):Obj:=hF "walk" 61 "plusless.halves" 637 404
noncomputable def q399 (P:Params):Obj:={ cls:=.type "tuple",data:=.seq #[] }
noncomputable def q400 (P:Params):Obj:={ cls:=.none,data:=.fields #[] }
noncomputable def q401 (P:Params):Obj:=hG "stair_for" 62
noncomputable def q402 (P:Params):Obj:=hC "stair_for" 701 702 703 227 2 0 0 3 (.ref 406) 181 (.ref 407) .none .none .none (.ref 408) 704 227 705
noncomputable def q403 (P:Params):Obj:=hF "stair_for" 62 "plusless.halves" 637 409
noncomputable def q404 (P:Params):Obj:={ cls:=.type "tuple",data:=.seq #[] }
noncomputable def q405 (P:Params):Obj:={ cls:=.none,data:=.fields #[] }
noncomputable def q406 (P:Params):Obj:=hG "is_stair" 63
noncomputable def q407 (P:Params):Obj:=hC "is_stair" 707 708 709 233 3 0 0 3 (.ref 411) 181 (.ref 412) .none .none .none (.ref 413) 710 233 711
noncomputable def q408 (P:Params):Obj:=hF "is_stair" 63 "plusless.halves" 637 414
noncomputable def q409 (P:Params):Obj:={ cls:=.type "tuple",data:=.seq #[] }
noncomputable def q410 (P:Params):Obj:={ cls:=.none,data:=.fields #[] }
noncomputable def q411 (P:Params):Obj:=hG "below" 64
noncomputable def q412 (P:Params):Obj:=hC "below" 713 714 715 238 2 0 0 3 (.ref 416) 181 (.ref 417) .none .none .none (.ref 418) 716 238 717
noncomputable def q413 (P:Params):Obj:=hF "below" 64 "plusless.halves" 637 419
noncomputable def q414 (P:Params):Obj:={ cls:=.type "tuple",data:=.seq #[] }
noncomputable def q415 (P:Params):Obj:={ cls:=.none,data:=.fields #[] }
noncomputable def q416 (P:Params):Obj:=hG "above" 65
noncomputable def q417 (P:Params):Obj:=hC "above" 719 720 721 241 2 0 0 3 (.ref 421) 181 (.ref 422) .none .none .none (.ref 423) 722 241 723
noncomputable def q418 (P:Params):Obj:=hF "above" 65 "plusless.halves" 637 424
noncomputable def q419 (P:Params):Obj:={ cls:=.type "tuple",data:=.seq #[] }
noncomputable def q420 (P:Params):Obj:={ cls:=.none,data:=.fields #[] }
noncomputable def q421 (P:Params):Obj:={ cls:=.type "tuple",data:=.seq #[.str "row" 730] }
noncomputable def q422 (P:Params):Obj:={ cls:=.type "tuple",data:=.seq #[] }
noncomputable def q423 (P:Params):Obj:=hG "unevenness" 67
noncomputable def q424 (P:Params):Obj:=hC "unevenness" 727 728 729 245 1 0 0 3 (.ref 426) 181 (.ref 427) .none (.ref 428) (.ref 429) (.ref 430) 731 245 732
noncomputable def q425 (P:Params):Obj:=hF "unevenness" 67 "plusless.evenness" 725 431
noncomputable def q426 (P:Params):Obj:={ cls:=.type "tuple",data:=.seq #[] }
noncomputable def q427 (P:Params):Obj:={ cls:=.none,data:=.fields #[] }
noncomputable def q428 (P:Params):Obj:={ cls:=.type "tuple",data:=.seq #[.str "row" 737,.str "least" 738] }
noncomputable def q429 (P:Params):Obj:={ cls:=.type "tuple",data:=.seq #[] }
noncomputable def q430 (P:Params):Obj:=hG "evenest" 68
noncomputable def q431 (P:Params):Obj:=hC "evenest" 734 735 736 247 1 0 0 3 (.ref 433) 181 (.ref 434) .none (.ref 435) (.ref 436) (.ref 437) 739 247 740
noncomputable def q432 (P:Params):Obj:=hF "evenest" 68 "plusless.evenness" 725 438
noncomputable def q433 (P:Params):Obj:={ cls:=.type "tuple",data:=.seq #[] }
noncomputable def q434 (P:Params):Obj:={ cls:=.none,data:=.fields #[] }
noncomputable def q435 (P:Params):Obj:={ cls:=.type "tuple",data:=.seq #[.str "row" 745,.str "least" 746,.str "met" 747] }
noncomputable def q436 (P:Params):Obj:={ cls:=.type "tuple",data:=.seq #[] }
noncomputable def q437 (P:Params):Obj:=hG "evenest_many" 69
noncomputable def q438 (P:Params):Obj:=hC "evenest_many" 742 743 744 250 1 0 0 3 (.ref 440) 181 (.ref 441) .none (.ref 442) (.ref 443) (.ref 444) 748 250 749
noncomputable def q439 (P:Params):Obj:=hF "evenest_many" 69 "plusless.evenness" 725 445
noncomputable def q440 (P:Params):Obj:={ cls:=.type "tuple",data:=.seq #[] }
noncomputable def q441 (P:Params):Obj:={ cls:=.none,data:=.fields #[] }
noncomputable def q442 (P:Params):Obj:=hG "parts_of_one" 70
noncomputable def q443 (P:Params):Obj:=hC "parts_of_one" 751 752 753 254 2 0 0 3 (.ref 447) 181 (.ref 448) .none .none .none (.ref 449) 754 254 755
noncomputable def q444 (P:Params):Obj:=hF "parts_of_one" 70 "plusless.evenness" 725 450
noncomputable def q445 (P:Params):Obj:={ cls:=.type "tuple",data:=.seq #[] }
noncomputable def q446 (P:Params):Obj:={ cls:=.none,data:=.fields #[] }
noncomputable def q447 (P:Params):Obj:=hG "difference" 71
noncomputable def q448 (P:Params):Obj:=hC "difference" 757 758 759 256 2 0 0 3 (.ref 452) 181 (.ref 453) .none .none .none (.ref 454) 760 256 761
noncomputable def q449 (P:Params):Obj:=hF "difference" 71 "plusless.evenness" 725 455
noncomputable def q450 (P:Params):Obj:={ cls:=.type "tuple",data:=.seq #[] }
noncomputable def q451 (P:Params):Obj:={ cls:=.none,data:=.fields #[] }
noncomputable def q452 (P:Params):Obj:=hG "difference_steps" 72
noncomputable def q453 (P:Params):Obj:=hC "difference_steps" 763 764 765 259 1 0 0 3 (.ref 457) 181 (.ref 458) .none .none .none (.ref 459) 766 259 767
noncomputable def q454 (P:Params):Obj:=hF "difference_steps" 72 "plusless.evenness" 725 460
noncomputable def q455 (P:Params):Obj:={ cls:=.type "tuple",data:=.seq #[] }
noncomputable def q456 (P:Params):Obj:={ cls:=.none,data:=.fields #[] }
noncomputable def q457 (P:Params):Obj:=hG "differences" 73
noncomputable def q458 (P:Params):Obj:=hC "differences" 769 770 771 266 1 0 0 3 (.ref 462) 181 (.ref 463) .none .none .none (.ref 464) 772 266 773
noncomputable def q459 (P:Params):Obj:=hF "differences" 73 "plusless.evenness" 725 465
noncomputable def q460 (P:Params):Obj:={ cls:=.type "tuple",data:=.seq #[] }
noncomputable def q461 (P:Params):Obj:={ cls:=.none,data:=.fields #[] }
noncomputable def q462 (P:Params):Obj:={ cls:=.type "tuple",data:=.seq #[.str "row" 778,.str "last" 779] }
noncomputable def q463 (P:Params):Obj:={ cls:=.type "tuple",data:=.seq #[] }
noncomputable def q464 (P:Params):Obj:=hG "difference_signs" 74
noncomputable def q465 (P:Params):Obj:=hC "difference_signs" 775 776 777 269 1 0 0 3 (.ref 467) 181 (.ref 468) .none (.ref 469) (.ref 470) (.ref 471) 780 269 781
noncomputable def q466 (P:Params):Obj:=hF "difference_signs" 74 "plusless.evenness" 725 472
noncomputable def q467 (P:Params):Obj:={ cls:=.type "tuple",data:=.seq #[] }
noncomputable def q468 (P:Params):Obj:={ cls:=.none,data:=.fields #[] }
noncomputable def q469 (P:Params):Obj:=hG "uneven_bound" 75
noncomputable def q470 (P:Params):Obj:=hC "uneven_bound" 783 784 785 275 2 0 0 3 (.ref 474) 181 (.ref 475) .none .none .none (.ref 476) 786 275 787
noncomputable def q471 (P:Params):Obj:=hF "uneven_bound" 75 "plusless.evenness" 725 477
noncomputable def q472 (P:Params):Obj:={ cls:=.type "tuple",data:=.seq #[] }
noncomputable def q473 (P:Params):Obj:={ cls:=.none,data:=.fields #[] }
noncomputable def q474 (P:Params):Obj:={ cls:=.type "tuple",data:=.seq #[.str "row" 792] }
noncomputable def q475 (P:Params):Obj:={ cls:=.type "tuple",data:=.seq #[] }
noncomputable def q476 (P:Params):Obj:=hG "uneven_paper" 76
noncomputable def q477 (P:Params):Obj:=hC "uneven_paper" 789 790 791 280 1 0 0 3 (.ref 479) 181 (.ref 480) .none (.ref 481) (.ref 482) (.ref 483) 793 280 794
noncomputable def q478 (P:Params):Obj:=hF "uneven_paper" 76 "plusless.evenness" 725 484
noncomputable def q479 (P:Params):Obj:={ cls:=.type "tuple",data:=.seq #[] }
noncomputable def q480 (P:Params):Obj:={ cls:=.none,data:=.fields #[] }
noncomputable def q481 (P:Params):Obj:={ cls:=.type "tuple",data:=.seq #[.str "row" 805,.str "times" 806,.str "ahead" 807,.str "number" 808] }
noncomputable def q482 (P:Params):Obj:={ cls:=.type "tuple",data:=.seq #[] }
noncomputable def q483 (P:Params):Obj:=hG "ahead_of_too_great" 80
noncomputable def q484 (P:Params):Obj:=hC "ahead_of_too_great" 802 803 804 286 2 0 0 3 (.ref 486) 181 (.ref 487) .none (.ref 488) (.ref 489) (.ref 490) 809 286 810
noncomputable def q485 (P:Params):Obj:=hF "ahead_of_too_great" 80 "plusless.every" 796 491
noncomputable def q486 (P:Params):Obj:={ cls:=.type "tuple",data:=.seq #[] }
noncomputable def q487 (P:Params):Obj:={ cls:=.none,data:=.fields #[] }
noncomputable def q488 (P:Params):Obj:={ cls:=.type "tuple",data:=.seq #[.str "row" 815] }
noncomputable def q489 (P:Params):Obj:={ cls:=.type "tuple",data:=.seq #[] }
noncomputable def q490 (P:Params):Obj:=hG "every_by_parts" 81
noncomputable def q491 (P:Params):Obj:=hC "every_by_parts" 812 813 814 293 1 0 0 3 (.ref 493) 181 (.ref 494) .none (.ref 495) (.ref 496) (.ref 497) 816 293 817
noncomputable def q492 (P:Params):Obj:=hF "every_by_parts" 81 "plusless.every" 796 498
noncomputable def q493 (P:Params):Obj:={ cls:=.type "tuple",data:=.seq #[] }
noncomputable def q494 (P:Params):Obj:={ cls:=.none,data:=.fields #[] }
noncomputable def q495 (P:Params):Obj:={ cls:=.type "tuple",data:=.seq #[.str "row" 822] }
noncomputable def q496 (P:Params):Obj:={ cls:=.type "tuple",data:=.seq #[] }
noncomputable def q497 (P:Params):Obj:=hG "every_by_signs" 82
noncomputable def q498 (P:Params):Obj:=hC "every_by_signs" 819 820 821 296 1 0 0 3 (.ref 500) 181 (.ref 501) .none (.ref 502) (.ref 503) (.ref 504) 823 296 824
noncomputable def q499 (P:Params):Obj:=hF "every_by_signs" 82 "plusless.every" 796 505
noncomputable def q500 (P:Params):Obj:={ cls:=.type "tuple",data:=.seq #[] }
noncomputable def q501 (P:Params):Obj:={ cls:=.none,data:=.fields #[] }
noncomputable def q502 (P:Params):Obj:={ cls:=.type "tuple",data:=.seq #[.str "row" 829,.str "ahead" 830] }
noncomputable def q503 (P:Params):Obj:={ cls:=.type "tuple",data:=.seq #[] }
noncomputable def q504 (P:Params):Obj:=hG "missed_by_parts" 83
noncomputable def q505 (P:Params):Obj:=hC "missed_by_parts" 826 827 828 299 1 0 0 3 (.ref 507) 181 (.ref 508) .none (.ref 509) (.ref 510) (.ref 511) 831 299 832
noncomputable def q506 (P:Params):Obj:=hF "missed_by_parts" 83 "plusless.every" 796 512
noncomputable def q507 (P:Params):Obj:={ cls:=.type "tuple",data:=.seq #[] }
noncomputable def q508 (P:Params):Obj:={ cls:=.none,data:=.fields #[] }
noncomputable def q509 (P:Params):Obj:={ cls:=.type "tuple",data:=.seq #[.str "row" 837,.str "ahead" 838] }
noncomputable def q510 (P:Params):Obj:={ cls:=.type "tuple",data:=.seq #[] }
noncomputable def q511 (P:Params):Obj:=hG "missed_by_signs" 84
noncomputable def q512 (P:Params):Obj:=hC "missed_by_signs" 834 835 836 303 1 0 0 3 (.ref 514) 181 (.ref 515) .none (.ref 516) (.ref 517) (.ref 518) 839 303 840
noncomputable def q513 (P:Params):Obj:=hF "missed_by_signs" 84 "plusless.every" 796 519
noncomputable def q514 (P:Params):Obj:={ cls:=.type "tuple",data:=.seq #[] }
noncomputable def q515 (P:Params):Obj:={ cls:=.none,data:=.fields #[] }
noncomputable def q516 (P:Params):Obj:={ cls:=.type "tuple",data:=.seq #[.str "rest" 845,.str "ahead" 846] }
noncomputable def q517 (P:Params):Obj:={ cls:=.type "tuple",data:=.seq #[] }
noncomputable def q518 (P:Params):Obj:=hG "part_towards" 85
noncomputable def q519 (P:Params):Obj:=hC "part_towards" 842 843 844 307 2 0 0 3 (.ref 521) 181 (.ref 522) .none (.ref 523) (.ref 524) (.ref 525) 847 307 848
noncomputable def q520 (P:Params):Obj:=hF "part_towards" 85 "plusless.every" 796 526
noncomputable def q521 (P:Params):Obj:={ cls:=.type "dict",data:=.dict #[hE P "__name__" 165 (.str "law_plusless_k06_what_is_no_row" 893),hE P "__doc__" 166 .none,hE P "__package__" 167 .none,hE P "__loader__" 168 (.builtin "__main__.__loader__#opaque"),hE P "__spec__" 169 .none,hE P "__annotations__" 170 (.ref 6),hE P "__builtins__" 171 (.ref 4),hE P "__file__" 173 (.str "/claim/cut.py" 172),hE P "__cached__" 174 .none,hE P "PlusError" 206 (.ref 24),hE P "NoRow" 222 (.ref 37),hE P "NoNumber" 238 (.ref 49),hE P "NoSigns" 254 (.ref 61),hE P "TooMany" 270 (.ref 73),hE P "Lacking" 286 (.ref 85),hE P "NoText" 311 (.ref 104),hE P "LONGEST_ROW" 315 (.int 16 314),hE P "is_whole" 322 (.ref 113),hE P "are_whole" 328 (.ref 118),hE P "is_row" 334 (.ref 123),hE P "need_row" 341 (.ref 130),hE P "need_number" 348 (.ref 137),hE P "need_row_and_number" 356 (.ref 144),hE P "are_parts" 362 (.ref 149),hE P "are_so_many_signs" 368 (.ref 154),hE P "are_signs" 376 (.ref 161),hE P "need_parts" 384 (.ref 168),hE P "total" 391 (.ref 175),hE P "worth" 397 (.ref 180),hE P "turned" 403 (.ref 185),hE P "places_with" 409 (.ref 190),hE P "lots" 417 (.ref 197),hE P "kept" 423 (.ref 202),hE P "LONGEST_TABLED" 427 (.int 10 426),hE P "SIGNS" 431 (.ref 203),hE P "PARTS" 436 (.ref 204),hE P "need_few" 443 (.ref 211),hE P "need_few_and_number" 451 (.ref 218),hE P "stepped" 465 (.ref 225),hE P "table_of" 475 (.ref 232),hE P "sign_table" 482 (.ref 239),hE P "part_table" 489 (.ref 246),hE P "tables_from_behind" 499 (.ref 253),hE P "first_to" 505 (.ref 258),hE P "signs_to" 513 (.ref 265),hE P "parts_to" 521 (.ref 272),hE P "sign_ways" 529 (.ref 279),hE P "part_ways" 537 (.ref 286),hE P "is_rising" 543 (.ref 291),hE P "leads_on" 549 (.ref 296),hE P "are_layers" 555 (.ref 301),hE P "is_barred" 564 (.ref 308),hE P "is_wide_barred" 573 (.ref 315),hE P "least_layers" 584 (.ref 322),hE P "least_without" 594 (.ref 329),hE P "layers_for" 602 (.ref 336),hE P "wide_layers_for" 610 (.ref 343),hE P "is_rest" 616 (.ref 348),hE P "common_divisor" 627 (.ref 355),hE P "rest_for" 636 (.ref 362),hE P "halves_of" 646 (.ref 369),hE P "half_worths" 652 (.ref 374),hE P "many_met" 658 (.ref 379),hE P "firsts_stepped" 672 (.ref 386),hE P "firsts_of" 681 (.ref 393),hE P "first_met" 687 (.ref 398),hE P "walk" 700 (.ref 405),hE P "stair_for" 706 (.ref 410),hE P "is_stair" 712 (.ref 415),hE P "below" 718 (.ref 420),hE P "above" 724 (.ref 425),hE P "unevenness" 733 (.ref 432),hE P "evenest" 741 (.ref 439),hE P "evenest_many" 750 (.ref 446),hE P "parts_of_one" 756 (.ref 451),hE P "difference" 762 (.ref 456),hE P "difference_steps" 768 (.ref 461),hE P "differences" 774 (.ref 466),hE P "difference_signs" 782 (.ref 473),hE P "uneven_bound" 788 (.ref 478),hE P "uneven_paper" 795 (.ref 485),hE P "TIMES_BY_PARTS" 799 (.int 2 798),hE P "TIMES_BY_SIGNS" 801 (.int 1 800),hE P "ahead_of_too_great" 811 (.ref 492),hE P "every_by_parts" 818 (.ref 499),hE P "every_by_signs" 825 (.ref 506),hE P "missed_by_parts" 833 (.ref 513),hE P "missed_by_signs" 841 (.ref 520),hE P "part_towards" 849 (.ref 527),hE P "weighed" 862 (.ref 534),hE P "MARK_OF" 875 (.ref 535),hE P "PIECE" 877 (.int 60 876),hE P "figures_of" 886 (.ref 542),hE P "show" 892 (.ref 547),hE P "_law_cell" 902 (.ref 554),hE P "_law_mix" 912 (.ref 561),hE P "_law_box" 923 (.ref 568),hE P "_law_take" 933 (.ref 575),hE P "_law_row" 948 (.ref 582),hE P "_law_marks" 956 (.ref 589),hE P "_law_first" 964 (.ref 596)] 101 }
noncomputable def q522 (P:Params):Obj:={ cls:=.none,data:=.fields #[.int 2 0,.int 0 0,.ref 20,.int 4 0,.int 0 0,.ref 33,.int 6 0,.int 0 0,.ref 45,.int 8 0,.int 0 0,.ref 57,.int 10 0,.int 0 0,.ref 69,.int 12 0,.int 0 0,.ref 81,.int 14 0,.int 0 0,.ref 93,.int 20 0,.int 0 0,.ref 112,.int 22 0,.int 0 0,.ref 117,.int 24 0,.int 0 0,.ref 122,.int 28 0,.int 0 0,.ref 129,.int 31 0,.int 0 0,.ref 136,.int 34 0,.int 0 0,.ref 143,.int 37 0,.int 0 0,.ref 148,.int 40 0,.int 0 0,.ref 153,.int 42 0,.int 0 0,.ref 160,.int 45 0,.int 0 0,.ref 167,.int 48 0,.int 0 0,.ref 174,.int 51 0,.int 0 0,.ref 179,.int 54 0,.int 0 0,.ref 184,.int 57 0,.int 0 0,.ref 189,.int 59 0,.int 0 0,.ref 196,.int 62 0,.int 0 0,.ref 201,.int 71 0,.int 0 0,.ref 210,.int 75 0,.int 0 0,.ref 217,.int 78 0,.int 0 0,.ref 224,.int 85 0,.int 0 0,.ref 231,.int 90 0,.int 0 0,.ref 238,.int 93 0,.int 0 0,.ref 245,.int 96 0,.int 0 0,.ref 252,.int 101 0,.int 0 0,.ref 257,.int 113 0,.int 0 0,.ref 264,.int 116 0,.int 0 0,.ref 271,.int 119 0,.int 0 0,.ref 278,.int 122 0,.int 0 0,.ref 285,.int 125 0,.int 0 0,.ref 290,.int 129 0,.int 0 0,.ref 295,.int 136 0,.int 0 0,.ref 300,.int 142 0,.int 0 0,.ref 307,.int 145 0,.int 0 0,.ref 314,.int 148 0,.int 0 0,.ref 321,.int 155 0,.int 0 0,.ref 328,.int 158 0,.int 0 0,.ref 335,.int 161 0,.int 0 0,.ref 342,.int 164 0,.int 0 0,.ref 347,.int 170 0,.int 0 0,.ref 354,.int 179 0,.int 0 0,.ref 361,.int 186 0,.int 0 0,.ref 368,.int 189 0,.int 0 0,.ref 373,.int 192 0,.int 0 0,.ref 378,.int 196 0,.int 0 0,.ref 385,.int 204 0,.int 0 0,.ref 392,.int 209 0,.int 0 0,.ref 397,.int 214 0,.int 0 0,.ref 404,.int 227 0,.int 0 0,.ref 409,.int 233 0,.int 0 0,.ref 414,.int 238 0,.int 0 0,.ref 419,.int 241 0,.int 0 0,.ref 424,.int 245 0,.int 0 0,.ref 431,.int 247 0,.int 0 0,.ref 438,.int 250 0,.int 0 0,.ref 445,.int 254 0,.int 0 0,.ref 450,.int 256 0,.int 0 0,.ref 455,.int 259 0,.int 0 0,.ref 460,.int 266 0,.int 0 0,.ref 465,.int 269 0,.int 0 0,.ref 472,.int 275 0,.int 0 0,.ref 477,.int 280 0,.int 0 0,.ref 484,.int 286 0,.int 0 0,.ref 491,.int 293 0,.int 0 0,.ref 498,.int 296 0,.int 0 0,.ref 505,.int 299 0,.int 0 0,.ref 512,.int 303 0,.int 0 0,.ref 519,.int 307 0,.int 0 0,.ref 526,.int 313 0,.int 0 0,.ref 533,.int 330 0,.int 0 0,.ref 541,.int 337 0,.int 0 0,.ref 546,.int 341 0,.int 0 0,.ref 553,.int 345 0,.int 0 0,.ref 560,.int 350 0,.int 0 0,.ref 567,.int 358 0,.int 0 0,.ref 574,.int 362 0,.int 0 0,.ref 581,.int 372 0,.int 0 0,.ref 588,.int 380 0,.int 0 0,.ref 595] }
noncomputable def q523 (P:Params):Obj:={ cls:=.type "tuple",data:=.seq #[] }
noncomputable def q524 (P:Params):Obj:={ cls:=.none,data:=.fields #[] }
noncomputable def q525 (P:Params):Obj:={ cls:=.type "tuple",data:=.seq #[.str "row" 853,.str "number" 854,.str "parts" 855,.str "ahead" 856,.str "rest" 857,.str "place" 858] }
noncomputable def q526 (P:Params):Obj:={ cls:=.type "tuple",data:=.seq #[.str "row" 859] }
noncomputable def q527 (P:Params):Obj:=hG "weighed" 86
noncomputable def q528 (P:Params):Obj:=hC "weighed" 850 851 852 313 2 0 0 3 (.ref 528) 181 (.ref 529) .none (.ref 530) (.ref 531) (.ref 532) 860 313 861
noncomputable def q529 (P:Params):Obj:=hF "weighed" 86 "plusless.every" 796 533
noncomputable def q530 (P:Params):Obj:={ cls:=.type "dict",data:=.dict #[{ hash:=1,key:=.int 1 865,val:=.str "+" 866 },{ hash:=0,key:=.int 0 867,val:=.str "." 868 },{ hash:=-2,key:=.int (-1) 870,val:=.str "-" 871 }] 3 }
noncomputable def q531 (P:Params):Obj:={ cls:=.type "tuple",data:=.seq #[] }
noncomputable def q532 (P:Params):Obj:={ cls:=.none,data:=.fields #[] }
noncomputable def q533 (P:Params):Obj:={ cls:=.type "tuple",data:=.seq #[.str "number" 881,.str "behind" 882,.str "rest" 883] }
noncomputable def q534 (P:Params):Obj:={ cls:=.type "tuple",data:=.seq #[] }
noncomputable def q535 (P:Params):Obj:=hG "figures_of" 90
noncomputable def q536 (P:Params):Obj:=hC "figures_of" 878 879 880 330 1 0 0 3 (.ref 536) 181 (.ref 537) .none (.ref 538) (.ref 539) (.ref 540) 884 330 885
noncomputable def q537 (P:Params):Obj:=hF "figures_of" 90 "plusless.texts" 863 541
noncomputable def q538 (P:Params):Obj:={ cls:=.type "tuple",data:=.seq #[] }
noncomputable def q539 (P:Params):Obj:={ cls:=.none,data:=.fields #[] }
noncomputable def q540 (P:Params):Obj:=hG "show" 91
noncomputable def q541 (P:Params):Obj:=hC "show" 887 888 889 337 2 0 0 3 (.ref 543) 181 (.ref 544) .none .none .none (.ref 545) 890 337 891
noncomputable def q542 (P:Params):Obj:=hF "show" 91 "plusless.texts" 863 546
noncomputable def q543 (P:Params):Obj:={ cls:=.type "tuple",data:=.seq #[] }
noncomputable def q544 (P:Params):Obj:={ cls:=.none,data:=.fields #[] }
noncomputable def q545 (P:Params):Obj:={ cls:=.type "tuple",data:=.seq #[.str "script" 898,.str "k" 899] }
noncomputable def q546 (P:Params):Obj:={ cls:=.type "tuple",data:=.seq #[] }
noncomputable def q547 (P:Params):Obj:=hG "_law_cell" 93
noncomputable def q548 (P:Params):Obj:=hC "_law_cell" 895 896 897 341 2 0 0 3 (.ref 548) 181 (.ref 549) .none (.ref 550) (.ref 551) (.ref 552) 900 341 901
noncomputable def q549 (P:Params):Obj:=hF "_law_cell" 93 "law_plusless_k06_what_is_no_row" 893 553
noncomputable def q550 (P:Params):Obj:={ cls:=.type "tuple",data:=.seq #[] }
noncomputable def q551 (P:Params):Obj:={ cls:=.none,data:=.fields #[] }
noncomputable def q552 (P:Params):Obj:={ cls:=.type "tuple",data:=.seq #[.str "cell" 906,.str "k" 907,.str "some" 908,.str "stir" 909] }
noncomputable def q553 (P:Params):Obj:={ cls:=.type "tuple",data:=.seq #[] }
noncomputable def q554 (P:Params):Obj:=hG "_law_mix" 94
noncomputable def q555 (P:Params):Obj:=hC "_law_mix" 903 904 905 345 2 0 0 3 (.ref 555) 181 (.ref 556) .none (.ref 557) (.ref 558) (.ref 559) 910 345 911
noncomputable def q556 (P:Params):Obj:=hF "_law_mix" 94 "law_plusless_k06_what_is_no_row" 893 560
noncomputable def q557 (P:Params):Obj:={ cls:=.type "tuple",data:=.seq #[] }
noncomputable def q558 (P:Params):Obj:={ cls:=.none,data:=.fields #[] }
noncomputable def q559 (P:Params):Obj:={ cls:=.type "tuple",data:=.seq #[.str "script" 916,.str "k" 917,.str "cell" 918,.str "number" 919,.str "j" 920] }
noncomputable def q560 (P:Params):Obj:={ cls:=.type "tuple",data:=.seq #[] }
noncomputable def q561 (P:Params):Obj:=hG "_law_box" 95
noncomputable def q562 (P:Params):Obj:=hC "_law_box" 913 914 915 350 2 0 0 3 (.ref 562) 181 (.ref 563) .none (.ref 564) (.ref 565) (.ref 566) 921 350 922
noncomputable def q563 (P:Params):Obj:=hF "_law_box" 95 "law_plusless_k06_what_is_no_row" 893 567
noncomputable def q564 (P:Params):Obj:={ cls:=.type "tuple",data:=.seq #[] }
noncomputable def q565 (P:Params):Obj:={ cls:=.none,data:=.fields #[] }
noncomputable def q566 (P:Params):Obj:={ cls:=.type "tuple",data:=.seq #[.str "box" 927,.str "many" 928,.str "left" 929,.str "digit" 930] }
noncomputable def q567 (P:Params):Obj:={ cls:=.type "tuple",data:=.seq #[] }
noncomputable def q568 (P:Params):Obj:=hG "_law_take" 96
noncomputable def q569 (P:Params):Obj:=hC "_law_take" 924 925 926 358 2 0 0 3 (.ref 569) 181 (.ref 570) .none (.ref 571) (.ref 572) (.ref 573) 931 358 932
noncomputable def q570 (P:Params):Obj:=hF "_law_take" 96 "law_plusless_k06_what_is_no_row" 893 574
noncomputable def q571 (P:Params):Obj:={ cls:=.type "tuple",data:=.seq #[] }
noncomputable def q572 (P:Params):Obj:={ cls:=.none,data:=.fields #[] }
noncomputable def q573 (P:Params):Obj:={ cls:=.type "tuple",data:=.seq #[.str "box" 937,.str "most" 938,.str "many" 939,.str "kind" 940,.str "base" 941,.str "found" 942,.str "k" 943,.str "given" 944,.str "some" 945] }
noncomputable def q574 (P:Params):Obj:={ cls:=.type "tuple",data:=.seq #[] }
noncomputable def q575 (P:Params):Obj:=hG "_law_row" 97
noncomputable def q576 (P:Params):Obj:=hC "_law_row" 934 935 936 362 2 0 0 3 (.ref 576) 181 (.ref 577) .none (.ref 578) (.ref 579) (.ref 580) 946 362 947
noncomputable def q577 (P:Params):Obj:=hF "_law_row" 97 "law_plusless_k06_what_is_no_row" 893 581
noncomputable def q578 (P:Params):Obj:={ cls:=.type "tuple",data:=.seq #[] }
noncomputable def q579 (P:Params):Obj:={ cls:=.none,data:=.fields #[] }
noncomputable def q580 (P:Params):Obj:={ cls:=.type "tuple",data:=.seq #[.str "e" 952,.str "found" 953] }
noncomputable def q581 (P:Params):Obj:={ cls:=.type "tuple",data:=.seq #[] }
noncomputable def q582 (P:Params):Obj:=hG "_law_marks" 98
noncomputable def q583 (P:Params):Obj:=hC "_law_marks" 949 950 951 372 1 0 0 3 (.ref 583) 181 (.ref 584) .none (.ref 585) (.ref 586) (.ref 587) 954 372 955
noncomputable def q584 (P:Params):Obj:=hF "_law_marks" 98 "law_plusless_k06_what_is_no_row" 893 588
noncomputable def q585 (P:Params):Obj:={ cls:=.type "tuple",data:=.seq #[] }
noncomputable def q586 (P:Params):Obj:={ cls:=.none,data:=.fields #[] }
noncomputable def q587 (P:Params):Obj:={ cls:=.type "tuple",data:=.seq #[.str "kind" 960,.str "row" 961] }
noncomputable def q588 (P:Params):Obj:={ cls:=.type "tuple",data:=.seq #[] }
noncomputable def q589 (P:Params):Obj:=hG "_law_first" 99
noncomputable def q590 (P:Params):Obj:=hC "_law_first" 957 958 959 380 2 0 0 3 (.ref 590) 181 (.ref 591) .none (.ref 592) (.ref 593) (.ref 594) 962 380 963
noncomputable def q591 (P:Params):Obj:=hF "_law_first" 99 "law_plusless_k06_what_is_no_row" 893 595
noncomputable def q592 (P:Params):Obj:={ cls:=.type "dict",data:=.dict #[hE P "__name__" 165 (.str "law_plusless_k06_what_is_no_row" 893),hE P "__doc__" 166 .none,hE P "__package__" 167 .none,hE P "__loader__" 168 (.builtin "__main__.__loader__#opaque"),hE P "__spec__" 169 .none,hE P "__annotations__" 170 (.ref 6),hE P "__builtins__" 171 (.ref 4),hE P "__file__" 173 (.str "/claim/cut.py" 172),hE P "__cached__" 174 .none,hE P "PlusError" 206 (.ref 24),hE P "NoRow" 222 (.ref 37),hE P "NoNumber" 238 (.ref 49),hE P "NoSigns" 254 (.ref 61),hE P "TooMany" 270 (.ref 73),hE P "Lacking" 286 (.ref 85),hE P "NoText" 311 (.ref 104),hE P "LONGEST_ROW" 315 (.int 16 314),hE P "is_whole" 322 (.ref 113),hE P "are_whole" 328 (.ref 118),hE P "is_row" 334 (.ref 123),hE P "need_row" 341 (.ref 130),hE P "need_number" 348 (.ref 137),hE P "need_row_and_number" 356 (.ref 144),hE P "are_parts" 362 (.ref 149),hE P "are_so_many_signs" 368 (.ref 154),hE P "are_signs" 376 (.ref 161),hE P "need_parts" 384 (.ref 168),hE P "total" 391 (.ref 175),hE P "worth" 397 (.ref 180),hE P "turned" 403 (.ref 185),hE P "places_with" 409 (.ref 190),hE P "lots" 417 (.ref 197),hE P "kept" 423 (.ref 202),hE P "LONGEST_TABLED" 427 (.int 10 426),hE P "SIGNS" 431 (.ref 203),hE P "PARTS" 436 (.ref 204),hE P "need_few" 443 (.ref 211),hE P "need_few_and_number" 451 (.ref 218),hE P "stepped" 465 (.ref 225),hE P "table_of" 475 (.ref 232),hE P "sign_table" 482 (.ref 239),hE P "part_table" 489 (.ref 246),hE P "tables_from_behind" 499 (.ref 253),hE P "first_to" 505 (.ref 258),hE P "signs_to" 513 (.ref 265),hE P "parts_to" 521 (.ref 272),hE P "sign_ways" 529 (.ref 279),hE P "part_ways" 537 (.ref 286),hE P "is_rising" 543 (.ref 291),hE P "leads_on" 549 (.ref 296),hE P "are_layers" 555 (.ref 301),hE P "is_barred" 564 (.ref 308),hE P "is_wide_barred" 573 (.ref 315),hE P "least_layers" 584 (.ref 322),hE P "least_without" 594 (.ref 329),hE P "layers_for" 602 (.ref 336),hE P "wide_layers_for" 610 (.ref 343),hE P "is_rest" 616 (.ref 348),hE P "common_divisor" 627 (.ref 355),hE P "rest_for" 636 (.ref 362),hE P "halves_of" 646 (.ref 369),hE P "half_worths" 652 (.ref 374),hE P "many_met" 658 (.ref 379),hE P "firsts_stepped" 672 (.ref 386),hE P "firsts_of" 681 (.ref 393),hE P "first_met" 687 (.ref 398),hE P "walk" 700 (.ref 405),hE P "stair_for" 706 (.ref 410),hE P "is_stair" 712 (.ref 415),hE P "below" 718 (.ref 420),hE P "above" 724 (.ref 425),hE P "unevenness" 733 (.ref 432),hE P "evenest" 741 (.ref 439),hE P "evenest_many" 750 (.ref 446),hE P "parts_of_one" 756 (.ref 451),hE P "difference" 762 (.ref 456),hE P "difference_steps" 768 (.ref 461),hE P "differences" 774 (.ref 466),hE P "difference_signs" 782 (.ref 473),hE P "uneven_bound" 788 (.ref 478),hE P "uneven_paper" 795 (.ref 485),hE P "TIMES_BY_PARTS" 799 (.int 2 798),hE P "TIMES_BY_SIGNS" 801 (.int 1 800),hE P "ahead_of_too_great" 811 (.ref 492),hE P "every_by_parts" 818 (.ref 499),hE P "every_by_signs" 825 (.ref 506),hE P "missed_by_parts" 833 (.ref 513),hE P "missed_by_signs" 841 (.ref 520),hE P "part_towards" 849 (.ref 527),hE P "weighed" 862 (.ref 534),hE P "MARK_OF" 875 (.ref 535),hE P "PIECE" 877 (.int 60 876),hE P "figures_of" 886 (.ref 542),hE P "show" 892 (.ref 547),hE P "_law_cell" 902 (.ref 554),hE P "_law_mix" 912 (.ref 561),hE P "_law_box" 923 (.ref 568),hE P "_law_take" 933 (.ref 575),hE P "_law_row" 948 (.ref 582),hE P "_law_marks" 956 (.ref 589),hE P "_law_first" 964 (.ref 596),hE P "_law_second" 972 (.ref 603),hE P "_law_third" 980 (.ref 610),hE P "_law_fourth" 988 (.ref 617),hE P "_law_last" 996 (.ref 624),hE P "_law_said" 1006 (.ref 631),hE P "law" 1021 (.ref 638)] 107 }
noncomputable def q593 (P:Params):Obj:={ cls:=.none,data:=.fields #[.int 2 0,.int 0 0,.ref 20,.int 4 0,.int 0 0,.ref 33,.int 6 0,.int 0 0,.ref 45,.int 8 0,.int 0 0,.ref 57,.int 10 0,.int 0 0,.ref 69,.int 12 0,.int 0 0,.ref 81,.int 14 0,.int 0 0,.ref 93,.int 20 0,.int 0 0,.ref 112,.int 22 0,.int 0 0,.ref 117,.int 24 0,.int 0 0,.ref 122,.int 28 0,.int 0 0,.ref 129,.int 31 0,.int 0 0,.ref 136,.int 34 0,.int 0 0,.ref 143,.int 37 0,.int 0 0,.ref 148,.int 40 0,.int 0 0,.ref 153,.int 42 0,.int 0 0,.ref 160,.int 45 0,.int 0 0,.ref 167,.int 48 0,.int 0 0,.ref 174,.int 51 0,.int 0 0,.ref 179,.int 54 0,.int 0 0,.ref 184,.int 57 0,.int 0 0,.ref 189,.int 59 0,.int 0 0,.ref 196,.int 62 0,.int 0 0,.ref 201,.int 71 0,.int 0 0,.ref 210,.int 75 0,.int 0 0,.ref 217,.int 78 0,.int 0 0,.ref 224,.int 85 0,.int 0 0,.ref 231,.int 90 0,.int 0 0,.ref 238,.int 93 0,.int 0 0,.ref 245,.int 96 0,.int 0 0,.ref 252,.int 101 0,.int 0 0,.ref 257,.int 113 0,.int 0 0,.ref 264,.int 116 0,.int 0 0,.ref 271,.int 119 0,.int 0 0,.ref 278,.int 122 0,.int 0 0,.ref 285,.int 125 0,.int 0 0,.ref 290,.int 129 0,.int 0 0,.ref 295,.int 136 0,.int 0 0,.ref 300,.int 142 0,.int 0 0,.ref 307,.int 145 0,.int 0 0,.ref 314,.int 148 0,.int 0 0,.ref 321,.int 155 0,.int 0 0,.ref 328,.int 158 0,.int 0 0,.ref 335,.int 161 0,.int 0 0,.ref 342,.int 164 0,.int 0 0,.ref 347,.int 170 0,.int 0 0,.ref 354,.int 179 0,.int 0 0,.ref 361,.int 186 0,.int 0 0,.ref 368,.int 189 0,.int 0 0,.ref 373,.int 192 0,.int 0 0,.ref 378,.int 196 0,.int 0 0,.ref 385,.int 204 0,.int 0 0,.ref 392,.int 209 0,.int 0 0,.ref 397,.int 214 0,.int 0 0,.ref 404,.int 227 0,.int 0 0,.ref 409,.int 233 0,.int 0 0,.ref 414,.int 238 0,.int 0 0,.ref 419,.int 241 0,.int 0 0,.ref 424,.int 245 0,.int 0 0,.ref 431,.int 247 0,.int 0 0,.ref 438,.int 250 0,.int 0 0,.ref 445,.int 254 0,.int 0 0,.ref 450,.int 256 0,.int 0 0,.ref 455,.int 259 0,.int 0 0,.ref 460,.int 266 0,.int 0 0,.ref 465,.int 269 0,.int 0 0,.ref 472,.int 275 0,.int 0 0,.ref 477,.int 280 0,.int 0 0,.ref 484,.int 286 0,.int 0 0,.ref 491,.int 293 0,.int 0 0,.ref 498,.int 296 0,.int 0 0,.ref 505,.int 299 0,.int 0 0,.ref 512,.int 303 0,.int 0 0,.ref 519,.int 307 0,.int 0 0,.ref 526,.int 313 0,.int 0 0,.ref 533,.int 330 0,.int 0 0,.ref 541,.int 337 0,.int 0 0,.ref 546,.int 341 0,.int 0 0,.ref 553,.int 345 0,.int 0 0,.ref 560,.int 350 0,.int 0 0,.ref 567,.int 358 0,.int 0 0,.ref 574,.int 362 0,.int 0 0,.ref 581,.int 372 0,.int 0 0,.ref 588,.int 380 0,.int 0 0,.ref 595,.int 399 0,.int 0 0,.ref 602,.int 418 0,.int 0 0,.ref 609,.int 437 0,.int 0 0,.ref 616,.int 456 0,.int 0 0,.ref 623,.int 463 0,.int 0 0,.ref 630,.int 478 0,.int 0 0,.ref 637] }
noncomputable def q594 (P:Params):Obj:={ cls:=.type "tuple",data:=.seq #[] }
noncomputable def q595 (P:Params):Obj:={ cls:=.none,data:=.fields #[] }
noncomputable def q596 (P:Params):Obj:={ cls:=.type "tuple",data:=.seq #[.str "kind" 968,.str "row" 969] }
noncomputable def q597 (P:Params):Obj:={ cls:=.type "tuple",data:=.seq #[] }
noncomputable def q598 (P:Params):Obj:=hG "_law_second" 100
noncomputable def q599 (P:Params):Obj:=hC "_law_second" 965 966 967 399 2 0 0 3 (.ref 597) 181 (.ref 598) .none (.ref 599) (.ref 600) (.ref 601) 970 399 971
noncomputable def q600 (P:Params):Obj:=hF "_law_second" 100 "law_plusless_k06_what_is_no_row" 893 602
noncomputable def q601 (P:Params):Obj:={ cls:=.type "tuple",data:=.seq #[] }
noncomputable def q602 (P:Params):Obj:={ cls:=.none,data:=.fields #[] }
noncomputable def q603 (P:Params):Obj:={ cls:=.type "tuple",data:=.seq #[.str "kind" 976,.str "row" 977] }
noncomputable def q604 (P:Params):Obj:={ cls:=.type "tuple",data:=.seq #[] }
noncomputable def q605 (P:Params):Obj:=hG "_law_third" 101
noncomputable def q606 (P:Params):Obj:=hC "_law_third" 973 974 975 418 2 0 0 3 (.ref 604) 181 (.ref 605) .none (.ref 606) (.ref 607) (.ref 608) 978 418 979
noncomputable def q607 (P:Params):Obj:=hF "_law_third" 101 "law_plusless_k06_what_is_no_row" 893 609
noncomputable def q608 (P:Params):Obj:={ cls:=.type "tuple",data:=.seq #[] }
noncomputable def q609 (P:Params):Obj:={ cls:=.none,data:=.fields #[] }
noncomputable def q610 (P:Params):Obj:={ cls:=.type "tuple",data:=.seq #[.str "kind" 984,.str "row" 985] }
noncomputable def q611 (P:Params):Obj:={ cls:=.type "tuple",data:=.seq #[] }
noncomputable def q612 (P:Params):Obj:=hG "_law_fourth" 102
noncomputable def q613 (P:Params):Obj:=hC "_law_fourth" 981 982 983 437 2 0 0 3 (.ref 611) 181 (.ref 612) .none (.ref 613) (.ref 614) (.ref 615) 986 437 987
noncomputable def q614 (P:Params):Obj:=hF "_law_fourth" 102 "law_plusless_k06_what_is_no_row" 893 616
noncomputable def q615 (P:Params):Obj:={ cls:=.type "tuple",data:=.seq #[] }
noncomputable def q616 (P:Params):Obj:={ cls:=.none,data:=.fields #[] }
noncomputable def q617 (P:Params):Obj:={ cls:=.type "tuple",data:=.seq #[.str "kind" 992,.str "row" 993] }
noncomputable def q618 (P:Params):Obj:={ cls:=.type "tuple",data:=.seq #[] }
noncomputable def q619 (P:Params):Obj:=hG "_law_last" 103
noncomputable def q620 (P:Params):Obj:=hC "_law_last" 989 990 991 456 2 0 0 3 (.ref 618) 181 (.ref 619) .none (.ref 620) (.ref 621) (.ref 622) 994 456 995
noncomputable def q621 (P:Params):Obj:=hF "_law_last" 103 "law_plusless_k06_what_is_no_row" 893 623
noncomputable def q622 (P:Params):Obj:={ cls:=.type "tuple",data:=.seq #[] }
noncomputable def q623 (P:Params):Obj:={ cls:=.none,data:=.fields #[] }
noncomputable def q624 (P:Params):Obj:={ cls:=.type "tuple",data:=.seq #[.str "part" 1000,.str "kind" 1001,.str "row" 1002,.str "e" 1003] }
noncomputable def q625 (P:Params):Obj:={ cls:=.type "tuple",data:=.seq #[] }
noncomputable def q626 (P:Params):Obj:=hG "_law_said" 104
noncomputable def q627 (P:Params):Obj:=hC "_law_said" 997 998 999 463 3 0 0 3 (.ref 625) 181 (.ref 626) .none (.ref 627) (.ref 628) (.ref 629) 1004 463 1005
noncomputable def q628 (P:Params):Obj:=hF "_law_said" 104 "law_plusless_k06_what_is_no_row" 893 630
noncomputable def q629 (P:Params):Obj:={ cls:=.type "tuple",data:=.seq #[] }
noncomputable def q630 (P:Params):Obj:={ cls:=.none,data:=.fields #[] }
noncomputable def q631 (P:Params):Obj:={ cls:=.type "tuple",data:=.seq #[.str "script" 1010,.str "k" 1011,.str "box" 1012,.str "row" 1013,.str "some" 1014,.str "lap" 1015,.str "thing" 1016,.str "part" 1017,.str "kind" 1018] }
noncomputable def q632 (P:Params):Obj:={ cls:=.type "tuple",data:=.seq #[] }
noncomputable def q633 (P:Params):Obj:=hG "law" 105
noncomputable def q634 (P:Params):Obj:=hC "law" 1007 1008 1009 478 1 0 0 3 (.ref 632) 181 (.ref 633) .none (.ref 634) (.ref 635) (.ref 636) 1019 478 1020
noncomputable def q635 (P:Params):Obj:=hF "law" 105 "law_plusless_k06_what_is_no_row" 893 637
noncomputable def t0T (P:Params):PySem.W.BT:=(.node (PySem.W.boot_o_0 P) (.node (PySem.W.boot_o_1 P) (.node (PySem.W.boot_o_3 P) (.node (PySem.W.boot_o_7 P) .nil .nil) (.node (q0 P) .nil .nil)) (.node (PySem.W.boot_o_5 P) (.node (PySem.W.boot_o_9 P) .nil .nil) (.node (q2 P) .nil .nil))) (.node (PySem.W.boot_o_2 P) (.node (PySem.W.boot_o_4 P) (.node (PySem.W.boot_o_8 P) .nil .nil) (.node (q1 P) .nil .nil)) (.node (PySem.W.boot_o_6 P) (.node (PySem.W.boot_o_10 P) .nil .nil) (.node (q3 P) .nil .nil))))
noncomputable def t1T (P:Params):PySem.W.BT:=(.node (PySem.W.boot_o_0 P) (.node (PySem.W.boot_o_1 P) (.node (q4 P) (.node (PySem.W.boot_o_7 P) (.node (q6 P) (.node (q22 P) (.node (q54 P) (.node (q118 P) (.node (q246 P) .nil .nil) .nil) (.node (q182 P) .nil .nil)) (.node (q86 P) (.node (q150 P) (.node (q278 P) .nil .nil) .nil) (.node (q214 P) .nil .nil))) (.node (q38 P) (.node (q70 P) (.node (q134 P) (.node (q262 P) .nil .nil) .nil) (.node (q198 P) .nil .nil)) (.node (q102 P) (.node (q166 P) .nil .nil) (.node (q230 P) .nil .nil)))) (.node (q14 P) (.node (q30 P) (.node (q62 P) (.node (q126 P) (.node (q254 P) .nil .nil) .nil) (.node (q190 P) .nil .nil)) (.node (q94 P) (.node (q158 P) .nil .nil) (.node (q222 P) .nil .nil))) (.node (q46 P) (.node (q78 P) (.node (q142 P) (.node (q270 P) .nil .nil) .nil) (.node (q206 P) .nil .nil)) (.node (q110 P) (.node (q174 P) .nil .nil) (.node (q238 P) .nil .nil))))) (.node (q0 P) (.node (q10 P) (.node (q26 P) (.node (q58 P) (.node (q122 P) (.node (q250 P) .nil .nil) .nil) (.node (q186 P) .nil .nil)) (.node (q90 P) (.node (q154 P) (.node (q282 P) .nil .nil) .nil) (.node (q218 P) .nil .nil))) (.node (q42 P) (.node (q74 P) (.node (q138 P) (.node (q266 P) .nil .nil) .nil) (.node (q202 P) .nil .nil)) (.node (q106 P) (.node (q170 P) .nil .nil) (.node (q234 P) .nil .nil)))) (.node (q18 P) (.node (q34 P) (.node (q66 P) (.node (q130 P) (.node (q258 P) .nil .nil) .nil) (.node (q194 P) .nil .nil)) (.node (q98 P) (.node (q162 P) .nil .nil) (.node (q226 P) .nil .nil))) (.node (q50 P) (.node (q82 P) (.node (q146 P) (.node (q274 P) .nil .nil) .nil) (.node (q210 P) .nil .nil)) (.node (q114 P) (.node (q178 P) .nil .nil) (.node (q242 P) .nil .nil)))))) (.node (PySem.W.boot_o_5 P) (.node (PySem.W.boot_o_9 P) (.node (q8 P) (.node (q24 P) (.node (q56 P) (.node (q120 P) (.node (q248 P) .nil .nil) .nil) (.node (q184 P) .nil .nil)) (.node (q88 P) (.node (q152 P) (.node (q280 P) .nil .nil) .nil) (.node (q216 P) .nil .nil))) (.node (q40 P) (.node (q72 P) (.node (q136 P) (.node (q264 P) .nil .nil) .nil) (.node (q200 P) .nil .nil)) (.node (q104 P) (.node (q168 P) .nil .nil) (.node (q232 P) .nil .nil)))) (.node (q16 P) (.node (q32 P) (.node (q64 P) (.node (q128 P) (.node (q256 P) .nil .nil) .nil) (.node (q192 P) .nil .nil)) (.node (q96 P) (.node (q160 P) .nil .nil) (.node (q224 P) .nil .nil))) (.node (q48 P) (.node (q80 P) (.node (q144 P) (.node (q272 P) .nil .nil) .nil) (.node (q208 P) .nil .nil)) (.node (q112 P) (.node (q176 P) .nil .nil) (.node (q240 P) .nil .nil))))) (.node (q2 P) (.node (q12 P) (.node (q28 P) (.node (q60 P) (.node (q124 P) (.node (q252 P) .nil .nil) .nil) (.node (q188 P) .nil .nil)) (.node (q92 P) (.node (q156 P) .nil .nil) (.node (q220 P) .nil .nil))) (.node (q44 P) (.node (q76 P) (.node (q140 P) (.node (q268 P) .nil .nil) .nil) (.node (q204 P) .nil .nil)) (.node (q108 P) (.node (q172 P) .nil .nil) (.node (q236 P) .nil .nil)))) (.node (q20 P) (.node (q36 P) (.node (q68 P) (.node (q132 P) (.node (q260 P) .nil .nil) .nil) (.node (q196 P) .nil .nil)) (.node (q100 P) (.node (q164 P) .nil .nil) (.node (q228 P) .nil .nil))) (.node (q52 P) (.node (q84 P) (.node (q148 P) (.node (q276 P) .nil .nil) .nil) (.node (q212 P) .nil .nil)) (.node (q116 P) (.node (q180 P) .nil .nil) (.node (q244 P) .nil .nil))))))) (.node (PySem.W.boot_o_2 P) (.node (PySem.W.boot_o_4 P) (.node (PySem.W.boot_o_8 P) (.node (q7 P) (.node (q23 P) (.node (q55 P) (.node (q119 P) (.node (q247 P) .nil .nil) .nil) (.node (q183 P) .nil .nil)) (.node (q87 P) (.node (q151 P) (.node (q279 P) .nil .nil) .nil) (.node (q215 P) .nil .nil))) (.node (q39 P) (.node (q71 P) (.node (q135 P) (.node (q263 P) .nil .nil) .nil) (.node (q199 P) .nil .nil)) (.node (q103 P) (.node (q167 P) .nil .nil) (.node (q231 P) .nil .nil)))) (.node (q15 P) (.node (q31 P) (.node (q63 P) (.node (q127 P) (.node (q255 P) .nil .nil) .nil) (.node (q191 P) .nil .nil)) (.node (q95 P) (.node (q159 P) .nil .nil) (.node (q223 P) .nil .nil))) (.node (q47 P) (.node (q79 P) (.node (q143 P) (.node (q271 P) .nil .nil) .nil) (.node (q207 P) .nil .nil)) (.node (q111 P) (.node (q175 P) .nil .nil) (.node (q239 P) .nil .nil))))) (.node (q5 P) (.node (q11 P) (.node (q27 P) (.node (q59 P) (.node (q123 P) (.node (q251 P) .nil .nil) .nil) (.node (q187 P) .nil .nil)) (.node (q91 P) (.node (q155 P) .nil .nil) (.node (q219 P) .nil .nil))) (.node (q43 P) (.node (q75 P) (.node (q139 P) (.node (q267 P) .nil .nil) .nil) (.node (q203 P) .nil .nil)) (.node (q107 P) (.node (q171 P) .nil .nil) (.node (q235 P) .nil .nil)))) (.node (q19 P) (.node (q35 P) (.node (q67 P) (.node (q131 P) (.node (q259 P) .nil .nil) .nil) (.node (q195 P) .nil .nil)) (.node (q99 P) (.node (q163 P) .nil .nil) (.node (q227 P) .nil .nil))) (.node (q51 P) (.node (q83 P) (.node (q147 P) (.node (q275 P) .nil .nil) .nil) (.node (q211 P) .nil .nil)) (.node (q115 P) (.node (q179 P) .nil .nil) (.node (q243 P) .nil .nil)))))) (.node (PySem.W.boot_o_6 P) (.node (PySem.W.boot_o_10 P) (.node (q9 P) (.node (q25 P) (.node (q57 P) (.node (q121 P) (.node (q249 P) .nil .nil) .nil) (.node (q185 P) .nil .nil)) (.node (q89 P) (.node (q153 P) (.node (q281 P) .nil .nil) .nil) (.node (q217 P) .nil .nil))) (.node (q41 P) (.node (q73 P) (.node (q137 P) (.node (q265 P) .nil .nil) .nil) (.node (q201 P) .nil .nil)) (.node (q105 P) (.node (q169 P) .nil .nil) (.node (q233 P) .nil .nil)))) (.node (q17 P) (.node (q33 P) (.node (q65 P) (.node (q129 P) (.node (q257 P) .nil .nil) .nil) (.node (q193 P) .nil .nil)) (.node (q97 P) (.node (q161 P) .nil .nil) (.node (q225 P) .nil .nil))) (.node (q49 P) (.node (q81 P) (.node (q145 P) (.node (q273 P) .nil .nil) .nil) (.node (q209 P) .nil .nil)) (.node (q113 P) (.node (q177 P) .nil .nil) (.node (q241 P) .nil .nil))))) (.node (q3 P) (.node (q13 P) (.node (q29 P) (.node (q61 P) (.node (q125 P) (.node (q253 P) .nil .nil) .nil) (.node (q189 P) .nil .nil)) (.node (q93 P) (.node (q157 P) .nil .nil) (.node (q221 P) .nil .nil))) (.node (q45 P) (.node (q77 P) (.node (q141 P) (.node (q269 P) .nil .nil) .nil) (.node (q205 P) .nil .nil)) (.node (q109 P) (.node (q173 P) .nil .nil) (.node (q237 P) .nil .nil)))) (.node (q21 P) (.node (q37 P) (.node (q69 P) (.node (q133 P) (.node (q261 P) .nil .nil) .nil) (.node (q197 P) .nil .nil)) (.node (q101 P) (.node (q165 P) .nil .nil) (.node (q229 P) .nil .nil))) (.node (q53 P) (.node (q85 P) (.node (q149 P) (.node (q277 P) .nil .nil) .nil) (.node (q213 P) .nil .nil)) (.node (q117 P) (.node (q181 P) .nil .nil) (.node (q245 P) .nil .nil))))))))
noncomputable def t2T (P:Params):PySem.W.BT:=(.node (PySem.W.boot_o_0 P) (.node (PySem.W.boot_o_1 P) (.node (q283 P) (.node (PySem.W.boot_o_7 P) (.node (q6 P) (.node (q22 P) (.node (q54 P) (.node (q118 P) (.node (q246 P) (.node (q504 P) .nil .nil) .nil) (.node (q376 P) .nil .nil)) (.node (q182 P) (.node (q312 P) .nil .nil) (.node (q440 P) .nil .nil))) (.node (q86 P) (.node (q150 P) (.node (q278 P) .nil .nil) (.node (q408 P) .nil .nil)) (.node (q214 P) (.node (q344 P) .nil .nil) (.node (q472 P) .nil .nil)))) (.node (q38 P) (.node (q70 P) (.node (q134 P) (.node (q262 P) (.node (q520 P) .nil .nil) .nil) (.node (q392 P) .nil .nil)) (.node (q198 P) (.node (q328 P) .nil .nil) (.node (q456 P) .nil .nil))) (.node (q102 P) (.node (q166 P) (.node (q296 P) .nil .nil) (.node (q424 P) .nil .nil)) (.node (q230 P) (.node (q360 P) .nil .nil) (.node (q488 P) .nil .nil))))) (.node (q14 P) (.node (q30 P) (.node (q62 P) (.node (q126 P) (.node (q254 P) (.node (q512 P) .nil .nil) .nil) (.node (q384 P) .nil .nil)) (.node (q190 P) (.node (q320 P) .nil .nil) (.node (q448 P) .nil .nil))) (.node (q94 P) (.node (q158 P) (.node (q288 P) .nil .nil) (.node (q416 P) .nil .nil)) (.node (q222 P) (.node (q352 P) .nil .nil) (.node (q480 P) .nil .nil)))) (.node (q46 P) (.node (q78 P) (.node (q142 P) (.node (q270 P) .nil .nil) (.node (q400 P) .nil .nil)) (.node (q206 P) (.node (q336 P) .nil .nil) (.node (q464 P) .nil .nil))) (.node (q110 P) (.node (q174 P) (.node (q304 P) .nil .nil) (.node (q432 P) .nil .nil)) (.node (q238 P) (.node (q368 P) .nil .nil) (.node (q496 P) .nil .nil)))))) (.node (q0 P) (.node (q10 P) (.node (q26 P) (.node (q58 P) (.node (q122 P) (.node (q250 P) (.node (q508 P) .nil .nil) .nil) (.node (q380 P) .nil .nil)) (.node (q186 P) (.node (q316 P) .nil .nil) (.node (q444 P) .nil .nil))) (.node (q90 P) (.node (q154 P) (.node (q282 P) .nil .nil) (.node (q412 P) .nil .nil)) (.node (q218 P) (.node (q348 P) .nil .nil) (.node (q476 P) .nil .nil)))) (.node (q42 P) (.node (q74 P) (.node (q138 P) (.node (q266 P) .nil .nil) (.node (q396 P) .nil .nil)) (.node (q202 P) (.node (q332 P) .nil .nil) (.node (q460 P) .nil .nil))) (.node (q106 P) (.node (q170 P) (.node (q300 P) .nil .nil) (.node (q428 P) .nil .nil)) (.node (q234 P) (.node (q364 P) .nil .nil) (.node (q492 P) .nil .nil))))) (.node (q18 P) (.node (q34 P) (.node (q66 P) (.node (q130 P) (.node (q258 P) (.node (q516 P) .nil .nil) .nil) (.node (q388 P) .nil .nil)) (.node (q194 P) (.node (q324 P) .nil .nil) (.node (q452 P) .nil .nil))) (.node (q98 P) (.node (q162 P) (.node (q292 P) .nil .nil) (.node (q420 P) .nil .nil)) (.node (q226 P) (.node (q356 P) .nil .nil) (.node (q484 P) .nil .nil)))) (.node (q50 P) (.node (q82 P) (.node (q146 P) (.node (q274 P) .nil .nil) (.node (q404 P) .nil .nil)) (.node (q210 P) (.node (q340 P) .nil .nil) (.node (q468 P) .nil .nil))) (.node (q114 P) (.node (q178 P) (.node (q308 P) .nil .nil) (.node (q436 P) .nil .nil)) (.node (q242 P) (.node (q372 P) .nil .nil) (.node (q500 P) .nil .nil))))))) (.node (PySem.W.boot_o_5 P) (.node (PySem.W.boot_o_9 P) (.node (q8 P) (.node (q24 P) (.node (q56 P) (.node (q120 P) (.node (q248 P) (.node (q506 P) .nil .nil) .nil) (.node (q378 P) .nil .nil)) (.node (q184 P) (.node (q314 P) .nil .nil) (.node (q442 P) .nil .nil))) (.node (q88 P) (.node (q152 P) (.node (q280 P) .nil .nil) (.node (q410 P) .nil .nil)) (.node (q216 P) (.node (q346 P) .nil .nil) (.node (q474 P) .nil .nil)))) (.node (q40 P) (.node (q72 P) (.node (q136 P) (.node (q264 P) .nil .nil) (.node (q394 P) .nil .nil)) (.node (q200 P) (.node (q330 P) .nil .nil) (.node (q458 P) .nil .nil))) (.node (q104 P) (.node (q168 P) (.node (q298 P) .nil .nil) (.node (q426 P) .nil .nil)) (.node (q232 P) (.node (q362 P) .nil .nil) (.node (q490 P) .nil .nil))))) (.node (q16 P) (.node (q32 P) (.node (q64 P) (.node (q128 P) (.node (q256 P) (.node (q514 P) .nil .nil) .nil) (.node (q386 P) .nil .nil)) (.node (q192 P) (.node (q322 P) .nil .nil) (.node (q450 P) .nil .nil))) (.node (q96 P) (.node (q160 P) (.node (q290 P) .nil .nil) (.node (q418 P) .nil .nil)) (.node (q224 P) (.node (q354 P) .nil .nil) (.node (q482 P) .nil .nil)))) (.node (q48 P) (.node (q80 P) (.node (q144 P) (.node (q272 P) .nil .nil) (.node (q402 P) .nil .nil)) (.node (q208 P) (.node (q338 P) .nil .nil) (.node (q466 P) .nil .nil))) (.node (q112 P) (.node (q176 P) (.node (q306 P) .nil .nil) (.node (q434 P) .nil .nil)) (.node (q240 P) (.node (q370 P) .nil .nil) (.node (q498 P) .nil .nil)))))) (.node (q2 P) (.node (q12 P) (.node (q28 P) (.node (q60 P) (.node (q124 P) (.node (q252 P) (.node (q510 P) .nil .nil) .nil) (.node (q382 P) .nil .nil)) (.node (q188 P) (.node (q318 P) .nil .nil) (.node (q446 P) .nil .nil))) (.node (q92 P) (.node (q156 P) (.node (q286 P) .nil .nil) (.node (q414 P) .nil .nil)) (.node (q220 P) (.node (q350 P) .nil .nil) (.node (q478 P) .nil .nil)))) (.node (q44 P) (.node (q76 P) (.node (q140 P) (.node (q268 P) .nil .nil) (.node (q398 P) .nil .nil)) (.node (q204 P) (.node (q334 P) .nil .nil) (.node (q462 P) .nil .nil))) (.node (q108 P) (.node (q172 P) (.node (q302 P) .nil .nil) (.node (q430 P) .nil .nil)) (.node (q236 P) (.node (q366 P) .nil .nil) (.node (q494 P) .nil .nil))))) (.node (q20 P) (.node (q36 P) (.node (q68 P) (.node (q132 P) (.node (q260 P) (.node (q518 P) .nil .nil) .nil) (.node (q390 P) .nil .nil)) (.node (q196 P) (.node (q326 P) .nil .nil) (.node (q454 P) .nil .nil))) (.node (q100 P) (.node (q164 P) (.node (q294 P) .nil .nil) (.node (q422 P) .nil .nil)) (.node (q228 P) (.node (q358 P) .nil .nil) (.node (q486 P) .nil .nil)))) (.node (q52 P) (.node (q84 P) (.node (q148 P) (.node (q276 P) .nil .nil) (.node (q406 P) .nil .nil)) (.node (q212 P) (.node (q342 P) .nil .nil) (.node (q470 P) .nil .nil))) (.node (q116 P) (.node (q180 P) (.node (q310 P) .nil .nil) (.node (q438 P) .nil .nil)) (.node (q244 P) (.node (q374 P) .nil .nil) (.node (q502 P) .nil .nil)))))))) (.node (PySem.W.boot_o_2 P) (.node (PySem.W.boot_o_4 P) (.node (PySem.W.boot_o_8 P) (.node (q7 P) (.node (q23 P) (.node (q55 P) (.node (q119 P) (.node (q247 P) (.node (q505 P) .nil .nil) .nil) (.node (q377 P) .nil .nil)) (.node (q183 P) (.node (q313 P) .nil .nil) (.node (q441 P) .nil .nil))) (.node (q87 P) (.node (q151 P) (.node (q279 P) .nil .nil) (.node (q409 P) .nil .nil)) (.node (q215 P) (.node (q345 P) .nil .nil) (.node (q473 P) .nil .nil)))) (.node (q39 P) (.node (q71 P) (.node (q135 P) (.node (q263 P) .nil .nil) (.node (q393 P) .nil .nil)) (.node (q199 P) (.node (q329 P) .nil .nil) (.node (q457 P) .nil .nil))) (.node (q103 P) (.node (q167 P) (.node (q297 P) .nil .nil) (.node (q425 P) .nil .nil)) (.node (q231 P) (.node (q361 P) .nil .nil) (.node (q489 P) .nil .nil))))) (.node (q15 P) (.node (q31 P) (.node (q63 P) (.node (q127 P) (.node (q255 P) (.node (q513 P) .nil .nil) .nil) (.node (q385 P) .nil .nil)) (.node (q191 P) (.node (q321 P) .nil .nil) (.node (q449 P) .nil .nil))) (.node (q95 P) (.node (q159 P) (.node (q289 P) .nil .nil) (.node (q417 P) .nil .nil)) (.node (q223 P) (.node (q353 P) .nil .nil) (.node (q481 P) .nil .nil)))) (.node (q47 P) (.node (q79 P) (.node (q143 P) (.node (q271 P) .nil .nil) (.node (q401 P) .nil .nil)) (.node (q207 P) (.node (q337 P) .nil .nil) (.node (q465 P) .nil .nil))) (.node (q111 P) (.node (q175 P) (.node (q305 P) .nil .nil) (.node (q433 P) .nil .nil)) (.node (q239 P) (.node (q369 P) .nil .nil) (.node (q497 P) .nil .nil)))))) (.node (q284 P) (.node (q11 P) (.node (q27 P) (.node (q59 P) (.node (q123 P) (.node (q251 P) (.node (q509 P) .nil .nil) .nil) (.node (q381 P) .nil .nil)) (.node (q187 P) (.node (q317 P) .nil .nil) (.node (q445 P) .nil .nil))) (.node (q91 P) (.node (q155 P) (.node (q285 P) .nil .nil) (.node (q413 P) .nil .nil)) (.node (q219 P) (.node (q349 P) .nil .nil) (.node (q477 P) .nil .nil)))) (.node (q43 P) (.node (q75 P) (.node (q139 P) (.node (q267 P) .nil .nil) (.node (q397 P) .nil .nil)) (.node (q203 P) (.node (q333 P) .nil .nil) (.node (q461 P) .nil .nil))) (.node (q107 P) (.node (q171 P) (.node (q301 P) .nil .nil) (.node (q429 P) .nil .nil)) (.node (q235 P) (.node (q365 P) .nil .nil) (.node (q493 P) .nil .nil))))) (.node (q19 P) (.node (q35 P) (.node (q67 P) (.node (q131 P) (.node (q259 P) (.node (q517 P) .nil .nil) .nil) (.node (q389 P) .nil .nil)) (.node (q195 P) (.node (q325 P) .nil .nil) (.node (q453 P) .nil .nil))) (.node (q99 P) (.node (q163 P) (.node (q293 P) .nil .nil) (.node (q421 P) .nil .nil)) (.node (q227 P) (.node (q357 P) .nil .nil) (.node (q485 P) .nil .nil)))) (.node (q51 P) (.node (q83 P) (.node (q147 P) (.node (q275 P) .nil .nil) (.node (q405 P) .nil .nil)) (.node (q211 P) (.node (q341 P) .nil .nil) (.node (q469 P) .nil .nil))) (.node (q115 P) (.node (q179 P) (.node (q309 P) .nil .nil) (.node (q437 P) .nil .nil)) (.node (q243 P) (.node (q373 P) .nil .nil) (.node (q501 P) .nil .nil))))))) (.node (PySem.W.boot_o_6 P) (.node (PySem.W.boot_o_10 P) (.node (q9 P) (.node (q25 P) (.node (q57 P) (.node (q121 P) (.node (q249 P) (.node (q507 P) .nil .nil) .nil) (.node (q379 P) .nil .nil)) (.node (q185 P) (.node (q315 P) .nil .nil) (.node (q443 P) .nil .nil))) (.node (q89 P) (.node (q153 P) (.node (q281 P) .nil .nil) (.node (q411 P) .nil .nil)) (.node (q217 P) (.node (q347 P) .nil .nil) (.node (q475 P) .nil .nil)))) (.node (q41 P) (.node (q73 P) (.node (q137 P) (.node (q265 P) .nil .nil) (.node (q395 P) .nil .nil)) (.node (q201 P) (.node (q331 P) .nil .nil) (.node (q459 P) .nil .nil))) (.node (q105 P) (.node (q169 P) (.node (q299 P) .nil .nil) (.node (q427 P) .nil .nil)) (.node (q233 P) (.node (q363 P) .nil .nil) (.node (q491 P) .nil .nil))))) (.node (q17 P) (.node (q33 P) (.node (q65 P) (.node (q129 P) (.node (q257 P) (.node (q515 P) .nil .nil) .nil) (.node (q387 P) .nil .nil)) (.node (q193 P) (.node (q323 P) .nil .nil) (.node (q451 P) .nil .nil))) (.node (q97 P) (.node (q161 P) (.node (q291 P) .nil .nil) (.node (q419 P) .nil .nil)) (.node (q225 P) (.node (q355 P) .nil .nil) (.node (q483 P) .nil .nil)))) (.node (q49 P) (.node (q81 P) (.node (q145 P) (.node (q273 P) .nil .nil) (.node (q403 P) .nil .nil)) (.node (q209 P) (.node (q339 P) .nil .nil) (.node (q467 P) .nil .nil))) (.node (q113 P) (.node (q177 P) (.node (q307 P) .nil .nil) (.node (q435 P) .nil .nil)) (.node (q241 P) (.node (q371 P) .nil .nil) (.node (q499 P) .nil .nil)))))) (.node (q3 P) (.node (q13 P) (.node (q29 P) (.node (q61 P) (.node (q125 P) (.node (q253 P) (.node (q511 P) .nil .nil) .nil) (.node (q383 P) .nil .nil)) (.node (q189 P) (.node (q319 P) .nil .nil) (.node (q447 P) .nil .nil))) (.node (q93 P) (.node (q157 P) (.node (q287 P) .nil .nil) (.node (q415 P) .nil .nil)) (.node (q221 P) (.node (q351 P) .nil .nil) (.node (q479 P) .nil .nil)))) (.node (q45 P) (.node (q77 P) (.node (q141 P) (.node (q269 P) .nil .nil) (.node (q399 P) .nil .nil)) (.node (q205 P) (.node (q335 P) .nil .nil) (.node (q463 P) .nil .nil))) (.node (q109 P) (.node (q173 P) (.node (q303 P) .nil .nil) (.node (q431 P) .nil .nil)) (.node (q237 P) (.node (q367 P) .nil .nil) (.node (q495 P) .nil .nil))))) (.node (q21 P) (.node (q37 P) (.node (q69 P) (.node (q133 P) (.node (q261 P) (.node (q519 P) .nil .nil) .nil) (.node (q391 P) .nil .nil)) (.node (q197 P) (.node (q327 P) .nil .nil) (.node (q455 P) .nil .nil))) (.node (q101 P) (.node (q165 P) (.node (q295 P) .nil .nil) (.node (q423 P) .nil .nil)) (.node (q229 P) (.node (q359 P) .nil .nil) (.node (q487 P) .nil .nil)))) (.node (q53 P) (.node (q85 P) (.node (q149 P) (.node (q277 P) .nil .nil) (.node (q407 P) .nil .nil)) (.node (q213 P) (.node (q343 P) .nil .nil) (.node (q471 P) .nil .nil))) (.node (q117 P) (.node (q181 P) (.node (q311 P) .nil .nil) (.node (q439 P) .nil .nil)) (.node (q245 P) (.node (q375 P) .nil .nil) (.node (q503 P) .nil .nil)))))))))
noncomputable def t3T (P:Params):PySem.W.BT:=(.node (PySem.W.boot_o_0 P) (.node (PySem.W.boot_o_1 P) (.node (q521 P) (.node (PySem.W.boot_o_7 P) (.node (q6 P) (.node (q22 P) (.node (q54 P) (.node (q118 P) (.node (q246 P) (.node (q504 P) .nil .nil) .nil) (.node (q376 P) .nil .nil)) (.node (q182 P) (.node (q312 P) (.node (q570 P) .nil .nil) .nil) (.node (q440 P) .nil .nil))) (.node (q86 P) (.node (q150 P) (.node (q278 P) (.node (q538 P) .nil .nil) .nil) (.node (q408 P) .nil .nil)) (.node (q214 P) (.node (q344 P) .nil .nil) (.node (q472 P) .nil .nil)))) (.node (q38 P) (.node (q70 P) (.node (q134 P) (.node (q262 P) (.node (q520 P) .nil .nil) .nil) (.node (q392 P) .nil .nil)) (.node (q198 P) (.node (q328 P) (.node (q586 P) .nil .nil) .nil) (.node (q456 P) .nil .nil))) (.node (q102 P) (.node (q166 P) (.node (q296 P) (.node (q554 P) .nil .nil) .nil) (.node (q424 P) .nil .nil)) (.node (q230 P) (.node (q360 P) .nil .nil) (.node (q488 P) .nil .nil))))) (.node (q14 P) (.node (q30 P) (.node (q62 P) (.node (q126 P) (.node (q254 P) (.node (q512 P) .nil .nil) .nil) (.node (q384 P) .nil .nil)) (.node (q190 P) (.node (q320 P) (.node (q578 P) .nil .nil) .nil) (.node (q448 P) .nil .nil))) (.node (q94 P) (.node (q158 P) (.node (q288 P) (.node (q546 P) .nil .nil) .nil) (.node (q416 P) .nil .nil)) (.node (q222 P) (.node (q352 P) .nil .nil) (.node (q480 P) .nil .nil)))) (.node (q46 P) (.node (q78 P) (.node (q142 P) (.node (q270 P) (.node (q530 P) .nil .nil) .nil) (.node (q400 P) .nil .nil)) (.node (q206 P) (.node (q336 P) .nil .nil) (.node (q464 P) .nil .nil))) (.node (q110 P) (.node (q174 P) (.node (q304 P) (.node (q562 P) .nil .nil) .nil) (.node (q432 P) .nil .nil)) (.node (q238 P) (.node (q368 P) .nil .nil) (.node (q496 P) .nil .nil)))))) (.node (q0 P) (.node (q10 P) (.node (q26 P) (.node (q58 P) (.node (q122 P) (.node (q250 P) (.node (q508 P) .nil .nil) .nil) (.node (q380 P) .nil .nil)) (.node (q186 P) (.node (q316 P) (.node (q574 P) .nil .nil) .nil) (.node (q444 P) .nil .nil))) (.node (q90 P) (.node (q154 P) (.node (q282 P) (.node (q542 P) .nil .nil) .nil) (.node (q412 P) .nil .nil)) (.node (q218 P) (.node (q348 P) .nil .nil) (.node (q476 P) .nil .nil)))) (.node (q42 P) (.node (q74 P) (.node (q138 P) (.node (q266 P) (.node (q526 P) .nil .nil) .nil) (.node (q396 P) .nil .nil)) (.node (q202 P) (.node (q332 P) (.node (q590 P) .nil .nil) .nil) (.node (q460 P) .nil .nil))) (.node (q106 P) (.node (q170 P) (.node (q300 P) (.node (q558 P) .nil .nil) .nil) (.node (q428 P) .nil .nil)) (.node (q234 P) (.node (q364 P) .nil .nil) (.node (q492 P) .nil .nil))))) (.node (q18 P) (.node (q34 P) (.node (q66 P) (.node (q130 P) (.node (q258 P) (.node (q516 P) .nil .nil) .nil) (.node (q388 P) .nil .nil)) (.node (q194 P) (.node (q324 P) (.node (q582 P) .nil .nil) .nil) (.node (q452 P) .nil .nil))) (.node (q98 P) (.node (q162 P) (.node (q292 P) (.node (q550 P) .nil .nil) .nil) (.node (q420 P) .nil .nil)) (.node (q226 P) (.node (q356 P) .nil .nil) (.node (q484 P) .nil .nil)))) (.node (q50 P) (.node (q82 P) (.node (q146 P) (.node (q274 P) (.node (q534 P) .nil .nil) .nil) (.node (q404 P) .nil .nil)) (.node (q210 P) (.node (q340 P) .nil .nil) (.node (q468 P) .nil .nil))) (.node (q114 P) (.node (q178 P) (.node (q308 P) (.node (q566 P) .nil .nil) .nil) (.node (q436 P) .nil .nil)) (.node (q242 P) (.node (q372 P) .nil .nil) (.node (q500 P) .nil .nil))))))) (.node (PySem.W.boot_o_5 P) (.node (PySem.W.boot_o_9 P) (.node (q8 P) (.node (q24 P) (.node (q56 P) (.node (q120 P) (.node (q248 P) (.node (q506 P) .nil .nil) .nil) (.node (q378 P) .nil .nil)) (.node (q184 P) (.node (q314 P) (.node (q572 P) .nil .nil) .nil) (.node (q442 P) .nil .nil))) (.node (q88 P) (.node (q152 P) (.node (q280 P) (.node (q540 P) .nil .nil) .nil) (.node (q410 P) .nil .nil)) (.node (q216 P) (.node (q346 P) .nil .nil) (.node (q474 P) .nil .nil)))) (.node (q40 P) (.node (q72 P) (.node (q136 P) (.node (q264 P) (.node (q524 P) .nil .nil) .nil) (.node (q394 P) .nil .nil)) (.node (q200 P) (.node (q330 P) (.node (q588 P) .nil .nil) .nil) (.node (q458 P) .nil .nil))) (.node (q104 P) (.node (q168 P) (.node (q298 P) (.node (q556 P) .nil .nil) .nil) (.node (q426 P) .nil .nil)) (.node (q232 P) (.node (q362 P) .nil .nil) (.node (q490 P) .nil .nil))))) (.node (q16 P) (.node (q32 P) (.node (q64 P) (.node (q128 P) (.node (q256 P) (.node (q514 P) .nil .nil) .nil) (.node (q386 P) .nil .nil)) (.node (q192 P) (.node (q322 P) (.node (q580 P) .nil .nil) .nil) (.node (q450 P) .nil .nil))) (.node (q96 P) (.node (q160 P) (.node (q290 P) (.node (q548 P) .nil .nil) .nil) (.node (q418 P) .nil .nil)) (.node (q224 P) (.node (q354 P) .nil .nil) (.node (q482 P) .nil .nil)))) (.node (q48 P) (.node (q80 P) (.node (q144 P) (.node (q272 P) (.node (q532 P) .nil .nil) .nil) (.node (q402 P) .nil .nil)) (.node (q208 P) (.node (q338 P) .nil .nil) (.node (q466 P) .nil .nil))) (.node (q112 P) (.node (q176 P) (.node (q306 P) (.node (q564 P) .nil .nil) .nil) (.node (q434 P) .nil .nil)) (.node (q240 P) (.node (q370 P) .nil .nil) (.node (q498 P) .nil .nil)))))) (.node (q2 P) (.node (q12 P) (.node (q28 P) (.node (q60 P) (.node (q124 P) (.node (q252 P) (.node (q510 P) .nil .nil) .nil) (.node (q382 P) .nil .nil)) (.node (q188 P) (.node (q318 P) (.node (q576 P) .nil .nil) .nil) (.node (q446 P) .nil .nil))) (.node (q92 P) (.node (q156 P) (.node (q286 P) (.node (q544 P) .nil .nil) .nil) (.node (q414 P) .nil .nil)) (.node (q220 P) (.node (q350 P) .nil .nil) (.node (q478 P) .nil .nil)))) (.node (q44 P) (.node (q76 P) (.node (q140 P) (.node (q268 P) (.node (q528 P) .nil .nil) .nil) (.node (q398 P) .nil .nil)) (.node (q204 P) (.node (q334 P) .nil .nil) (.node (q462 P) .nil .nil))) (.node (q108 P) (.node (q172 P) (.node (q302 P) (.node (q560 P) .nil .nil) .nil) (.node (q430 P) .nil .nil)) (.node (q236 P) (.node (q366 P) .nil .nil) (.node (q494 P) .nil .nil))))) (.node (q20 P) (.node (q36 P) (.node (q68 P) (.node (q132 P) (.node (q260 P) (.node (q518 P) .nil .nil) .nil) (.node (q390 P) .nil .nil)) (.node (q196 P) (.node (q326 P) (.node (q584 P) .nil .nil) .nil) (.node (q454 P) .nil .nil))) (.node (q100 P) (.node (q164 P) (.node (q294 P) (.node (q552 P) .nil .nil) .nil) (.node (q422 P) .nil .nil)) (.node (q228 P) (.node (q358 P) .nil .nil) (.node (q486 P) .nil .nil)))) (.node (q52 P) (.node (q84 P) (.node (q148 P) (.node (q276 P) (.node (q536 P) .nil .nil) .nil) (.node (q406 P) .nil .nil)) (.node (q212 P) (.node (q342 P) .nil .nil) (.node (q470 P) .nil .nil))) (.node (q116 P) (.node (q180 P) (.node (q310 P) (.node (q568 P) .nil .nil) .nil) (.node (q438 P) .nil .nil)) (.node (q244 P) (.node (q374 P) .nil .nil) (.node (q502 P) .nil .nil)))))))) (.node (PySem.W.boot_o_2 P) (.node (PySem.W.boot_o_4 P) (.node (PySem.W.boot_o_8 P) (.node (q7 P) (.node (q23 P) (.node (q55 P) (.node (q119 P) (.node (q247 P) (.node (q505 P) .nil .nil) .nil) (.node (q377 P) .nil .nil)) (.node (q183 P) (.node (q313 P) (.node (q571 P) .nil .nil) .nil) (.node (q441 P) .nil .nil))) (.node (q87 P) (.node (q151 P) (.node (q279 P) (.node (q539 P) .nil .nil) .nil) (.node (q409 P) .nil .nil)) (.node (q215 P) (.node (q345 P) .nil .nil) (.node (q473 P) .nil .nil)))) (.node (q39 P) (.node (q71 P) (.node (q135 P) (.node (q263 P) (.node (q523 P) .nil .nil) .nil) (.node (q393 P) .nil .nil)) (.node (q199 P) (.node (q329 P) (.node (q587 P) .nil .nil) .nil) (.node (q457 P) .nil .nil))) (.node (q103 P) (.node (q167 P) (.node (q297 P) (.node (q555 P) .nil .nil) .nil) (.node (q425 P) .nil .nil)) (.node (q231 P) (.node (q361 P) .nil .nil) (.node (q489 P) .nil .nil))))) (.node (q15 P) (.node (q31 P) (.node (q63 P) (.node (q127 P) (.node (q255 P) (.node (q513 P) .nil .nil) .nil) (.node (q385 P) .nil .nil)) (.node (q191 P) (.node (q321 P) (.node (q579 P) .nil .nil) .nil) (.node (q449 P) .nil .nil))) (.node (q95 P) (.node (q159 P) (.node (q289 P) (.node (q547 P) .nil .nil) .nil) (.node (q417 P) .nil .nil)) (.node (q223 P) (.node (q353 P) .nil .nil) (.node (q481 P) .nil .nil)))) (.node (q47 P) (.node (q79 P) (.node (q143 P) (.node (q271 P) (.node (q531 P) .nil .nil) .nil) (.node (q401 P) .nil .nil)) (.node (q207 P) (.node (q337 P) .nil .nil) (.node (q465 P) .nil .nil))) (.node (q111 P) (.node (q175 P) (.node (q305 P) (.node (q563 P) .nil .nil) .nil) (.node (q433 P) .nil .nil)) (.node (q239 P) (.node (q369 P) .nil .nil) (.node (q497 P) .nil .nil)))))) (.node (q522 P) (.node (q11 P) (.node (q27 P) (.node (q59 P) (.node (q123 P) (.node (q251 P) (.node (q509 P) .nil .nil) .nil) (.node (q381 P) .nil .nil)) (.node (q187 P) (.node (q317 P) (.node (q575 P) .nil .nil) .nil) (.node (q445 P) .nil .nil))) (.node (q91 P) (.node (q155 P) (.node (q285 P) (.node (q543 P) .nil .nil) .nil) (.node (q413 P) .nil .nil)) (.node (q219 P) (.node (q349 P) .nil .nil) (.node (q477 P) .nil .nil)))) (.node (q43 P) (.node (q75 P) (.node (q139 P) (.node (q267 P) (.node (q527 P) .nil .nil) .nil) (.node (q397 P) .nil .nil)) (.node (q203 P) (.node (q333 P) (.node (q591 P) .nil .nil) .nil) (.node (q461 P) .nil .nil))) (.node (q107 P) (.node (q171 P) (.node (q301 P) (.node (q559 P) .nil .nil) .nil) (.node (q429 P) .nil .nil)) (.node (q235 P) (.node (q365 P) .nil .nil) (.node (q493 P) .nil .nil))))) (.node (q19 P) (.node (q35 P) (.node (q67 P) (.node (q131 P) (.node (q259 P) (.node (q517 P) .nil .nil) .nil) (.node (q389 P) .nil .nil)) (.node (q195 P) (.node (q325 P) (.node (q583 P) .nil .nil) .nil) (.node (q453 P) .nil .nil))) (.node (q99 P) (.node (q163 P) (.node (q293 P) (.node (q551 P) .nil .nil) .nil) (.node (q421 P) .nil .nil)) (.node (q227 P) (.node (q357 P) .nil .nil) (.node (q485 P) .nil .nil)))) (.node (q51 P) (.node (q83 P) (.node (q147 P) (.node (q275 P) (.node (q535 P) .nil .nil) .nil) (.node (q405 P) .nil .nil)) (.node (q211 P) (.node (q341 P) .nil .nil) (.node (q469 P) .nil .nil))) (.node (q115 P) (.node (q179 P) (.node (q309 P) (.node (q567 P) .nil .nil) .nil) (.node (q437 P) .nil .nil)) (.node (q243 P) (.node (q373 P) .nil .nil) (.node (q501 P) .nil .nil))))))) (.node (PySem.W.boot_o_6 P) (.node (PySem.W.boot_o_10 P) (.node (q9 P) (.node (q25 P) (.node (q57 P) (.node (q121 P) (.node (q249 P) (.node (q507 P) .nil .nil) .nil) (.node (q379 P) .nil .nil)) (.node (q185 P) (.node (q315 P) (.node (q573 P) .nil .nil) .nil) (.node (q443 P) .nil .nil))) (.node (q89 P) (.node (q153 P) (.node (q281 P) (.node (q541 P) .nil .nil) .nil) (.node (q411 P) .nil .nil)) (.node (q217 P) (.node (q347 P) .nil .nil) (.node (q475 P) .nil .nil)))) (.node (q41 P) (.node (q73 P) (.node (q137 P) (.node (q265 P) (.node (q525 P) .nil .nil) .nil) (.node (q395 P) .nil .nil)) (.node (q201 P) (.node (q331 P) (.node (q589 P) .nil .nil) .nil) (.node (q459 P) .nil .nil))) (.node (q105 P) (.node (q169 P) (.node (q299 P) (.node (q557 P) .nil .nil) .nil) (.node (q427 P) .nil .nil)) (.node (q233 P) (.node (q363 P) .nil .nil) (.node (q491 P) .nil .nil))))) (.node (q17 P) (.node (q33 P) (.node (q65 P) (.node (q129 P) (.node (q257 P) (.node (q515 P) .nil .nil) .nil) (.node (q387 P) .nil .nil)) (.node (q193 P) (.node (q323 P) (.node (q581 P) .nil .nil) .nil) (.node (q451 P) .nil .nil))) (.node (q97 P) (.node (q161 P) (.node (q291 P) (.node (q549 P) .nil .nil) .nil) (.node (q419 P) .nil .nil)) (.node (q225 P) (.node (q355 P) .nil .nil) (.node (q483 P) .nil .nil)))) (.node (q49 P) (.node (q81 P) (.node (q145 P) (.node (q273 P) (.node (q533 P) .nil .nil) .nil) (.node (q403 P) .nil .nil)) (.node (q209 P) (.node (q339 P) .nil .nil) (.node (q467 P) .nil .nil))) (.node (q113 P) (.node (q177 P) (.node (q307 P) (.node (q565 P) .nil .nil) .nil) (.node (q435 P) .nil .nil)) (.node (q241 P) (.node (q371 P) .nil .nil) (.node (q499 P) .nil .nil)))))) (.node (q3 P) (.node (q13 P) (.node (q29 P) (.node (q61 P) (.node (q125 P) (.node (q253 P) (.node (q511 P) .nil .nil) .nil) (.node (q383 P) .nil .nil)) (.node (q189 P) (.node (q319 P) (.node (q577 P) .nil .nil) .nil) (.node (q447 P) .nil .nil))) (.node (q93 P) (.node (q157 P) (.node (q287 P) (.node (q545 P) .nil .nil) .nil) (.node (q415 P) .nil .nil)) (.node (q221 P) (.node (q351 P) .nil .nil) (.node (q479 P) .nil .nil)))) (.node (q45 P) (.node (q77 P) (.node (q141 P) (.node (q269 P) (.node (q529 P) .nil .nil) .nil) (.node (q399 P) .nil .nil)) (.node (q205 P) (.node (q335 P) .nil .nil) (.node (q463 P) .nil .nil))) (.node (q109 P) (.node (q173 P) (.node (q303 P) (.node (q561 P) .nil .nil) .nil) (.node (q431 P) .nil .nil)) (.node (q237 P) (.node (q367 P) .nil .nil) (.node (q495 P) .nil .nil))))) (.node (q21 P) (.node (q37 P) (.node (q69 P) (.node (q133 P) (.node (q261 P) (.node (q519 P) .nil .nil) .nil) (.node (q391 P) .nil .nil)) (.node (q197 P) (.node (q327 P) (.node (q585 P) .nil .nil) .nil) (.node (q455 P) .nil .nil))) (.node (q101 P) (.node (q165 P) (.node (q295 P) (.node (q553 P) .nil .nil) .nil) (.node (q423 P) .nil .nil)) (.node (q229 P) (.node (q359 P) .nil .nil) (.node (q487 P) .nil .nil)))) (.node (q53 P) (.node (q85 P) (.node (q149 P) (.node (q277 P) (.node (q537 P) .nil .nil) .nil) (.node (q407 P) .nil .nil)) (.node (q213 P) (.node (q343 P) .nil .nil) (.node (q471 P) .nil .nil))) (.node (q117 P) (.node (q181 P) (.node (q311 P) (.node (q569 P) .nil .nil) .nil) (.node (q439 P) .nil .nil)) (.node (q245 P) (.node (q375 P) .nil .nil) (.node (q503 P) .nil .nil)))))))))
noncomputable def t4T (P:Params):PySem.W.BT:=(.node (PySem.W.boot_o_0 P) (.node (PySem.W.boot_o_1 P) (.node (q592 P) (.node (PySem.W.boot_o_7 P) (.node (q6 P) (.node (q22 P) (.node (q54 P) (.node (q118 P) (.node (q246 P) (.node (q504 P) .nil .nil) .nil) (.node (q376 P) .nil .nil)) (.node (q182 P) (.node (q312 P) (.node (q570 P) .nil .nil) .nil) (.node (q440 P) .nil .nil))) (.node (q86 P) (.node (q150 P) (.node (q278 P) (.node (q538 P) .nil .nil) .nil) (.node (q408 P) .nil .nil)) (.node (q214 P) (.node (q344 P) (.node (q604 P) .nil .nil) .nil) (.node (q472 P) .nil .nil)))) (.node (q38 P) (.node (q70 P) (.node (q134 P) (.node (q262 P) (.node (q520 P) .nil .nil) .nil) (.node (q392 P) .nil .nil)) (.node (q198 P) (.node (q328 P) (.node (q586 P) .nil .nil) .nil) (.node (q456 P) .nil .nil))) (.node (q102 P) (.node (q166 P) (.node (q296 P) (.node (q554 P) .nil .nil) .nil) (.node (q424 P) .nil .nil)) (.node (q230 P) (.node (q360 P) (.node (q620 P) .nil .nil) .nil) (.node (q488 P) .nil .nil))))) (.node (q14 P) (.node (q30 P) (.node (q62 P) (.node (q126 P) (.node (q254 P) (.node (q512 P) .nil .nil) .nil) (.node (q384 P) .nil .nil)) (.node (q190 P) (.node (q320 P) (.node (q578 P) .nil .nil) .nil) (.node (q448 P) .nil .nil))) (.node (q94 P) (.node (q158 P) (.node (q288 P) (.node (q546 P) .nil .nil) .nil) (.node (q416 P) .nil .nil)) (.node (q222 P) (.node (q352 P) (.node (q612 P) .nil .nil) .nil) (.node (q480 P) .nil .nil)))) (.node (q46 P) (.node (q78 P) (.node (q142 P) (.node (q270 P) (.node (q530 P) .nil .nil) .nil) (.node (q400 P) .nil .nil)) (.node (q206 P) (.node (q336 P) (.node (q596 P) .nil .nil) .nil) (.node (q464 P) .nil .nil))) (.node (q110 P) (.node (q174 P) (.node (q304 P) (.node (q562 P) .nil .nil) .nil) (.node (q432 P) .nil .nil)) (.node (q238 P) (.node (q368 P) (.node (q628 P) .nil .nil) .nil) (.node (q496 P) .nil .nil)))))) (.node (q0 P) (.node (q10 P) (.node (q26 P) (.node (q58 P) (.node (q122 P) (.node (q250 P) (.node (q508 P) .nil .nil) .nil) (.node (q380 P) .nil .nil)) (.node (q186 P) (.node (q316 P) (.node (q574 P) .nil .nil) .nil) (.node (q444 P) .nil .nil))) (.node (q90 P) (.node (q154 P) (.node (q282 P) (.node (q542 P) .nil .nil) .nil) (.node (q412 P) .nil .nil)) (.node (q218 P) (.node (q348 P) (.node (q608 P) .nil .nil) .nil) (.node (q476 P) .nil .nil)))) (.node (q42 P) (.node (q74 P) (.node (q138 P) (.node (q266 P) (.node (q526 P) .nil .nil) .nil) (.node (q396 P) .nil .nil)) (.node (q202 P) (.node (q332 P) (.node (q590 P) .nil .nil) .nil) (.node (q460 P) .nil .nil))) (.node (q106 P) (.node (q170 P) (.node (q300 P) (.node (q558 P) .nil .nil) .nil) (.node (q428 P) .nil .nil)) (.node (q234 P) (.node (q364 P) (.node (q624 P) .nil .nil) .nil) (.node (q492 P) .nil .nil))))) (.node (q18 P) (.node (q34 P) (.node (q66 P) (.node (q130 P) (.node (q258 P) (.node (q516 P) .nil .nil) .nil) (.node (q388 P) .nil .nil)) (.node (q194 P) (.node (q324 P) (.node (q582 P) .nil .nil) .nil) (.node (q452 P) .nil .nil))) (.node (q98 P) (.node (q162 P) (.node (q292 P) (.node (q550 P) .nil .nil) .nil) (.node (q420 P) .nil .nil)) (.node (q226 P) (.node (q356 P) (.node (q616 P) .nil .nil) .nil) (.node (q484 P) .nil .nil)))) (.node (q50 P) (.node (q82 P) (.node (q146 P) (.node (q274 P) (.node (q534 P) .nil .nil) .nil) (.node (q404 P) .nil .nil)) (.node (q210 P) (.node (q340 P) (.node (q600 P) .nil .nil) .nil) (.node (q468 P) .nil .nil))) (.node (q114 P) (.node (q178 P) (.node (q308 P) (.node (q566 P) .nil .nil) .nil) (.node (q436 P) .nil .nil)) (.node (q242 P) (.node (q372 P) (.node (q632 P) .nil .nil) .nil) (.node (q500 P) .nil .nil))))))) (.node (PySem.W.boot_o_5 P) (.node (PySem.W.boot_o_9 P) (.node (q8 P) (.node (q24 P) (.node (q56 P) (.node (q120 P) (.node (q248 P) (.node (q506 P) .nil .nil) .nil) (.node (q378 P) .nil .nil)) (.node (q184 P) (.node (q314 P) (.node (q572 P) .nil .nil) .nil) (.node (q442 P) .nil .nil))) (.node (q88 P) (.node (q152 P) (.node (q280 P) (.node (q540 P) .nil .nil) .nil) (.node (q410 P) .nil .nil)) (.node (q216 P) (.node (q346 P) (.node (q606 P) .nil .nil) .nil) (.node (q474 P) .nil .nil)))) (.node (q40 P) (.node (q72 P) (.node (q136 P) (.node (q264 P) (.node (q524 P) .nil .nil) .nil) (.node (q394 P) .nil .nil)) (.node (q200 P) (.node (q330 P) (.node (q588 P) .nil .nil) .nil) (.node (q458 P) .nil .nil))) (.node (q104 P) (.node (q168 P) (.node (q298 P) (.node (q556 P) .nil .nil) .nil) (.node (q426 P) .nil .nil)) (.node (q232 P) (.node (q362 P) (.node (q622 P) .nil .nil) .nil) (.node (q490 P) .nil .nil))))) (.node (q16 P) (.node (q32 P) (.node (q64 P) (.node (q128 P) (.node (q256 P) (.node (q514 P) .nil .nil) .nil) (.node (q386 P) .nil .nil)) (.node (q192 P) (.node (q322 P) (.node (q580 P) .nil .nil) .nil) (.node (q450 P) .nil .nil))) (.node (q96 P) (.node (q160 P) (.node (q290 P) (.node (q548 P) .nil .nil) .nil) (.node (q418 P) .nil .nil)) (.node (q224 P) (.node (q354 P) (.node (q614 P) .nil .nil) .nil) (.node (q482 P) .nil .nil)))) (.node (q48 P) (.node (q80 P) (.node (q144 P) (.node (q272 P) (.node (q532 P) .nil .nil) .nil) (.node (q402 P) .nil .nil)) (.node (q208 P) (.node (q338 P) (.node (q598 P) .nil .nil) .nil) (.node (q466 P) .nil .nil))) (.node (q112 P) (.node (q176 P) (.node (q306 P) (.node (q564 P) .nil .nil) .nil) (.node (q434 P) .nil .nil)) (.node (q240 P) (.node (q370 P) (.node (q630 P) .nil .nil) .nil) (.node (q498 P) .nil .nil)))))) (.node (q2 P) (.node (q12 P) (.node (q28 P) (.node (q60 P) (.node (q124 P) (.node (q252 P) (.node (q510 P) .nil .nil) .nil) (.node (q382 P) .nil .nil)) (.node (q188 P) (.node (q318 P) (.node (q576 P) .nil .nil) .nil) (.node (q446 P) .nil .nil))) (.node (q92 P) (.node (q156 P) (.node (q286 P) (.node (q544 P) .nil .nil) .nil) (.node (q414 P) .nil .nil)) (.node (q220 P) (.node (q350 P) (.node (q610 P) .nil .nil) .nil) (.node (q478 P) .nil .nil)))) (.node (q44 P) (.node (q76 P) (.node (q140 P) (.node (q268 P) (.node (q528 P) .nil .nil) .nil) (.node (q398 P) .nil .nil)) (.node (q204 P) (.node (q334 P) (.node (q594 P) .nil .nil) .nil) (.node (q462 P) .nil .nil))) (.node (q108 P) (.node (q172 P) (.node (q302 P) (.node (q560 P) .nil .nil) .nil) (.node (q430 P) .nil .nil)) (.node (q236 P) (.node (q366 P) (.node (q626 P) .nil .nil) .nil) (.node (q494 P) .nil .nil))))) (.node (q20 P) (.node (q36 P) (.node (q68 P) (.node (q132 P) (.node (q260 P) (.node (q518 P) .nil .nil) .nil) (.node (q390 P) .nil .nil)) (.node (q196 P) (.node (q326 P) (.node (q584 P) .nil .nil) .nil) (.node (q454 P) .nil .nil))) (.node (q100 P) (.node (q164 P) (.node (q294 P) (.node (q552 P) .nil .nil) .nil) (.node (q422 P) .nil .nil)) (.node (q228 P) (.node (q358 P) (.node (q618 P) .nil .nil) .nil) (.node (q486 P) .nil .nil)))) (.node (q52 P) (.node (q84 P) (.node (q148 P) (.node (q276 P) (.node (q536 P) .nil .nil) .nil) (.node (q406 P) .nil .nil)) (.node (q212 P) (.node (q342 P) (.node (q602 P) .nil .nil) .nil) (.node (q470 P) .nil .nil))) (.node (q116 P) (.node (q180 P) (.node (q310 P) (.node (q568 P) .nil .nil) .nil) (.node (q438 P) .nil .nil)) (.node (q244 P) (.node (q374 P) (.node (q634 P) .nil .nil) .nil) (.node (q502 P) .nil .nil)))))))) (.node (PySem.W.boot_o_2 P) (.node (PySem.W.boot_o_4 P) (.node (PySem.W.boot_o_8 P) (.node (q7 P) (.node (q23 P) (.node (q55 P) (.node (q119 P) (.node (q247 P) (.node (q505 P) .nil .nil) .nil) (.node (q377 P) .nil .nil)) (.node (q183 P) (.node (q313 P) (.node (q571 P) .nil .nil) .nil) (.node (q441 P) .nil .nil))) (.node (q87 P) (.node (q151 P) (.node (q279 P) (.node (q539 P) .nil .nil) .nil) (.node (q409 P) .nil .nil)) (.node (q215 P) (.node (q345 P) (.node (q605 P) .nil .nil) .nil) (.node (q473 P) .nil .nil)))) (.node (q39 P) (.node (q71 P) (.node (q135 P) (.node (q263 P) (.node (q523 P) .nil .nil) .nil) (.node (q393 P) .nil .nil)) (.node (q199 P) (.node (q329 P) (.node (q587 P) .nil .nil) .nil) (.node (q457 P) .nil .nil))) (.node (q103 P) (.node (q167 P) (.node (q297 P) (.node (q555 P) .nil .nil) .nil) (.node (q425 P) .nil .nil)) (.node (q231 P) (.node (q361 P) (.node (q621 P) .nil .nil) .nil) (.node (q489 P) .nil .nil))))) (.node (q15 P) (.node (q31 P) (.node (q63 P) (.node (q127 P) (.node (q255 P) (.node (q513 P) .nil .nil) .nil) (.node (q385 P) .nil .nil)) (.node (q191 P) (.node (q321 P) (.node (q579 P) .nil .nil) .nil) (.node (q449 P) .nil .nil))) (.node (q95 P) (.node (q159 P) (.node (q289 P) (.node (q547 P) .nil .nil) .nil) (.node (q417 P) .nil .nil)) (.node (q223 P) (.node (q353 P) (.node (q613 P) .nil .nil) .nil) (.node (q481 P) .nil .nil)))) (.node (q47 P) (.node (q79 P) (.node (q143 P) (.node (q271 P) (.node (q531 P) .nil .nil) .nil) (.node (q401 P) .nil .nil)) (.node (q207 P) (.node (q337 P) (.node (q597 P) .nil .nil) .nil) (.node (q465 P) .nil .nil))) (.node (q111 P) (.node (q175 P) (.node (q305 P) (.node (q563 P) .nil .nil) .nil) (.node (q433 P) .nil .nil)) (.node (q239 P) (.node (q369 P) (.node (q629 P) .nil .nil) .nil) (.node (q497 P) .nil .nil)))))) (.node (q593 P) (.node (q11 P) (.node (q27 P) (.node (q59 P) (.node (q123 P) (.node (q251 P) (.node (q509 P) .nil .nil) .nil) (.node (q381 P) .nil .nil)) (.node (q187 P) (.node (q317 P) (.node (q575 P) .nil .nil) .nil) (.node (q445 P) .nil .nil))) (.node (q91 P) (.node (q155 P) (.node (q285 P) (.node (q543 P) .nil .nil) .nil) (.node (q413 P) .nil .nil)) (.node (q219 P) (.node (q349 P) (.node (q609 P) .nil .nil) .nil) (.node (q477 P) .nil .nil)))) (.node (q43 P) (.node (q75 P) (.node (q139 P) (.node (q267 P) (.node (q527 P) .nil .nil) .nil) (.node (q397 P) .nil .nil)) (.node (q203 P) (.node (q333 P) (.node (q591 P) .nil .nil) .nil) (.node (q461 P) .nil .nil))) (.node (q107 P) (.node (q171 P) (.node (q301 P) (.node (q559 P) .nil .nil) .nil) (.node (q429 P) .nil .nil)) (.node (q235 P) (.node (q365 P) (.node (q625 P) .nil .nil) .nil) (.node (q493 P) .nil .nil))))) (.node (q19 P) (.node (q35 P) (.node (q67 P) (.node (q131 P) (.node (q259 P) (.node (q517 P) .nil .nil) .nil) (.node (q389 P) .nil .nil)) (.node (q195 P) (.node (q325 P) (.node (q583 P) .nil .nil) .nil) (.node (q453 P) .nil .nil))) (.node (q99 P) (.node (q163 P) (.node (q293 P) (.node (q551 P) .nil .nil) .nil) (.node (q421 P) .nil .nil)) (.node (q227 P) (.node (q357 P) (.node (q617 P) .nil .nil) .nil) (.node (q485 P) .nil .nil)))) (.node (q51 P) (.node (q83 P) (.node (q147 P) (.node (q275 P) (.node (q535 P) .nil .nil) .nil) (.node (q405 P) .nil .nil)) (.node (q211 P) (.node (q341 P) (.node (q601 P) .nil .nil) .nil) (.node (q469 P) .nil .nil))) (.node (q115 P) (.node (q179 P) (.node (q309 P) (.node (q567 P) .nil .nil) .nil) (.node (q437 P) .nil .nil)) (.node (q243 P) (.node (q373 P) (.node (q633 P) .nil .nil) .nil) (.node (q501 P) .nil .nil))))))) (.node (PySem.W.boot_o_6 P) (.node (PySem.W.boot_o_10 P) (.node (q9 P) (.node (q25 P) (.node (q57 P) (.node (q121 P) (.node (q249 P) (.node (q507 P) .nil .nil) .nil) (.node (q379 P) .nil .nil)) (.node (q185 P) (.node (q315 P) (.node (q573 P) .nil .nil) .nil) (.node (q443 P) .nil .nil))) (.node (q89 P) (.node (q153 P) (.node (q281 P) (.node (q541 P) .nil .nil) .nil) (.node (q411 P) .nil .nil)) (.node (q217 P) (.node (q347 P) (.node (q607 P) .nil .nil) .nil) (.node (q475 P) .nil .nil)))) (.node (q41 P) (.node (q73 P) (.node (q137 P) (.node (q265 P) (.node (q525 P) .nil .nil) .nil) (.node (q395 P) .nil .nil)) (.node (q201 P) (.node (q331 P) (.node (q589 P) .nil .nil) .nil) (.node (q459 P) .nil .nil))) (.node (q105 P) (.node (q169 P) (.node (q299 P) (.node (q557 P) .nil .nil) .nil) (.node (q427 P) .nil .nil)) (.node (q233 P) (.node (q363 P) (.node (q623 P) .nil .nil) .nil) (.node (q491 P) .nil .nil))))) (.node (q17 P) (.node (q33 P) (.node (q65 P) (.node (q129 P) (.node (q257 P) (.node (q515 P) .nil .nil) .nil) (.node (q387 P) .nil .nil)) (.node (q193 P) (.node (q323 P) (.node (q581 P) .nil .nil) .nil) (.node (q451 P) .nil .nil))) (.node (q97 P) (.node (q161 P) (.node (q291 P) (.node (q549 P) .nil .nil) .nil) (.node (q419 P) .nil .nil)) (.node (q225 P) (.node (q355 P) (.node (q615 P) .nil .nil) .nil) (.node (q483 P) .nil .nil)))) (.node (q49 P) (.node (q81 P) (.node (q145 P) (.node (q273 P) (.node (q533 P) .nil .nil) .nil) (.node (q403 P) .nil .nil)) (.node (q209 P) (.node (q339 P) (.node (q599 P) .nil .nil) .nil) (.node (q467 P) .nil .nil))) (.node (q113 P) (.node (q177 P) (.node (q307 P) (.node (q565 P) .nil .nil) .nil) (.node (q435 P) .nil .nil)) (.node (q241 P) (.node (q371 P) (.node (q631 P) .nil .nil) .nil) (.node (q499 P) .nil .nil)))))) (.node (q3 P) (.node (q13 P) (.node (q29 P) (.node (q61 P) (.node (q125 P) (.node (q253 P) (.node (q511 P) .nil .nil) .nil) (.node (q383 P) .nil .nil)) (.node (q189 P) (.node (q319 P) (.node (q577 P) .nil .nil) .nil) (.node (q447 P) .nil .nil))) (.node (q93 P) (.node (q157 P) (.node (q287 P) (.node (q545 P) .nil .nil) .nil) (.node (q415 P) .nil .nil)) (.node (q221 P) (.node (q351 P) (.node (q611 P) .nil .nil) .nil) (.node (q479 P) .nil .nil)))) (.node (q45 P) (.node (q77 P) (.node (q141 P) (.node (q269 P) (.node (q529 P) .nil .nil) .nil) (.node (q399 P) .nil .nil)) (.node (q205 P) (.node (q335 P) (.node (q595 P) .nil .nil) .nil) (.node (q463 P) .nil .nil))) (.node (q109 P) (.node (q173 P) (.node (q303 P) (.node (q561 P) .nil .nil) .nil) (.node (q431 P) .nil .nil)) (.node (q237 P) (.node (q367 P) (.node (q627 P) .nil .nil) .nil) (.node (q495 P) .nil .nil))))) (.node (q21 P) (.node (q37 P) (.node (q69 P) (.node (q133 P) (.node (q261 P) (.node (q519 P) .nil .nil) .nil) (.node (q391 P) .nil .nil)) (.node (q197 P) (.node (q327 P) (.node (q585 P) .nil .nil) .nil) (.node (q455 P) .nil .nil))) (.node (q101 P) (.node (q165 P) (.node (q295 P) (.node (q553 P) .nil .nil) .nil) (.node (q423 P) .nil .nil)) (.node (q229 P) (.node (q359 P) (.node (q619 P) .nil .nil) .nil) (.node (q487 P) .nil .nil)))) (.node (q53 P) (.node (q85 P) (.node (q149 P) (.node (q277 P) (.node (q537 P) .nil .nil) .nil) (.node (q407 P) .nil .nil)) (.node (q213 P) (.node (q343 P) (.node (q603 P) .nil .nil) .nil) (.node (q471 P) .nil .nil))) (.node (q117 P) (.node (q181 P) (.node (q311 P) (.node (q569 P) .nil .nil) .nil) (.node (q439 P) .nil .nil)) (.node (q245 P) (.node (q375 P) (.node (q635 P) .nil .nil) .nil) (.node (q503 P) .nil .nil)))))))))
noncomputable abbrev hp:Program:=PySem.Challenge.rw_plusless_k06_what_is_no_row.row.prog
noncomputable def hEnv:Env:={scope:=hp.main.scope,locals:=mainNs,globals:=mainNs,cells:=[],code:=.ref 13,frame:=some 14}
noncomputable def hB:List Stmt:=PySem.W.behindTheImports hp
noncomputable def hCd:Code:=Code.body hB hEnv
noncomputable def hp0:Pos:=⟨0,0,0,0⟩
noncomputable def sT (t:PySem.W.BT) (n k:Nat) (os:OsState):PySem.W.SharedT:={tree:=t,n:=n,life:={},gens:=#[],drawn:={},toks:=k,os:=os}
noncomputable def hH (P:Params):Heap:=PySem.W.absHeap (t4T P) 639 {}
set_option maxHeartbeats 0 in
theorem tg (w:World) (os:OsState):PySem.W.topGo treeTable hp w 11 (some (.ref 6)) 12 {heap:=PySem.W.boot_heap w.params,gens:=#[],drawn:=PySem.W.boot_drawn,toks:=PySem.W.boot_toks,os:=os} (PySem.W.topStub hp)=some ((sT (t0T w.params) 15 187 os).abs,{cur:=denote treeTable (Code.body hB hEnv),code:=hCd,pos:=hp0,stack:=[PySem.W.topFrame hp0]}):=by kernel_rfl
set_option maxHeartbeats 0 in
theorem tb (w:World) (os:OsState):PySem.W.segRun treeTable hp w 11 (some (.ref 6)) 1 1 (sT (t0T w.params) 15 187 os).abs (PySem.W.blockOf hB hEnv hCd hp0 [PySem.W.topFrame hp0])=some (Flow.next,(sT (t0T w.params) 15 187 os).abs,hCd,hp0):=by kernel_rfl
set_option maxHeartbeats 0 in
theorem pc0 (w:World) (os:OsState):PySem.W.segRunT treeTable hp w 11 (some (.ref 6)) 1 5500 (sT (t0T w.params) 15 187 os) (PySem.W.piecesOf ((hB.drop 0).take 43) hEnv hCd hp0 [PySem.W.topFrame hp0])=some (Flow.next,sT (t1T w.params) 292 544 os,hCd,⟨125,0,128,83⟩):=by kernel_rfl
set_option maxHeartbeats 0 in
theorem pc1 (w:World) (os:OsState):PySem.W.segRunT treeTable hp w 11 (some (.ref 6)) 1 1900 (sT (t1T w.params) 292 544 os) (PySem.W.piecesOf ((hB.drop 43).take 43) hEnv hCd ⟨125,0,128,83⟩ [PySem.W.topFrame hp0])=some (Flow.next,sT (t2T w.params) 528 850 os,hCd,⟨307,0,312,12⟩):=by kernel_rfl
set_option maxHeartbeats 0 in
theorem pc2t (w:World) (os:OsState):PySem.W.segRunT treeTable hp (w.withFollow "special-get-raises" true) 11 (some (.ref 6)) 1 700 (sT (t2T (w.withFollow "special-get-raises" true).params) 528 850 os) (PySem.W.piecesOf ((hB.drop 86).take 14) hEnv hCd ⟨307,0,312,12⟩ [PySem.W.topFrame hp0])=some (Flow.next,sT (t3T (w.withFollow "special-get-raises" true).params) 597 965 os,hCd,⟨380,0,398,23⟩):=by kernel_rfl
set_option maxHeartbeats 0 in
theorem pc2f (w:World) (os:OsState):PySem.W.segRunT treeTable hp (w.withFollow "special-get-raises" false) 11 (some (.ref 6)) 1 700 (sT (t2T (w.withFollow "special-get-raises" false).params) 528 850 os) (PySem.W.piecesOf ((hB.drop 86).take 14) hEnv hCd ⟨307,0,312,12⟩ [PySem.W.topFrame hp0])=some (Flow.next,sT (t3T (w.withFollow "special-get-raises" false).params) 597 965 os,hCd,⟨380,0,398,23⟩):=by kernel_rfl
theorem pc2 (w:World) (os:OsState):PySem.W.segRunT treeTable hp w 11 (some (.ref 6)) 1 700 (sT (t2T w.params) 528 850 os) (PySem.W.piecesOf ((hB.drop 86).take 14) hEnv hCd ⟨307,0,312,12⟩ [PySem.W.topFrame hp0])=some (Flow.next,sT (t3T w.params) 597 965 os,hCd,⟨380,0,398,23⟩):=PySem.W.byRow2 "special-get-raises" (P:=fun w=>∀ os,PySem.W.segRunT treeTable hp w 11 (some (.ref 6)) 1 700 (sT (t2T w.params) 528 850 os) (PySem.W.piecesOf ((hB.drop 86).take 14) hEnv hCd ⟨307,0,312,12⟩ [PySem.W.topFrame hp0])=some (Flow.next,sT (t3T w.params) 597 965 os,hCd,⟨380,0,398,23⟩)) (fun w os=>pc2f w os) (fun w os=>pc2t w os) w os
set_option maxHeartbeats 0 in
theorem pc3 (w:World) (os:OsState):PySem.W.segRunT treeTable hp w 11 (some (.ref 6)) 1 700 (sT (t3T w.params) 597 965 os) (PySem.W.piecesOf ((hB.drop 100).take 6) hEnv hCd ⟨380,0,398,23⟩ [PySem.W.topFrame hp0])=some (Flow.next,sT (t4T w.params) 639 1022 os,hCd,⟨478,0,490,15⟩):=by kernel_rfl
set_option maxHeartbeats 0 in
theorem tz (w:World) (os:OsState):PySem.W.topRun treeTable hp w 11 (some (.ref 6)) 2 (sT (t4T w.params) 639 1022 os).abs (PySem.W.restOf [] hEnv hCd ⟨478,0,490,15⟩ [PySem.W.topFrame hp0])=some {heap:=hH w.params,gens:=#[],drawn:={},toks:=1022,os:=os}:=by kernel_rfl
set_option maxHeartbeats 0 in
theorem hsp:hB=((hB.drop 0).take 43++((hB.drop 43).take 43++((hB.drop 86).take 14++((hB.drop 100).take 6++[])))):=by kernel_rfl
theorem hrun (w:World) (os:OsState):PySem.W.topRun treeTable hp w 11 (some (.ref 6)) (12+(1+(5500+(1900+(700+(700+2)))))) {heap:=PySem.W.boot_heap w.params,gens:=#[],drawn:=PySem.W.boot_drawn,toks:=PySem.W.boot_toks,os:=os} (PySem.W.topStub hp)=some {heap:=hH w.params,gens:=#[],drawn:={},toks:=1022,os:=os}:=by
 have key:∀ b,b=((hB.drop 0).take 43++((hB.drop 43).take 43++((hB.drop 86).take 14++((hB.drop 100).take 6++[]))))→PySem.W.topRun treeTable hp w 11 (some (.ref 6)) (5500+(1900+(700+(700+2)))) (sT (t0T w.params) 15 187 os).abs (PySem.W.restOf b hEnv hCd hp0 [PySem.W.topFrame hp0])=some {heap:=hH w.params,gens:=#[],drawn:={},toks:=1022,os:=os}:=fun b e=>by
  subst e
  exact (PySem.W.piece_app (PySem.W.segRun_of (pc0 w os)) (PySem.W.piece_app (PySem.W.segRun_of (pc1 w os)) (PySem.W.piece_app (PySem.W.segRun_of (pc2 w os)) (PySem.W.piece_app (PySem.W.segRun_of (pc3 w os)) (tz w os)))))
 exact PySem.W.go_top (tg w os) (PySem.W.piece_block (tb w os) (key hB hsp))
set_option maxHeartbeats 0 in
theorem hfin (w:World):(fun os=>(PySem.W.staticsOk (importedModules hp.main.body) (PySem.W.boot_heap w.params) (hH w.params) && PySem.W.namesBound hp (hH w.params) && PySem.W.gensDone {heap:=hH w.params,gens:=#[],drawn:={},toks:=1022,os:=os} && PySem.W.laidKept (PySem.W.boot_heap w.params) (hH w.params),PySem.W.openSeen hV ["MARK_OF"] (importedModules hp.main.body) hX true {heap:=hH w.params,gens:=#[],drawn:={},toks:=1022,os:=os},PySem.W.Hook.obs (PySem.W.kHook hK hA hKA) {heap:=hH w.params,gens:=#[],drawn:={},toks:=1022,os:=os}))=fun _:OsState=>(true,PySem.W.openGood hV ["MARK_OF"],PySem.W.Hook.val (PySem.W.kHook hK hA hKA) w):=by kernel_rfl
theorem left:PySem.W.LeftO PySem.Challenge.rw_plusless_k06_what_is_no_row.row.prog hV ["MARK_OF"] hX (PySem.W.Hook.obs (PySem.W.kHook hK hA hKA)) (PySem.W.Hook.val (PySem.W.kHook hK hA hKA)) 10800:=PySem.W.LeftO.of_pieces (H₀:=PySem.W.boot_heap) (H₁:=hH) (gs₀:=#[]) (gs₁:=#[]) (d₀:=PySem.W.boot_drawn) (d₁:={}) (k₀:=PySem.W.boot_toks) (k₁:=1022) (m₀:=11) (ann:=some (.ref 6)) (M:=(12+(1+(5500+(1900+(700+(700+2))))))) (PySem.W.boot_open (by kernel_rfl) (by decide) (fun s=>by kernel_rfl)) (fun w=>by kernel_rfl) hrun (by decide) hfin
end Lw
section
set_option Elab.async false
set_option linter.all false
set_option maxRecDepth 100000
namespace PySem
noncomputable def ZO (o:Obj):Prop:=∃ fs:Array Value,o.data=.fields fs∧fs[2]?=some .none
noncomputable def Heap.Zat (h:Heap) (e:Addr):Prop:=∃ o,h.get? e=some o∧ZO o
section
variable {M:Model} {A:Around} {E:Value→Shared→Prop} {s:Shared} {bs:Heap} {en:Env} {out:List Env} {L e:Addr} {cl a0:Value}
theorem Heap.Zat.same {h h':Heap} (z:h.Zat e) (k:h'.get? e=h.get? e):h'.Zat e:=let ⟨o,q,r⟩:=z; ⟨o,k.trans q,r⟩
theorem entryZ {ob:Obj} {fs:Array Value} {hd:Value} {more:Bool} {Q:Unit→Shared→Prop} (hA:A.frames=some (en :: out)) (hF:s.heap.FunFrames bs (en :: out)) (hL:en.frame=some L)
  (hE:s.heap.get? e=some ob) (hB:bs.StaysIn s.heap) (hN:bs.get? e=none) (hD:ob.data=.fields fs) (h0:fs[0]?=some a0) (h2:fs[2]?=some .none)
  (k:∀ h',Heap.NotedW bs (en :: out) e ob.cls a0 (rawInt L) s.heap h'→h'.Zat e→Q () { s with heap:=h' }):
  wpAny M A (do let f ← frameOf en; let pl ← entryPlaceOf L more; let t ← EntryCells.newEntry hd f .none (rawInt L) .none pl; setField (.ref e) 1 t) Q E s:=by
 have lt:1 < fs.size:=by have:=(Array.getElem?_eq_some_iff.mp h2).1; omega
 have notF:e ∉ (en :: out).filterMap (·.frame):=fun z=>by
  obtain ⟨_,o',q,r⟩:=hF.mem z
  rw [hE] at q
  cases q
  exact r fs hD
 refine wpAny_bind (wpAny_frameOf_fun hA hF hL fun g1 so=>?_)
 refine wpAny_bind (wpAny_entryPlaceOf fun pl place=>?_)
 unfold EntryCells.newEntry newFields
 refine wpAny_bind (wpAny_newObj_type ?_ (place.sizeOk5 _ _ _ _ _))
 generalize htb:({ cls:=.type "traceback",data:=.fields ([hd,.ref L,.none,rawInt L,.none] ++ (if pl.isEmpty then List.replicate 6 Value.none else pl)).toArray }:Obj)=tb
 have e1:g1.get? e=some ob:=(so.2.1 e notF).trans hE
 have b1:bs.StaysIn g1:=fun c o q=>(so.2.1 c fun z=>by rw [(hF.mem z).1] at q; cases q).trans (hB c o q)
 have e2:=Heap.get?_push_of_some (h:=g1) tb e1
 refine wpAny_setField e2 hD lt ?_
 generalize hfn:Obj.mapFields (fun z=>z.setIfInBounds 1 (Value.ref g1.objs.size))=fn
 have d3:(fn ob).data=.fields (fs.setIfInBounds 1 (.ref g1.objs.size)):=by rw [← hfn]; exact Obj.data_mapFields hD _
 have c3:(fn ob).cls=ob.cls:=by rw [← hfn]; exact Obj.cls_mapFields _ _
 have e3:((g1.push tb).update e fn).get? e=some (fn ob):=Heap.get?_update_self fn e2 (Obj.isFreed_of_fields d3)
 have ne:g1.objs.size ≠ e:=Nat.ne_of_gt (Heap.lt_size e1)
 have t3:((g1.push tb).update e fn).get? g1.objs.size=some tb:=(Heap.get?_update_other (g1.push tb) fn (Ne.symm ne)).trans (Heap.get?_push_size g1 (by rw [← htb]; rfl))
 have other:∀ c o,c ≠ e→g1.get? c=some o→((g1.push tb).update e fn).get? c=some o:=fun c o n q=>by
  rw [Heap.get?_update_other (g1.push tb) fn (Ne.symm n)]
  exact Heap.get?_push_of_some tb q
 have noE:∀ c o,s.heap.get? c=some o→(∀ ws,o.data ≠ .fields ws)→c ≠ e:=fun c o q r z=>by
  rw [z,hE] at q
  cases q
  exact r fs hD
 refine k _ ⟨fun c o q=>other c o (fun z=>by rw [z,hN] at q; cases q) (b1 c o q),hF.of_keeps fun c o q r=>?_,?_,fun c o q r=>?_⟩ ⟨fn ob,e3,_,d3,?_⟩
 ·obtain ⟨sl,y⟩:=so.2.2 c o q
  exact ⟨_,other c _ (noE c o q r) y,rfl⟩
 ·refine ⟨fn ob,_,g1.objs.size,tb,_,e3,⟨c3,?_⟩,d3,?_,b1.fresh,ne,t3,(by rw [← htb]),?_⟩
  ·rw [Array.getElem?_setIfInBounds_ne (by decide)]; exact h0
  ·simp [lt]
  ·first | (simp; done) | (rcases place with rfl | ⟨_,_,_,_,_,_,_,rfl⟩ <;> simp)
 ·obtain ⟨sl,y⟩:=so.2.2 c o q
  exact ⟨sl,other c _ (noE c o q r) y⟩
 ·rw [Array.getElem?_setIfInBounds_ne (by decide)]; exact h2
theorem noteOnZ {Q:Unit→Shared→Prop} (hA:A.frames=some (en :: out)) (hF:s.heap.FunFrames bs (en :: out)) (hL:en.frame=some L) (tr:s.heap.TracedW bs e cl a0) (hB:bs.StaysIn s.heap) (hN:bs.get? e=none) (z:s.heap.Zat e)
  (k:∀ h',Heap.NotedW bs (en :: out) e cl a0 (rawInt L) s.heap h'→h'.Zat e→Q () { s with heap:=h' }):wpAny M A (noteFrame (.ref e) en) Q E s:=by
 obtain ⟨ob,fs,T,oT,ts,hE,⟨hC,h0⟩,hD,h1,nT,Te,hT,dT,h3⟩:=tr
 obtain ⟨ob',q',fs',d',h2⟩:=z
 rw [hE] at q'
 cases q'
 rw [hD] at d'
 cases d'
 subst hC
 unfold noteFrame
 simp only [hL]
 refine wpAny_bind (wpAny_field hE hD h1 ?_)
 rw [if_pos (by simp)]
 refine wpAny_bind (wpAny_field hT dT h3 ?_)
 rw [if_neg (by simp [rawInt])]
 refine wpAny_bind (wpAny_setField hT dT (Array.getElem?_eq_some_iff.mp h3).1 ?_)
 have oth:∀ c,c ≠ T→(s.heap.update T (Obj.mapFields (fun y=>y.setIfInBounds 3 Value.none))).get? c=s.heap.get? c:=fun c n=>Heap.get?_update_other _ _ (Ne.symm n)
 have noT:∀ c o,s.heap.get? c=some o→(∀ ws,o.data ≠ .fields ws)→c ≠ T:=fun c o q r y=>by
  rw [y,hT] at q
  cases q
  exact r ts dT
 exact entryZ hA (hF.of_keeps fun c o q r=>⟨o,(oth c (noT c o q r)).trans q,rfl⟩) hL ((oth e (Ne.symm Te)).trans hE) (fun c o q=>(oth c fun y=>by rw [y,nT] at q; cases q).trans (hB c o q)) hN hD h0 h2
  fun h' ⟨x1,x2,x3,x4⟩ zz=>k h' ⟨x1,x2,x3,fun c o q r=>x4 c o ((oth c (noT c o q r)).trans q) r⟩ zz
theorem noteFirstZ {ob:Obj} {fs:Array Value} {Q:Unit→Shared→Prop} (hA:A.frames=some (en :: out)) (hF:s.heap.FunFrames bs (en :: out)) (hL:en.frame=some L)
  (hE:s.heap.get? e=some ob) (hB:bs.StaysIn s.heap) (hN:bs.get? e=none) (hD:ob.data=.fields fs) (h0:fs[0]?=some a0) (h1:fs[1]?=some .none) (h2:fs[2]?=some .none)
  (k:∀ h',Heap.NotedW bs (en :: out) e ob.cls a0 (rawInt L) s.heap h'→h'.Zat e→Q () { s with heap:=h' }):wpAny M A (noteFrame (.ref e) en) Q E s:=by
 unfold noteFrame
 simp only [hL]
 refine wpAny_bind (wpAny_field hE hD h1 ?_)
 rw [if_neg (by decide)]
 exact entryZ hA hF hL hE hB hN hD h0 h2 k
theorem flightZ {l:List Env} {fl:Value} {Q:Unit→Shared→Prop} (hB:bs.StaysIn s.heap) (hF:s.heap.FunFrames bs l) (tr:s.heap.TracedAtW bs e cl a0 fl) (z:s.heap.Zat e)
  (k:∀ h',bs.StaysIn h'→h'.FunFrames bs l→h'.TracedW bs e cl a0→s.heap.UpToSlots h'→h'.Zat e→Q () { s with heap:=h' }):wpAny M A (setFlight (.ref e) none) Q E s:=by
 obtain ⟨ob,fs,T,oT,ts,hE,hC,hD,h1,nT,Te,hT,dT,h3⟩:=tr
 have lt:3 < ts.size:=(Array.getElem?_eq_some_iff.mp h3).1
 generalize hfn:Obj.mapFields (fun y=>y.setIfInBounds 3 ((none:Option Addr).elim Value.none fun f=>rawInt f))=fn
 have oth:∀ c,c ≠ T→(s.heap.update T fn).get? c=s.heap.get? c:=fun c n=>Heap.get?_update_other _ _ (Ne.symm n)
 have noT:∀ c o,s.heap.get? c=some o→(∀ ws,o.data ≠ .fields ws)→c ≠ T:=fun c o q r y=>by
  rw [y,hT] at q
  cases q
  exact r ts dT
 have dF:(fn oT).data=.fields (ts.setIfInBounds 3 .none):=by rw [← hfn]; exact Obj.data_mapFields dT _
 unfold setFlight
 refine wpAny_bind (wpAny_field hE hD h1 ?_)
 rw [if_pos (by simp)]
 refine wpAny_setField hT dT lt ?_
 rw [hfn]
 refine k _ (fun c o q=>(oth c fun y=>by rw [y,nT] at q; cases q).trans (hB c o q)) (hF.of_keeps fun c o q r=>⟨o,(oth c (noT c o q r)).trans q,rfl⟩) ?_ (fun c o q r=>⟨o.slots,(oth c (noT c o q r)).trans q⟩) (z.same (oth e (Ne.symm Te)))
 exact ⟨ob,fs,T,fn oT,_,(oth e (Ne.symm Te)).trans hE,hC,hD,h1,nT,Te,Heap.get?_update_self fn hT (Obj.isFreed_of_fields dF),dF,by simp [lt]⟩
theorem looksZ {Q:Unit→Shared→Prop} (hA:A.frames=some (en :: out)) (hL:en.frame=some L) (fl:Heap.FlyingW bs (en :: out) e cl a0 s.heap) (z:s.heap.Zat e)
  (k:∀ h',Heap.HeldW bs (en :: out) e cl a0 L h'→s.heap.UpToSlots h'→h'.Zat e→Q () { s with heap:=h' }):wpAny M A (noteFrame (.ref e) en) Q E s:=by
 obtain ⟨y1,y2,y3,y4⟩:=fl
 exact noteOnZ hA y3 hL y4 y1 y2 z fun h' ⟨x1,x2,x3,x4⟩ zz=>k h' ⟨x1,y2,x2,x3⟩ x4 zz
theorem landsZ {l:List Env} {Q:Unit→Shared→Prop} (hh:Heap.HeldW bs l e cl a0 L s.heap) (z:s.heap.Zat e)
  (k:∀ h',Heap.FlyingW bs l e cl a0 h'→s.heap.UpToSlots h'→h'.Zat e→Q () { s with heap:=h' }):wpAny M A (setFlight (.ref e) none) Q E s:=by
 obtain ⟨y1,y2,y3,y4⟩:=hh
 exact flightZ y1 y3 y4 z fun h' x1 x2 x3 x4 zz=>k h' ⟨x1,y2,x2,x3⟩ x4 zz
theorem landsAgainZ {l:List Env} {Q:Unit→Shared→Prop} (fl:Heap.FlyingW bs l e cl a0 s.heap) (z:s.heap.Zat e)
  (k:∀ h',Heap.FlyingW bs l e cl a0 h'→s.heap.UpToSlots h'→h'.Zat e→Q () { s with heap:=h' }):wpAny M A (setFlight (.ref e) none) Q E s:=by
 obtain ⟨y1,y2,y3,y4⟩:=fl
 exact flightZ y1 y3 y4.at z fun h' x1 x2 x3 x4 zz=>k h' ⟨x1,y2,x2,x3⟩ x4 zz
theorem leavesZ {Q:Unit→Shared→Prop} (hA:A.frames=some (en :: out)) (hL:en.frame=some L) (fl:Heap.FlyingW bs (en :: out) e cl a0 s.heap) (z:s.heap.Zat e)
  (k:∀ h',Heap.FlyingW bs out e cl a0 h'→s.heap.UpToSlots h'→h'.Zat e→Q () { s with heap:=h' }):wpAny M A (leaving en (.ref e)) Q E s:=by
 unfold leaving
 refine wpAny_bind (looksZ hA hL fl z fun h1 x1 x2 x3=>?_)
 refine landsZ (s:={ s with heap:=h1 }) x1 x3 fun h2 y1 y2 y3=>?_
 obtain ⟨a,b,⟨_,_,c⟩,d⟩:=y1
 exact k h2 ⟨a,b,c,d⟩ (x2.trans y2) y3
theorem leavesMadeZ {h:Heap} {vs:List Value} {Q:Unit→Shared→Prop} (hA:A.frames=some (en :: out)) (hL:en.frame=some L) (hB:bs.StaysIn h) (hF:h.FunFrames bs (en :: out)) (mk:Heap.MadeExcOf h s.heap e cl vs)
  (k:∀ h' t,Heap.FlyingW bs out e cl (.ref t) h'→s.heap.UpToSlots h'→h'.Zat e→Q () { s with heap:=h' }):wpAny M A (leaving en (.ref e)) Q E s:=by
 obtain ⟨t,hE,_,_⟩:=mk.there
 have nw:bs.get? e=none:=by
  cases q:bs.get? e with
  | none=>rfl
  | some o'=>have:=hB e o' q; rw [mk.new] at this; cases this
 unfold leaving
 refine wpAny_bind (noteFirstZ (a0:=.ref t) hA (hF.of_keeps fun c o q _=>⟨o,mk.keeps c o q,rfl⟩) hL hE (fun c o q=>mk.keeps c o (hB c o q)) nw rfl rfl rfl rfl fun h1 x1 x2=>?_)
 obtain ⟨a,b,c,d⟩:=x1
 refine flightZ (s:={ s with heap:=h1 }) a b c x2 fun h2 y1 y2 y3 y4 y5=>?_
 obtain ⟨_,_,y2⟩:=y2
 exact k h2 t ⟨y1,nw,y2,y3⟩ (Heap.UpToSlots.trans d y4) y5
end
end PySem
namespace PySem
open PyProof.Rows
theorem entry_unchain:entryFor table "proto.unchain" = some Builtin.«proto.unchain»:=entryFor_of_tree (by kernel_rfl)
theorem plain_unchain:plainId "proto.unchain" = true:=by decide +kernel
section
variable {prog:Program} {w:World} {A:Around} {E:Value→Shared→Prop} {s:Shared}
theorem unchainZ {ea ha:Addr} {Q:Value→Shared→Prop} (z:s.heap.Zat ha) (h:Q .none s):wpAny (model prog w) A (runValue (.builtin "proto.unchain" ⟨[.ref ea,.ref ha,.ref ha,.bool false],[]⟩)) Q E s:=by
 obtain ⟨o,ho,fs,hd,h2⟩:=z
 refine wpAny_runValue (codeAny_builtin entry_unchain ?_)
 rw [Around.under_plainId plain_unchain _]
 unfold Builtin.«proto.unchain»
 refine wpAny_bind (wpAny_field ho hd h2 ?_)
 rw [if_pos (by rfl)]
 refine wpAny_bind (wpAny_pure ?_)
 exact wpAny_pure h
theorem raiseNewZ {α:Type} {ea ha:Addr} {o:Obj} {fs:Array Value} {Q:α→Shared→Prop} (hh:A.handled=some (.ref ha)) (z:s.heap.Zat ha) (ne:ha ≠ ea) (he:s.heap.get? ea=some o) (hd:o.data=.fields fs) (hs:2 < fs.size)
  (h:E (.ref ea) { s with heap:=s.heap.update ea (Obj.mapFields (fun y=>y.setIfInBounds 2 (.ref ha))) }):wpAny (model prog w) A (raiseNew (.ref ea):Sem α) Q E s:=by
 unfold raiseNew
 refine wpAny_bind (wpAny_handled ?_)
 rw [hh]
 dsimp only
 rw [if_pos (by simpa using ne)]
 refine wpAny_bind (wpAny_holding (unchainZ z ?_))
 refine wpAny_bind ?_
 show wpAny _ _ (setField (.ref ea) 2 (.ref ha)) _ _ s
 exact wpAny_setField he hd hs (wpAny_throw h)
theorem rangeEndZ {it ha:Addr} {x left step:Int} {Q:Option Value→Shared→Prop} (hh:A.handled=some (.ref ha)) (z:s.heap.Zat ha) (hit:IsRangeIter s.heap it x left step) (hl:left≤0)
  (k:∀ h',Heap.ExtBut it s.heap h'→Q none { s with heap:=h' }):wpAny (model prog w) A (pyNext (.ref it)) Q E s:=by
 have ty:s.TypeIs (.ref it) "range_iterator":=⟨_,hit,rfl⟩
 have lta:ha < s.heap.objs.size:=let ⟨o,q,_⟩:=z; Heap.lt_size q
 unfold pyNext
 refine wpAny_bind (wpAny_attempt (wpAny_callSpecial?_slot (name:=Str.ofString "__next__") ty F.slot_range_iterator_next (wpAny_call_entry F.slot_range_iterator_next ty F.entry_range_iterator_next ?_ (F.args_range_iterator_next_1 _))))
 show wpAny _ _ (field (.ref it) 0 >>= _) _ _ s
 refine wpAny_bind (wpAny_field hit rfl (x:=rawInt x) rfl ?_)
 show wpAny _ _ (field (.ref it) 1 >>= _) _ _ s
 refine wpAny_bind (wpAny_field hit rfl (x:=rawInt left) rfl ?_)
 show wpAny _ _ (field (.ref it) 2 >>= _) _ _ s
 refine wpAny_bind (wpAny_field hit rfl (x:=rawInt step) rfl ?_)
 show wpAny _ _ (if left≤0 then _ else _) _ _ s
 rw [if_pos hl]
 refine wpAny_bind (wpAny_rule ?_)
 refine wpAny_bind ?_
 show wpAny _ _ (newExc (.type "StopIteration") [] >>= _) _ _ _
 refine wpAny_bind ?_
 simp only [newExc,newTuple]
 refine wpAny_bind (wpAny_newObj_type ?_ (by size_fits))
 refine wpAny_bind (m:=firstArgMember _ _) (wpAny_of_eq (a:=Value.none) (by first | rfl | (simp only [firstArgMember]; rfl)) ?_)
 refine wpAny_newObj_type ?_ (by size_fits)
 refine raiseNewZ (ha:=ha) (by first | exact hh | (show A.in1.handled=_; exact hh)) ?_ ?_ (Heap.get?_push_size _ rfl) rfl ?_ ?_
 ·obtain ⟨o,q,r⟩:=z
  exact ⟨o,Heap.get?_push_of_some _ (Heap.get?_push_of_some _ q),r⟩
 ·exact Nat.ne_of_lt (Nat.lt_of_lt_of_le lta (by rw [Heap.size_push]; exact Nat.le_succ _))
 ·rw [Array.size_append]; exact Nat.lt_of_lt_of_le (show 2 < 6 by decide) (Nat.le_add_right _ _)
 ·dsimp only
  generalize hfn:Obj.mapFields (fun y=>y.setIfInBounds 2 (Value.ref ha))=fn
  generalize hg:s.heap.push { cls:=Value.type "tuple",data:=Data.seq #[] }=g
  generalize hex:({ cls:=Value.type "StopIteration",data:=Data.fields (#[Value.ref s.heap.objs.size,Value.none,Value.none,Value.none,Value.bool false,Value.none] ++ ownMembersOf (Value.type "StopIteration") []) }:Obj)=ex
  have c0:ex.cls=.type "StopIteration":=by rw [← hex]
  have d0:∃ fs,ex.data=.fields fs:=⟨_,by rw [← hex]⟩
  obtain ⟨fs,d0⟩:=d0
  have p0:(g.push ex).get? g.objs.size=some ex:=Heap.get?_push_size g (Obj.isFreed_of_fields d0)
  have d1:(fn ex).data=.fields (fs.setIfInBounds 2 (.ref ha)):=by rw [← hfn]; exact Obj.data_mapFields d0 _
  have c1:(fn ex).cls=.type "StopIteration":=by rw [← hfn]; exact (Obj.cls_mapFields _ _).trans c0
  have e1:((g.push ex).update g.objs.size fn).get? g.objs.size=some (fn ex):=Heap.get?_update_self fn p0 (Obj.isFreed_of_fields d1)
  refine wpAny_bind (wpAny_isInstance (T:="StopIteration") (b:=true) ⟨fn ex,e1,c1⟩ isSubtype_stop ?_)
  refine wpAny_pure (k _ fun b o _ q=>?_)
  have q1:g.get? b=some o:=by rw [← hg]; exact Heap.get?_push_of_some _ q
  rw [Heap.get?_update_other (g.push ex) fn (Nat.ne_of_gt (Heap.lt_size q1))]
  exact Heap.get?_push_of_some ex q1
end
end PySem
namespace L2
open PySem PySem.Spec PyProof.Rows
noncomputable abbrev Key:=Sum Int Str
noncomputable def keyIs:Key→Value→Bool
 | .inl k,v=>Value.isInt k v
 | .inr x,v=>Value.isStrOf x v
noncomputable def keyH (w:World):Key→Int
 | .inl k=>hashInt k
 | .inr x=>hashStr w x
theorem keyIs_shape:∀ {k:Key} {v:Value},keyIs k v=true→(∃ i t,k=Sum.inl i∧v=Value.int i t) ∨ (∃ x t,k=Sum.inr x∧v=Value.str x t)
 | .inl i,v,h=>by
  obtain ⟨t,e⟩:=Value.isInt_shape (k:=i) (v:=v) h
  exact .inl ⟨i,t,rfl,e⟩
 | .inr x,v,h=>by
  obtain ⟨t,e⟩:=Value.isStrOf_shape (x:=x) (v:=v) h
  exact .inr ⟨x,t,rfl,e⟩
theorem key_ll (a b:Int):decide ((Sum.inl a:Key)=Sum.inl b)=(a == b):=by
 by_cases e:a=b
 ·subst e; simp
 ·have h:¬ (Sum.inl a:Key)=Sum.inl b:=fun q=>e (Sum.inl.inj q)
  rw [decide_eq_false h]
  exact (beq_eq_false_iff_ne.mpr e).symm
theorem key_rr (a b:Str):decide ((Sum.inr a:Key)=Sum.inr b)=decide (a=b):=by
 by_cases e:a=b
 ·subst e; simp
 ·have h:¬ (Sum.inr a:Key)=Sum.inr b:=fun q=>e (Sum.inr.inj q)
  rw [decide_eq_false h,decide_eq_false e]
theorem key_lr (a:Int) (b:Str):decide ((Sum.inl a:Key)=Sum.inr b)=false:=decide_eq_false (fun q=>nomatch q)
theorem key_rl (a:Str) (b:Int):decide ((Sum.inr a:Key)=Sum.inl b)=false:=decide_eq_false (fun q=>nomatch q)
noncomputable def mixKind (prog:Program) (w:World):PySem.KeyKind prog w Key where
 is:=keyIs
 hash:=keyH w
 inj:=fun v a b ha hb=>by
  rcases keyIs_shape ha with ⟨i,t,rfl,rfl⟩ | ⟨x,t,rfl,rfl⟩
  ·rcases keyIs_shape hb with ⟨j,u,rfl,e⟩ | ⟨y,u,rfl,e⟩
   ·injection e with e1 _; rw [e1]
   ·exact nomatch e
  ·rcases keyIs_shape hb with ⟨j,u,rfl,e⟩ | ⟨y,u,rfl,e⟩
   ·exact nomatch e
   ·injection e with e1 _; rw [e1]
 byValue:=fun k v h=>by
  rcases keyIs_shape h with ⟨i,t,rfl,rfl⟩ | ⟨x,t,rfl,rfl⟩ <;> rfl
 pyHash:=fun hv h=>by
  rcases keyIs_shape hv with ⟨i,t,rfl,rfl⟩ | ⟨x,t,rfl,rfl⟩
  ·exact wpAny_pyHash_int h
  ·exact wpAny_pyHash_str h
 eqBool:=fun hu hv h=>by
  rcases keyIs_shape hu with ⟨i,t,rfl,rfl⟩ | ⟨x,t,rfl,rfl⟩
  ·rcases keyIs_shape hv with ⟨j,u,rfl,rfl⟩ | ⟨y,u,rfl,rfl⟩
   ·rw [key_ll] at h; exact wpAny_eqBool_int h
   ·rw [key_lr] at h; exact SeqAt.EqAt.int_str i t y u _ _ _ _ h
  ·rcases keyIs_shape hv with ⟨j,u,rfl,rfl⟩ | ⟨y,u,rfl,rfl⟩
   ·rw [key_rl] at h; exact SeqAt.EqAt.str_int x t j u _ _ _ _ h
   ·rw [key_rr] at h; exact wpAny_eqBool_str h
 «strs»:=fun k x t v h=>by
  rcases keyIs_shape h with ⟨i,u,rfl,e⟩ | ⟨y,u,rfl,e⟩
  ·exact nomatch e
  ·injection e with e1 _
   subst e1
   cases v <;> rfl
end L2
namespace L2
open PySem PySem.Spec PyProof.Rows
inductive V where
 | non | bl (b:Bool) | int (i:Int) | str (x:Str) | byt (b:Array UInt8) | flt (b:UInt64) | ref (a:Addr) | ty (n:String)
 deriving DecidableEq
noncomputable def RelV:V→Value→Prop
 | .non,u=>u=Value.none
 | .bl b,u=>u=Value.bool b
 | .int i,u=>∃ t,u=Value.int i t
 | .str x,u=>∃ t,u=Value.str x t
 | .byt b,u=>∃ t,u=Value.bytes b t
 | .flt b,u=>∃ t,u=Value.float b t
 | .ref a,u=>u=Value.ref a
 | .ty n,u=>u=Value.type n
noncomputable abbrev Vals:List V→List Value→Prop:=Paired RelV
theorem Vals.length {xs:List V} {us:List Value} (r:Vals xs us):xs.length=us.length:=Paired.length r
theorem Vals.get:∀ {xs:List V} {us:List Value} {i:Nat} {x:V},Vals xs us→xs[i]?=some x→∃ u,us[i]?=some u∧RelV x u
 | _,_,_,_,.nil,e=>by simp at e
 | _,_,0,_,.cons r _,e=>by simp at e; subst e; exact ⟨_,rfl,r⟩
 | _,_,i + 1,x,.cons _ t,e=>by
  obtain ⟨u,h1,h2⟩:=Vals.get (i:=i) (x:=x) t (by simpa using e)
  exact ⟨u,by simpa using h1,h2⟩
theorem Vals.set {x:V} {u:Value} (r:RelV x u):∀ {xs:List V} {us:List Value} (i:Nat),Vals xs us→Vals (xs.set i x) (us.set i u)
 | _,_,_,.nil=>.nil
 | _,_,0,.cons _ t=>.cons r t
 | _,_,i + 1,.cons q t=>.cons q (Vals.set r i t)
theorem Vals.append:∀ {xs ys:List V} {us ws:List Value},Vals xs us→Vals ys ws→Vals (xs ++ ys) (us ++ ws)
 | _,_,_,_,.nil,s=>s
 | _,_,_,_,.cons r t,s=>.cons r (Vals.append t s)
noncomputable def RelO:Option V→Option Value→Prop
 | some v,some u=>RelV v u
 | none,none=>True
 | _,_=>False
noncomputable def KV {κ:Type}:List (κ × V)→List (κ × Value)→Prop:=Paired fun (p:κ × V) (q:κ × Value)=>p.1=q.1∧RelV p.2 q.2
noncomputable def kV:Key→V
 | .inl i=>.int i
 | .inr x=>.str x
set_option genInjectivity false in
inductive HO where
 /-- a list -/
 | lst (xs:List V)
 /-- a tuple (never changes) -/
 | tup (xs:List V)
 /-- a dict whose keys are ints and texts; one whose keys are tuples of ints and texts (the empty one is both) -/
 | dK (kvs:List (Key × V)) | dT (kvs:List (List Key × V))
 /-- a set of ints: its members,its size -/
 | set (S:Int→Bool) (n:Nat)
 /-- an instance of the class at C,its dict at dx,its attributes -/
 | ins (C dx:Addr) (fs:List (Str × V))
 /-- the dict of the instance at x -/
 | own (x:Addr)
 /-- the dict of an exception -/
 | xd (fs:List (Str × V))
 /-- a bound method,f of x -/
 | met (f x:Addr)
 /-- a range object lo,lo + 1,.. below hi -/
 | rng (lo hi:Int)
 /-- a thing that is known to the object (the script; a dict while a loop walks it): read,never written while it is so -/
 | frz (o:Obj) (u:HO)
 /-- a code object's table -/
 | tbl (ps:Array Value)
 /-- any other thing,by what is true of its one object (a def of one's own: SetO a S n:=HO.ext fun h=>..) -/
 | ext (φ:Heap→Prop)
noncomputable abbrev Hp:=Addr→Option HO
noncomputable def upd (H:Hp) (a:Addr) (o:HO):Hp:=fun b=>if b=a then some o else H b
theorem upd_same {H:Hp} {a:Addr} {o:HO}:upd H a o a=some o:=by unfold upd; rw [if_pos rfl]
theorem upd_ne {H:Hp} {a b:Addr} {o:HO} (h:b ≠ a):upd H a o b=H b:=by unfold upd; rw [if_neg h]
theorem ne_of_none {H:Hp} {a b:Addr} {o:HO} (h:H a=some o) (h':H b=none):a ≠ b:=by
 intro e; subst e; rw [h] at h'; cases h'
section
variable (P:Program) (w:World)
noncomputable def ObjOk (H:Hp) (h:Heap) (a:Addr):HO→Prop
 | .lst xs=>xs.length≤sizeLine∧∃ (its:List Value) (n:Nat),Vals xs its∧h.get? a=some { cls:=.type "list",data:=.seq its.toArray n }
 | .tup xs=>xs.length≤sizeLine∧∃ its:List Value,Vals xs its∧IsTup h a its.toArray
 | .dK kvs=>kvs.length≤sizeLine∧(a == sysModules)=false∧∃ vs,KV kvs vs∧h.DictOf (mixKind P w) a vs
 | .dT kvs=>kvs.length≤sizeLine∧(a == sysModules)=false∧∃ xs:List (List Key × Addr × Value),
   Paired (fun (p:List Key × V) (q:List Key × Addr × Value)=>p.1=q.1∧H q.2.1=some (.tup (p.1.map kV))∧RelV p.2 q.2.2) kvs xs∧
   ∃ o es ep,h.get? a=some o∧o.ExactDict∧o.data=.dict es ep∧es.toList=xs.map (entryOfKey (tupleKind (mixKind P w)))∧(xs.map (·.1)).Nodup
 | .set S n=>h.SetOf (intKind P w) a S n
 | .ins C dx fs=>H dx=some (.own a)∧fs.length≤1000∧dx ≠ a∧h.get? a=some (PySem.W.instObj C dx)∧
   ∃ mA,h.Ns1 dx mA∧(∀ f,RelO (fs.lookup f) (mA f))∧PySem.Within mA (fs.map (·.1))
 | .own _=>∃ o,h.get? a=some o
 | .xd fs=>∃ mA,h.Ns1 a mA∧∀ f,RelO (fs.lookup f) (mA f)
 | .rng lo hi=>∃ t u v,h.get? a=some { cls:=.type "range",data:=.fields #[.int lo t,.int hi u,.int 1 v] }
 | .frz o u=>h.get? a=some o∧ObjOk H h a u
 | .tbl ps=>h.get? a=some { cls:=.none,data:=.fields ps }
 | .met f x=>h.get? a=some (PySem.W.methodObj (.ref f) (.ref x))
 | .ext φ=>φ h∧(∃ o,h.get? a=some o)∧∀ h1 h2:Heap,φ h1→(∀ o,h1.get? a=some o→h2.get? a=some o)→φ h2
noncomputable def HOk (H:Hp) (h:Heap):Prop:=∀ a o,H a=some o→ObjOk P w H h a o
end
section
variable {P:Program} {w:World} {H H':Hp} {h h':Heap} {a:Addr} {o:HO}
theorem ObjOk.lt (x:ObjOk P w H h a o):a < h.objs.size:=by
 cases o with
 | lst xs=>obtain ⟨_,_,_,_,e⟩:=x; exact Heap.lt_size e
 | tup xs=>obtain ⟨_,_,_,p⟩:=x; exact p.lt
 | dK kvs=>obtain ⟨_,_,_,_,o,_,_,e,_⟩:=x; exact Heap.lt_size e
 | dT kvs=>obtain ⟨_,_,_,_,o,_,_,e,_⟩:=x; exact Heap.lt_size e
 | set S n=>obtain ⟨o,_,_,_,e,_⟩:=x; exact Heap.lt_size e
 | ins C dx fs=>obtain ⟨_,_,_,e,_⟩:=x; exact Heap.lt_size e
 | own y=>obtain ⟨_,e⟩:=x; exact Heap.lt_size e
 | xd fs=>obtain ⟨_,⟨_,_,_,e,_⟩,_⟩:=x; exact Heap.lt_size e
 | rng lo hi=>obtain ⟨_,_,_,e⟩:=x; exact Heap.lt_size e
 | frz ob u=>obtain ⟨e,_⟩:=x; exact Heap.lt_size e
 | tbl ps=>exact Heap.lt_size (show h.get? a=some _ from x)
 | met f y=>exact Heap.lt_size (show h.get? a=some _ from x)
 | ext φ=>obtain ⟨_,⟨_,e⟩,_⟩:=x; exact Heap.lt_size e
theorem Paired.mapP {α β:Type} {F G:α→β→Prop}:∀ {l₁:List α} {l₂:List β},Paired F l₁ l₂→(∀ a b,F a b→G a b)→Paired G l₁ l₂
 | _,_,.nil,_=>.nil
 | _,_,.cons r t,f=>.cons (f _ _ r) (Paired.mapP t f)
theorem ObjOk.stay (x:ObjOk P w H h a o) (k:∀ b u,(b=a ∨ H b=some (.own a))→h.get? b=some u→h'.get? b=some u)
  (ho:∀ b,H b=some (.own a)→H' b=some (.own a)) (ht:∀ b xs,H b=some (.tup xs)→H' b=some (.tup xs)):ObjOk P w H' h' a o:=by
 induction o with
 | lst xs=>obtain ⟨z,its,n,r,e⟩:=x; exact ⟨z,its,n,r,k _ _ (.inl rfl) e⟩
 | tup xs=>obtain ⟨z,its,r,ob,e,c⟩:=x; exact ⟨z,its,r,ob,k _ _ (.inl rfl) e,c⟩
 | dK kvs=>obtain ⟨z,y,vs,r,ob,es,ep,e,c⟩:=x; exact ⟨z,y,vs,r,ob,es,ep,k _ _ (.inl rfl) e,c⟩
 | dT kvs=>
  obtain ⟨z,y,xs,r,ob,es,ep,e,c⟩:=x
  exact ⟨z,y,xs,Paired.mapP r fun p q z=>⟨z.1,ht _ _ z.2.1,z.2.2⟩,ob,es,ep,k _ _ (.inl rfl) e,c⟩
 | set S n=>obtain ⟨ob,es,ep,t,e,c⟩:=x; exact ⟨ob,es,ep,t,k _ _ (.inl rfl) e,c⟩
 | ins C dx fs=>
  obtain ⟨d,z,ne,e,mA,⟨od,es,ep,e2,c⟩,r⟩:=x
  exact ⟨ho _ d,z,ne,k _ _ (.inl rfl) e,mA,⟨od,es,ep,k _ _ (.inr d) e2,c⟩,r⟩
 | own y=>obtain ⟨ob,e⟩:=x; exact ⟨ob,k _ _ (.inl rfl) e⟩
 | xd fs=>obtain ⟨mA,⟨od,es,ep,e,c⟩,r⟩:=x; exact ⟨mA,⟨od,es,ep,k _ _ (.inl rfl) e,c⟩,r⟩
 | rng lo hi=>obtain ⟨t,u,v,e⟩:=x; exact ⟨t,u,v,k _ _ (.inl rfl) e⟩
 | frz ob u ih=>obtain ⟨e,q⟩:=x; exact ⟨k _ _ (.inl rfl) e,ih q⟩
 | tbl ps=>
  have e:h.get? a=some { cls:=.none,data:=.fields ps }:=x
  show h'.get? a=some { cls:=.none,data:=.fields ps }
  exact k a _ (.inl rfl) e
 | met f y=>
  have e:h.get? a=some (PySem.W.methodObj (.ref f) (.ref y)):=x
  show h'.get? a=some (PySem.W.methodObj (.ref f) (.ref y))
  exact k a _ (.inl rfl) e
 | ext φ=>obtain ⟨p,⟨o,e⟩,st⟩:=x; exact ⟨st _ _ p fun o q=>k _ _ (.inl rfl) q,⟨o,k _ _ (.inl rfl) e⟩,st⟩
theorem HOk.lt (x:HOk P w H h) (e:H a=some o):a < h.objs.size:=(x a o e).lt
theorem HOk.fresh (x:HOk P w H h) (e:h.objs.size≤a):H a=none:=by
 cases q:H a with
 | none=>rfl
 | some u=>exact absurd (Nat.lt_of_lt_of_le (x.lt q) e) (Nat.lt_irrefl _)
theorem HOk.kept (x:HOk P w H h) (k:∀ b u,h.get? b=some u→h'.get? b=some u):HOk P w H h':=fun a o e=>
 (x a o e).stay (fun b u _ q=>k b u q) (fun _ q=>q) fun _ _ q=>q
theorem HOk.laid (x:HOk P w H h) (k:∀ b u,h.get? b=some u→h'.get? b=some u) (hp:h.objs.size≤a) (new:ObjOk P w (upd H a o) h' a o):HOk P w (upd H a o) h':=fun b u e=>by
 have hn:=x.fresh hp
 by_cases hb:b=a
 ·subst hb; rw [upd_same] at e; cases e; exact new
 ·rw [upd_ne hb] at e
  exact (x b u e).stay (fun c v _ q=>k c v q) (fun c q=>by rw [upd_ne (ne_of_none q hn)]; exact q) fun c xs q=>by rw [upd_ne (ne_of_none q hn)]; exact q
end
noncomputable def Rd (H:Hp) (a:Addr) (u:HO):Prop:=H a=some u ∨ ∃ o,H a=some (.frz o u)
theorem Rd.ok {P:Program} {w:World} {H:Hp} {h:Heap} {a:Addr} {u:HO} (r:Rd H a u) (x:HOk P w H h):ObjOk P w H h a u:=by
 rcases r with r | ⟨o,r⟩
 ·exact x a u r
 ·obtain ⟨_,q⟩:=x a _ r
  exact q
noncomputable def Mut:Option HO→Prop
 | some (.lst _)=>True
 | some (.dK _)=>True
 | some (.dT _)=>True
 | some (.set _ _)=>True
 | some (.ins _ _ _)=>True
 | some (.ext _)=>True
 | _=>False
section
variable {P:Program} {w:World} {H:Hp} {h h':Heap} {x e:Addr} {o':HO}
theorem HOk.write (ok:HOk P w H h) (mu:Mut (H x)) (he:e=x ∨ H e=some (.own x)) (k:∀ b u,b ≠ e→h.get? b=some u→h'.get? b=some u) (heo:∃ u,h'.get? e=some u)
  (new:ObjOk P w (upd H x o') h' x o'):HOk P w (upd H x o') h':=fun b u q=>by
 have nown:∀ c y,H c=some (.own y)→c ≠ x:=fun c y r z=>by subst z; rw [r] at mu; exact mu
 have ntup:∀ c xs,H c=some (.tup xs)→c ≠ x:=fun c xs r z=>by subst z; rw [r] at mu; exact mu
 by_cases hb:b=x
 ·subst hb; rw [upd_same] at q; cases q; exact new
 ·rw [upd_ne hb] at q
  by_cases hbe:b=e
  ·have q':H b=some (.own x):=by
    rcases he with z | z
    ·exact absurd (hbe.trans z) hb
    ·rw [hbe]; exact z
   rw [q] at q'; cases q'
   obtain ⟨v,hv⟩:=heo
   exact ⟨v,by rw [hbe]; exact hv⟩
  ·refine (ok b u q).stay (fun c v hc r=>k c v ?_ r) (fun c r=>by rw [upd_ne (nown c b r)]; exact r) fun c xs r=>by rw [upd_ne (ntup c xs r)]; exact r
   rcases hc with rfl | hc
   ·exact hbe
   ·rintro rfl
    rcases he with z | z
    ·exact nown c b hc z
    ·rw [hc] at z; cases z; exact hb rfl
end
structure Un (fs ex:List Addr) (H H':Hp) (h h':Heap):Prop where
 keep:∀ b o,h.get? b=some o→H b=none→b ∉ fs→b ∉ ex→h'.get? b=some o
 slot:∀ b o,h.get? b=some o→H b=none→b ∈ fs→b ∉ ex→∃ sl,h'.get? b=some { o with slots:=sl }
 free:∀ b o,h.get? b=some o→H b=none→b ∉ ex→H' b=none
 there:∀ b o,h.get? b=some o→b ∉ ex→∃ o',h'.get? b=some o'
 tups:∀ b xs,H b=some (.tup xs)→H' b=some (.tup xs)
 frzs:∀ b o u,H b=some (.frz o u)→H' b=some (.frz o u)
 tbls:∀ b ps,H b=some (.tbl ps)→∃ more,H' b=some (.tbl (ps ++ more))
section
variable {fs fs' ex ex':List Addr} {H H1 H2:Hp} {h h1 h2 h':Heap} {a x e:Addr} {o:HO}
theorem Un.any (u:Un fs ex H H1 h h1) {b:Addr} {ob:Obj} (q:h.get? b=some ob) (n:H b=none) (hx:b ∉ ex):∃ sl,h1.get? b=some { ob with slots:=sl }:=by
 by_cases hb:b ∈ fs
 ·exact u.slot b ob q n hb hx
 ·exact ⟨ob.slots,u.keep b ob q n hb hx⟩
theorem Un.trans (a:Un fs ex H H1 h h1) (b:Un fs ex H1 H2 h1 h2):Un fs ex H H2 h h2 where
 keep:=fun c ob q n hc hx=>b.keep c ob (a.keep c ob q n hc hx) (a.free c ob q n hx) hc hx
 slot:=fun c ob q n hc hx=>by
  obtain ⟨sl,e1⟩:=a.slot c ob q n hc hx
  obtain ⟨sl',e2⟩:=b.slot c _ e1 (a.free c ob q n hx) hc hx
  exact ⟨sl',e2⟩
 free:=fun c ob q n hx=>by
  obtain ⟨o',e1⟩:=a.there c ob q hx
  exact b.free c o' e1 (a.free c ob q n hx) hx
 there:=fun c ob q hx=>by
  obtain ⟨o',e1⟩:=a.there c ob q hx
  exact b.there c o' e1 hx
 tups:=fun c xs q=>b.tups c xs (a.tups c xs q)
 frzs:=fun c ob xs q=>b.frzs c ob xs (a.frzs c ob xs q)
 tbls:=fun c ps q=>by
  obtain ⟨m1,e1⟩:=a.tbls c ps q
  obtain ⟨m2,e2⟩:=b.tbls c _ e1
  exact ⟨m1 ++ m2,by rw [e2,Array.append_assoc]⟩
theorem Un.kept (k:∀ b u,h.get? b=some u→h'.get? b=some u):Un fs ex H H h h':=
 ⟨fun b ob q _ _ _=>k b ob q,fun b ob q _ _ _=>⟨ob.slots,k b ob q⟩,fun _ _ _ n _=>n,fun b ob q _=>⟨ob,k b ob q⟩,fun _ _ q=>q,fun _ _ _ q=>q,fun _ ps q=>⟨#[],by rw [q]; simp⟩⟩
theorem Un.refl:Un fs ex H H h h:=Un.kept fun _ _ q=>q
theorem Un.laid (k:∀ b u,h.get? b=some u→h'.get? b=some u) (hp:h.objs.size≤a) (hn:H a=none):Un fs ex H (upd H a o) h h' where
 keep:=fun b u q _ _ _=>k b u q
 slot:=fun b u q _ _ _=>⟨u.slots,k b u q⟩
 free:=fun b u q n _=>by rw [upd_ne (Nat.ne_of_lt (Nat.lt_of_lt_of_le (Heap.lt_size q) hp))]; exact n
 there:=fun b u q _=>⟨u,k b u q⟩
 tups:=fun b xs q=>by rw [upd_ne (ne_of_none q hn)]; exact q
 frzs:=fun b u xs q=>by rw [upd_ne (ne_of_none q hn)]; exact q
 tbls:=fun b ps q=>⟨#[],by rw [upd_ne (ne_of_none q hn),q]; simp⟩
theorem Un.write (mu:Mut (H x)) (he:e=x ∨ H e=some (.own x)) (k:∀ b u,b ≠ e→h.get? b=some u→h'.get? b=some u) (heo:∃ u,h'.get? e=some u):Un fs ex H (upd H x o) h h':=by
 have hx:∀ b,H b=none→b ≠ x:=fun b n z=>by subst z; rw [n] at mu; exact mu
 have hb:∀ b,H b=none→b ≠ e:=fun b n z=>by
  subst z
  rcases he with r | r
  ·exact hx b n r
  ·rw [n] at r; cases r
 have hm:∀ b u,H b=some u→¬ Mut (some u)→b ≠ x:=fun b u q nm z=>by subst z; rw [q] at mu; exact nm mu
 refine ⟨fun b u q n _ _=>k b u (hb b n) q,fun b u q n _ _=>⟨u.slots,k b u (hb b n) q⟩,fun b u q n _=>by rw [upd_ne (hx b n)]; exact n,fun b u q _=>?_,
  fun b xs q=>by rw [upd_ne (hm b _ q fun z=>z)]; exact q,fun b u xs q=>by rw [upd_ne (hm b _ q fun z=>z)]; exact q,fun b ps q=>⟨#[],by rw [upd_ne (hm b _ q fun z=>z),q]; simp⟩⟩
 by_cases hbe:b=e
 ·subst hbe; exact heo
 ·exact ⟨u,k b u hbe q⟩
end
noncomputable def trk (h:Heap) (H:Hp):List Addr:=(List.range h.objs.size).filter fun a=>(H a).isSome
noncomputable def hidT (h:Heap) (H:Hp):Heap:=PySem.W.hideAll h (trk h H)
theorem hidT_size (h:Heap) (H:Hp):(hidT h H).objs.size=h.objs.size:=PySem.W.hideAll_size _ _
theorem hidT_get {h:Heap} {H:Hp} {b:Addr} {o:Obj} (e:h.get? b=some o) (n:H b=none):(hidT h H).get? b=some o:=
 PySem.W.hideAll_get _ e fun hm=>by
  have q:(H b).isSome=true:=(List.mem_filter.mp hm).2
  rw [n] at q; simp at q
theorem of_hidT {h:Heap} {H:Hp} {b:Addr} {o:Obj} (e:(hidT h H).get? b=some o):h.get? b=some o∧H b=none:=by
 have e':h.get? b=some o:=PySem.W.of_hideAll (trk h H) e
 refine ⟨e',?_⟩
 cases q:H b with
 | none=>rfl
 | some x=>
  have hm:b ∈ trk h H:=List.mem_filter.mpr ⟨List.mem_range.mpr (Heap.lt_size e'),by simp [q]⟩
  have z:(hidT h H).get? b=none:=PySem.W.hideAll_none (trk h H) hm
  rw [z] at e; cases e
end L2
namespace L2
open PySem PySem.Spec PyProof.Rows
structure Mod (K:PySem.W.Frag) (mg:Str→Option Value) (base:Heap):Prop where
 kin:K.In base
 glob:base.Ns mainGlobals mg
 blt:∃ mb,base.Ns builtinsNs mb∧∀ x:Str,x ≠ "__name__"→mb x=bootBuiltins x
 nolimit:base.NoLimit
structure Cx where
 prog:Program
 w:World
 K:PySem.W.Frag
 mg:Str→Option Value
 base:Heap
 A:Around
 N:List Str
 s₀:Shared
 H₀:Hp
 env:Env
 outer:List Env
 stack:List Env
 ex:List Addr
 fn:Str→Bool
 calm:Bool
 pn:List (Addr × Obj)
 xe:Value→Shared→Prop
noncomputable def frs (l:List Env):List Addr:=l.filterMap (·.frame)
noncomputable abbrev Cx.fs (X:Cx):List Addr:=frs X.outer
noncomputable def Vis (sc:Scope) (x:Str):Prop:=sc.names.lookup x=some .local ∨ sc.names.lookup x=some .cell ∨ sc.names.lookup x=some .free
noncomputable def Loc (sc:Scope) (x:Str):Prop:=sc.names.lookup x=some .local ∨ sc.names.lookup x=some .cell
noncomputable def Look (env:Env) (h:Heap) (m:Str→Option Value) (x:Str) (u:Value):Prop:=
 (env.kindOf x=some .local∧m x=some u) ∨ ((env.kindOf x=some .cell ∨ env.kindOf x=some .free)∧∃ c,env.cells.lookup x=some c∧h.IsCell c (some u))
structure Cx.Ok (X:Cx):Prop where
 mod:Mod X.K X.mg X.base
 kind:X.env.scope.kind=.function
 glob:X.env.globals=mainGlobals
 blt:X.env.builtins=builtinsNs
 above:X.s₀.heap.objs.size≤X.env.locals
 inj:∀ x y c,X.env.cells.lookup x=some c→X.env.cells.lookup y=some c→x=y
 has:∀ x,(X.env.kindOf x=some .cell ∨ X.env.kindOf x=some .free)→∃ c,X.env.cells.lookup x=some c
 cab:∀ x c,X.fn x=true→X.env.cells.lookup x=some c→X.s₀.heap.objs.size≤c
 hd:X.calm=true→X.A.handled=none
 frames:X.A.frames=some X.stack
 stk:X.stack=X.outer ∨ (X.stack=X.env :: X.outer∧X.env.frame=some X.env.locals)
 exf:∀ b ∈ X.ex,b ≠ X.env.locals∧∀ x c,X.env.cells.lookup x=some c→c ≠ b
 bs:∀ b o,X.base.get? b=some o→X.s₀.heap.get? b=some o∧X.H₀ b=none
 bsz:X.base.objs.size≤X.s₀.heap.objs.size
 noex:∀ b o,X.base.get? b=some o→b ∉ X.ex
 exfs:∀ b ∈ X.ex,b ∉ X.fs
 funs:X.s₀.heap.FunFrames X.base X.outer
 frf:∀ b ∈ X.fs,X.H₀ b=none
structure Inv (X:Cx) (pins:List (Addr × Obj)) (σ:List (Option V)) (H:Hp) (s:Shared):Prop where
 ok:X.Ok
 os:s.os=X.s₀.os
 bare:AllBare s.gens
 base:Un X.fs X.ex X.H₀ H X.s₀.heap s.heap
 loc:∃ m,s.heap.Ns X.env.locals m∧∀ (i:Nat) (x:Str) (v:V),X.N[i]?=some x→σ[i]?=some (some v)→Vis X.env.scope x→∃ u,RelV v u∧Look X.env s.heap m x u
 cell:∀ x c,X.env.cells.lookup x=some c→∃ v,s.heap.IsCell c v
 free:H X.env.locals=none
 freeC:∀ x c,X.env.cells.lookup x=some c→H c=none
 pin:∀ p ∈ X.pn ++ pins,s.heap.get? p.1=some p.2∧H p.1=none∧p.1 ≠ X.env.locals∧p.1 ∉ X.fs∧∀ v,p.2.data ≠ .cell v
 hok:HOk X.prog X.w H s.heap
 len:σ.length=X.N.length
section
variable {X:Cx} {pins:List (Addr × Obj)} {σ:List (Option V)} {H H':Hp} {s:Shared} {h':Heap}
theorem Cx.Ok.nofr (ok:X.Ok) {b:Addr} {o:Obj} (e:X.base.get? b=some o):b ∉ X.fs:=fun hb=>by
 have:=(ok.funs.mem hb).1
 rw [e] at this; cases this
theorem Inv.bs (I:Inv X pins σ H s):∀ b o,X.base.get? b=some o→s.heap.get? b=some o∧H b=none:=fun b o e=>
 ⟨I.base.keep b o (I.ok.bs b o e).1 (I.ok.bs b o e).2 (I.ok.nofr e) (I.ok.noex b o e),I.base.free b o (I.ok.bs b o e).1 (I.ok.bs b o e).2 (I.ok.noex b o e)⟩
theorem Inv.bk (I:Inv X pins σ H s):∀ b o,X.base.get? b=some o→s.heap.get? b=some o:=fun b o e=>(I.bs b o e).1
theorem Inv.mod (I:Inv X pins σ H s):Mod X.K X.mg X.base:=I.ok.mod
theorem Inv.kIn (I:Inv X pins σ H s):X.K.In s.heap:=I.ok.mod.kin.keeps I.bk
theorem Inv.lt (I:Inv X pins σ H s):X.env.locals < s.heap.objs.size:=let ⟨_,hn,_⟩:=I.loc; hn.lt
theorem Inv.sz (I:Inv X pins σ H s):X.s₀.heap.objs.size≤s.heap.objs.size:=Nat.le_trans I.ok.above (Nat.le_of_lt I.lt)
theorem Inv.nofs (I:Inv X pins σ H s) {a:Addr} (h:s.heap.objs.size≤a):a ∉ X.fs:=fun hb=>by
 obtain ⟨_,o,ho,_⟩:=I.ok.funs.mem hb
 exact absurd (Nat.lt_of_lt_of_le (Heap.lt_size ho) (Nat.le_trans I.sz h)) (Nat.lt_irrefl _)
theorem Inv.cne (I:Inv X pins σ H s):∀ x c,X.env.cells.lookup x=some c→c ≠ X.env.locals:=fun x c e z=>by
 obtain ⟨v,o,ho,hd⟩:=I.cell x c e
 obtain ⟨m,⟨o',es,ep,ho',hd',_⟩,_⟩:=I.loc
 rw [z,ho'] at ho; cases ho; rw [hd'] at hd; cases hd
theorem Inv.funs (I:Inv X pins σ H s):s.heap.FunFrames X.base X.outer:=by
 have all:∀ (l:List Env),(∀ b ∈ frs l,b ∈ X.fs)→X.s₀.heap.FunFrames X.base l→s.heap.FunFrames X.base l:=by
  intro l
  induction l with
  | nil=>intro _ _; trivial
  | cons env r ih=>
   intro hs hl
   obtain ⟨hk,⟨L,o,hf,hn,ho,hd⟩,hr⟩:=hl
   have hL:L ∈ X.fs:=hs L (by unfold frs; rw [List.filterMap_cons,hf]; exact List.mem_cons_self)
   obtain ⟨sl,e⟩:=I.base.slot L o ho (I.ok.frf L hL) hL fun z=>I.ok.exfs L z hL
   exact ⟨hk,⟨L,_,hf,hn,e,hd⟩,ih (fun b hb=>hs b (by unfold frs; rw [List.filterMap_cons,hf]; exact List.mem_cons_of_mem _ hb)) hr⟩
 exact all X.outer (fun _ hb=>hb) I.ok.funs
theorem Inv.stack (I:Inv X pins σ H s):s.heap.FunFrames X.base X.stack:=by
 rcases I.ok.stk with e | ⟨e,hf⟩
 ·rw [e]; exact I.funs
 ·rw [e]
  obtain ⟨m,hn,_⟩:=I.loc
  refine .cons (by rw [I.ok.kind]; decide) hf hn ?_ I.funs
  exact Heap.get?_none_of_le (Nat.le_trans I.ok.bsz I.ok.above)
theorem Inv.stkSub (I:Inv X pins σ H s):∀ b ∈ frs X.stack,b ∈ X.env.locals :: X.fs:=fun b hb=>by
 rcases I.ok.stk with e | ⟨e,hf⟩
 ·rw [e] at hb; exact List.mem_cons_of_mem _ hb
 ·rw [e] at hb
  unfold frs at hb
  rw [List.filterMap_cons,hf] at hb
  exact hb
theorem Inv.stkFree (I:Inv X pins σ H s):∀ b ∈ frs X.stack,H b=none:=fun b hb=>by
 rcases List.mem_cons.mp (I.stkSub b hb) with e | hb
 ·rw [e]; exact I.free
 ·obtain ⟨_,o,ho,_⟩:=I.ok.funs.mem hb
  exact I.base.free b o ho (I.ok.frf b hb) fun z=>I.ok.exfs b z hb
theorem Inv.step {g':Array GenState} {t':Nat} {d':Drawn} {ch:List Addr} (I:Inv X pins σ H s)
  (hch:∀ b ∈ ch,(b ∈ X.ex ∨ X.s₀.heap.objs.size≤b)∧b ≠ X.env.locals∧(∀ x c,X.env.cells.lookup x=some c→c ≠ b)∧∀ p ∈ X.pn ++ pins,p.1 ≠ b)
  (keep:∀ b o,b ≠ X.env.locals→b ∉ X.fs→b ∉ ch→s.heap.get? b=some o→H b=none→h'.get? b=some o)
  (slot:∀ b o,b ≠ X.env.locals→b ∈ X.fs→b ∉ ch→s.heap.get? b=some o→H b=none→∃ sl,h'.get? b=some { o with slots:=sl }) (free:∀ b o,b ∉ ch→s.heap.get? b=some o→H b=none→H' b=none)
  (there:∀ b o,b ∉ ch→s.heap.get? b=some o→∃ o',h'.get? b=some o')
  (tups:∀ b xs,H b=some (.tup xs)→H' b=some (.tup xs)) (frzs:∀ b o u,H b=some (.frz o u)→H' b=some (.frz o u)) (tbls:∀ b ps,H b=some (.tbl ps)→∃ more,H' b=some (.tbl (ps ++ more)))
  (ns:∀ m,s.heap.Ns X.env.locals m→h'.Ns X.env.locals m) (hok:HOk X.prog X.w H' h') (hg:AllBare g'):
  Inv X pins σ H' { s with heap:=h',gens:=g',drawn:=d',toks:=t' }:=by
 have neL:∀ b o,X.s₀.heap.get? b=some o→b ≠ X.env.locals:=fun b o e=>Nat.ne_of_lt (Nat.lt_of_lt_of_le (Heap.lt_size e) I.ok.above)
 have neC:∀ b o,X.s₀.heap.get? b=some o→b ∉ X.ex→b ∉ ch:=fun b o e hx hb=>by
  rcases (hch b hb).1 with z | z
  ·exact hx z
  ·exact absurd (Nat.lt_of_lt_of_le (Heap.lt_size e) z) (Nat.lt_irrefl _)
 have cellK:∀ x c,X.env.cells.lookup x=some c→∀ v,s.heap.IsCell c v→h'.IsCell c v:=fun x c e v ⟨o,ho,hd⟩=>by
  have nch:c ∉ ch:=fun z=>(hch c z).2.2.1 x c e rfl
  by_cases hc:c ∈ X.fs
  ·obtain ⟨sl,q⟩:=slot c o (I.cne x c e) hc nch ho (I.freeC x c e)
   exact ⟨_,q,hd⟩
  ·exact ⟨o,keep c o (I.cne x c e) hc nch ho (I.freeC x c e),hd⟩
 refine ⟨I.ok,I.os,hg,⟨fun b o e n hb hx=>?_,fun b o e n hb hx=>?_,fun b o e n hx=>?_,fun b o e hx=>?_,fun b xs e=>tups b xs (I.base.tups b xs e),fun b o xs e=>frzs b o xs (I.base.frzs b o xs e),fun b ps e=>?_⟩,?_,fun x c e=>?_,?_,fun x c e=>?_,fun p hp=>?_,hok,I.len⟩
 ·exact keep b o (neL b o e) hb (neC b o e hx) (I.base.keep b o e n hb hx) (I.base.free b o e n hx)
 ·obtain ⟨sl,e1⟩:=I.base.slot b o e n hb hx
  obtain ⟨sl',e2⟩:=slot b _ (neL b o e) hb (neC b o e hx) e1 (I.base.free b o e n hx)
  exact ⟨sl',e2⟩
 ·obtain ⟨o',e1⟩:=I.base.there b o e hx
  exact free b o' (neC b o e hx) e1 (I.base.free b o e n hx)
 ·obtain ⟨o',e1⟩:=I.base.there b o e hx
  exact there b o' (neC b o e hx) e1
 ·obtain ⟨m1,e1⟩:=I.base.tbls b ps e
  obtain ⟨m2,e2⟩:=tbls b _ e1
  exact ⟨m1 ++ m2,by rw [e2,Array.append_assoc]⟩
 ·obtain ⟨m,hn,hl⟩:=I.loc
  refine ⟨m,ns m hn,fun i x v e1 e2 e3=>?_⟩
  obtain ⟨u,r,l⟩:=hl i x v e1 e2 e3
  refine ⟨u,r,?_⟩
  rcases l with l | ⟨k,c,e,z⟩
  ·exact .inl l
  ·exact .inr ⟨k,c,e,cellK x c e _ z⟩
 ·obtain ⟨v,z⟩:=I.cell x c e
  exact ⟨v,cellK x c e v z⟩
 ·obtain ⟨m,⟨o,_,_,ho,_⟩,_⟩:=I.loc
  exact free _ o (fun z=>(hch _ z).2.1 rfl) ho I.free
 ·obtain ⟨v,o,ho,hd⟩:=I.cell x c e
  exact free c o (fun z=>(hch c z).2.2.1 x c e rfl) ho (I.freeC x c e)
 ·obtain ⟨e,n,ne,nf,d⟩:=I.pin p hp
  have nch:p.1 ∉ ch:=fun z=>(hch p.1 z).2.2.2 p hp rfl
  exact ⟨keep p.1 p.2 ne nf nch e n,free p.1 p.2 nch e n,ne,nf,d⟩
theorem Inv.un {t':Nat} (I:Inv X pins σ H s) (u:Un X.fs [] H H' s.heap h') (hok:HOk X.prog X.w H' h'):Inv X pins σ H' { s with heap:=h',toks:=t' }:=by
 obtain ⟨m,⟨o,es,ep,ho,r⟩,_⟩:=id I.loc
 obtain ⟨sl,hL⟩:=u.any ho I.free (by simp)
 exact I.step (g':=s.gens) (d':=s.drawn) (ch:=[]) (fun _ z=>nomatch z) (fun b o _ hb _ e n=>u.keep b o e n hb (by simp)) (fun b o _ hb _ e n=>u.slot b o e n hb (by simp)) (fun b o _ e n=>u.free b o e n (by simp)) (fun b o _ e=>u.there b o e (by simp)) u.tups u.frzs u.tbls (fun m' hm=>by
  obtain ⟨o',es',ep',ho',r'⟩:=hm
  rw [ho] at ho'; cases ho'
  exact ⟨_,es',ep',hL,r'⟩) hok I.bare
theorem Inv.call {g':Array GenState} {t':Nat} {d':Drawn} {ch:List Addr} (I:Inv X pins σ H s) (u:Un (frs X.stack) ch H H' s.heap h') (hok:HOk X.prog X.w H' h') (hg:AllBare g')
  (hch:∀ b ∈ ch,(b ∈ X.ex ∨ X.s₀.heap.objs.size≤b)∧b ≠ X.env.locals∧(∀ x c,X.env.cells.lookup x=some c→c ≠ b)∧∀ p ∈ X.pn ++ pins,p.1 ≠ b):
  Inv X pins σ H' { s with heap:=h',gens:=g',drawn:=d',toks:=t' }:=by
 obtain ⟨m,⟨o,es,ep,ho,r⟩,_⟩:=id I.loc
 obtain ⟨sl,hL⟩:=u.any ho I.free fun z=>(hch _ z).2.1 rfl
 exact I.step (ch:=ch) hch (fun b o hL hb hc e n=>u.keep b o e n (fun z=>(List.mem_cons.mp (I.stkSub b z)).elim hL hb) hc) (fun b o _ _ hc e n=>u.any e n hc) (fun b o hc e n=>u.free b o e n hc) (fun b o hc e=>u.there b o e hc) u.tups u.frzs u.tbls (fun m' hm=>by
  obtain ⟨o',es',ep',ho',r'⟩:=hm
  rw [ho] at ho'; cases ho'
  exact ⟨_,es',ep',hL,r'⟩) hok hg
theorem Inv.turned {t':Nat} {it:Addr} (I:Inv X pins σ H s) (k:∀ b o,b ≠ it→s.heap.get? b=some o→h'.get? b=some o) (hn:H it=none) (hL:it ≠ X.env.locals)
  (h1:it ∈ X.ex ∨ X.s₀.heap.objs.size≤it) (h2:∀ x c,X.env.cells.lookup x=some c→c ≠ it) (h3:∀ p ∈ X.pn ++ pins,p.1 ≠ it):Inv X pins σ H { s with heap:=h',toks:=t' }:=by
 have nit:∀ b u,H b=some u→b ≠ it:=fun b u e z=>by rw [z,hn] at e; cases e
 refine I.step (g':=s.gens) (d':=s.drawn) (ch:=[it]) (fun b hb=>?_) (fun b o _ _ hc e _=>k b o (fun z=>hc (by simp [z])) e) (fun b o _ _ hc e _=>⟨o.slots,k b o (fun z=>hc (by simp [z])) e⟩) (fun _ _ _ _ n=>n)
  (fun b o hc e=>⟨o,k b o (fun z=>hc (by simp [z])) e⟩) (fun _ _ e=>e) (fun _ _ _ e=>e) (fun b ps e=>⟨#[],by rw [e]; simp⟩) (fun m hm=>?_) (fun b u e=>?_) I.bare
 ·have e:b=it:=by simpa using hb
  subst e
  exact ⟨h1,hL,h2,h3⟩
 ·obtain ⟨o,es,ep,ho,r⟩:=hm
  exact ⟨o,es,ep,k _ o (Ne.symm hL) ho,r⟩
 ·refine (I.hok b u e).stay (fun c v hc q=>k c v ?_ q) (fun _ q=>q) fun _ _ q=>q
  rcases hc with z | z
  ·rw [z]; exact nit b u e
  ·exact nit c _ z
theorem Inv.tok (I:Inv X pins σ H s) (t:Nat):Inv X pins σ H { s with toks:=t }:=I.un (h':=s.heap) (t':=t) Un.refl I.hok
theorem Inv.kept {t':Nat} (I:Inv X pins σ H s) (k:∀ b u,s.heap.get? b=some u→h'.get? b=some u):Inv X pins σ H { s with heap:=h',toks:=t' }:=I.un (Un.kept k) (I.hok.kept k)
theorem Inv.laid {a:Addr} {o:HO} {t':Nat} (I:Inv X pins σ H s) (k:∀ b u,s.heap.get? b=some u→h'.get? b=some u) (hp:s.heap.objs.size≤a) (new:ObjOk X.prog X.w (upd H a o) h' a o):
  Inv X pins σ (upd H a o) { s with heap:=h',toks:=t' }:=I.un (Un.laid k hp (I.hok.fresh hp)) (I.hok.laid k hp new)
theorem Inv.write {x e:Addr} {o:HO} {t':Nat} (I:Inv X pins σ H s) (mu:Mut (H x)) (he:e=x ∨ H e=some (.own x)) (k:∀ b u,b ≠ e→s.heap.get? b=some u→h'.get? b=some u) (heo:∃ u,h'.get? e=some u)
  (new:ObjOk X.prog X.w (upd H x o) h' x o):Inv X pins σ (upd H x o) { s with heap:=h',toks:=t' }:=I.un (Un.write mu he k heo) (I.hok.write mu he k heo new)
theorem Inv.pins_of {pins':List (Addr × Obj)} (I:Inv X pins σ H s) (h:∀ p ∈ pins',s.heap.get? p.1=some p.2∧H p.1=none∧p.1 ≠ X.env.locals∧p.1 ∉ X.fs∧∀ v,p.2.data ≠ .cell v):Inv X pins' σ H s:=
 ⟨I.ok,I.os,I.bare,I.base,I.loc,I.cell,I.free,I.freeC,fun p hp=>(List.mem_append.mp hp).elim (fun z=>I.pin p (List.mem_append_left _ z)) (h p),I.hok,I.len⟩
theorem nodup_ix {N:List Str} (hN:N.Nodup) {i j:Nat} {x:Str} (a:N[i]?=some x) (b:N[j]?=some x):i=j:=by
 obtain ⟨h1,e1⟩:=List.getElem?_eq_some_iff.mp a
 obtain ⟨h2,e2⟩:=List.getElem?_eq_some_iff.mp b
 exact (List.getElem_inj hN).mp (e1.trans e2.symm)
theorem store_ok2 {M:Model} {A:Around} {E:Value→Shared→Prop} {i:Nat} {x:Str} {v:V} {u:Value} {Q:Unit→Shared→Prop} (I:Inv X pins σ H s) (hN:X.N.Nodup) (hi:X.N[i]?=some x) (hx:Loc X.env.scope x) (r:RelV v u)
  (h:∀ s',Inv X pins (σ.set i (some v)) H s'→(∃ a,Heap.SameBut a s.heap s'.heap∧(a=X.env.locals ∨ X.env.cells.lookup x=some a))→Q () s') (hf:X.fn x=true ∨ X.env.scope.names.lookup x=some .local):wpAny M A (storeName X.env x u) Q E s:=by
 obtain ⟨m,hn,hl⟩:=id I.loc
 have hcls:(X.env.scope.kind == .class || (X.env.scope.kind == .module && X.env.locals != X.env.globals))=false:=by rw [I.ok.kind]; rfl
 have hiσ:i < σ.length:=by rw [I.len]; exact (List.getElem?_eq_some_iff.mp hi).1
 have cne:=I.cne
 have tracked:∀ {a:Addr} {h':Heap},(∃ o,s.heap.get? a=some o∧H a=none)→Heap.SameBut a s.heap h'→HOk X.prog X.w H h':=fun {a h'} ha hs b ob e=>by
  obtain ⟨_,_,hfree⟩:=ha
  refine (I.hok b ob e).stay (fun c w' hc q=>(hs.2 c ?_).trans q) (fun _ q=>q) fun _ _ q=>q
  rintro rfl
  rcases hc with rfl | hc
  ·rw [hfree] at e; cases e
  ·rw [hfree] at hc; cases hc
 rcases hx with hk | hk
 ·refine wpAny_storeName_local hk hn (fun h' hn' hs=>?_) hcls
  obtain ⟨oL,_,_,hoL,_⟩:=id hn
  refine h _ ⟨I.ok,I.os,I.bare,⟨fun b o e n hb hx=>?_,fun b o e n hb hx=>?_,I.base.free,fun b o e hx=>?_,I.base.tups,I.base.frzs,I.base.tbls⟩,⟨_,hn',fun j y v' e1 e2 e3=>?_⟩,fun y c e=>?_,I.free,I.freeC,fun p hp=>?_,tracked ⟨oL,hoL,I.free⟩ hs,by simpa using I.len⟩ ⟨_,hs,.inl rfl⟩
  ·exact (hs.2 b (Nat.ne_of_lt (Nat.lt_of_lt_of_le (Heap.lt_size e) I.ok.above))).trans (I.base.keep b o e n hb hx)
  ·obtain ⟨sl,e1⟩:=I.base.slot b o e n hb hx
   exact ⟨sl,(hs.2 b (Nat.ne_of_lt (Nat.lt_of_lt_of_le (Heap.lt_size e) I.ok.above))).trans e1⟩
  ·obtain ⟨o',e1⟩:=I.base.there b o e hx
   exact ⟨o',(hs.2 b (Nat.ne_of_lt (Nat.lt_of_lt_of_le (Heap.lt_size e) I.ok.above))).trans e1⟩
  ·by_cases hj:j=i
   ·subst hj
    rw [hi] at e1; cases e1
    rw [List.getElem?_set_self hiσ] at e2
    cases e2
    exact ⟨u,r,.inl ⟨hk,by simp⟩⟩
   ·rw [List.getElem?_set_ne (Ne.symm hj)] at e2
    obtain ⟨u',r',q⟩:=hl j y v' e1 e2 e3
    refine ⟨u',r',?_⟩
    rcases q with ⟨k,e⟩ | ⟨k,c,e,z⟩
    ·refine .inl ⟨k,?_⟩
     have:y ≠ x:=fun e=>hj (nodup_ix hN e1 (e ▸ hi))
     simp [this,e]
    ·exact .inr ⟨k,c,e,z.sameBut hs (cne y c e)⟩
  ·obtain ⟨w',z⟩:=I.cell y c e
   exact ⟨w',z.sameBut hs (cne y c e)⟩
  ·obtain ⟨e,n,ne,nf,d⟩:=I.pin p hp
   exact ⟨(hs.2 p.1 ne).trans e,n,ne,nf,d⟩
 ·have hfn:X.fn x=true:=by
   rcases hf with z | z
   ·exact z
   ·rw [z] at hk; cases hk
  obtain ⟨c,hc⟩:=I.ok.has x (.inl hk)
  obtain ⟨w',z⟩:=I.cell x c hc
  refine wpAny_storeName_cell I.ok.kind hk hc z (fun h' hc' hs=>?_)
  obtain ⟨oc,hoc,hocd⟩:=id z
  refine h { s with heap:=h' } ⟨I.ok,I.os,I.bare,⟨fun b o e n hb hx=>?_,fun b o e n hb hx=>?_,I.base.free,fun b o e hx=>?_,I.base.tups,I.base.frzs,I.base.tbls⟩,⟨m,hn.sameBut hs (Ne.symm (cne x c hc)),fun j y v' e1 e2 e3=>?_⟩,fun y c' e=>?_,I.free,I.freeC,fun p hp=>?_,tracked ⟨oc,hoc,I.freeC x c hc⟩ hs,by simpa using I.len⟩ ⟨c,hs,.inr hc⟩
  ·exact (hs.2 b (Nat.ne_of_lt (Nat.lt_of_lt_of_le (Heap.lt_size e) (I.ok.cab x c hfn hc)))).trans (I.base.keep b o e n hb hx)
  ·obtain ⟨sl,e1⟩:=I.base.slot b o e n hb hx
   exact ⟨sl,(hs.2 b (Nat.ne_of_lt (Nat.lt_of_lt_of_le (Heap.lt_size e) (I.ok.cab x c hfn hc)))).trans e1⟩
  ·obtain ⟨o',e1⟩:=I.base.there b o e hx
   exact ⟨o',(hs.2 b (Nat.ne_of_lt (Nat.lt_of_lt_of_le (Heap.lt_size e) (I.ok.cab x c hfn hc)))).trans e1⟩
  ·by_cases hj:j=i
   ·subst hj
    rw [hi] at e1; cases e1
    rw [List.getElem?_set_self hiσ] at e2
    cases e2
    exact ⟨u,r,.inr ⟨.inl hk,c,hc,hc'⟩⟩
   ·rw [List.getElem?_set_ne (Ne.symm hj)] at e2
    obtain ⟨u',r',q⟩:=hl j y v' e1 e2 e3
    refine ⟨u',r',?_⟩
    rcases q with q | ⟨k,c',e,z'⟩
    ·exact .inl q
    ·refine .inr ⟨k,c',e,z'.sameBut hs ?_⟩
     rintro rfl
     exact hj (nodup_ix hN e1 (I.ok.inj _ _ _ e hc ▸ hi))
  ·by_cases hcc:c'=c
   ·subst hcc; exact ⟨_,hc'⟩
   ·obtain ⟨w2,z2⟩:=I.cell y c' e
    exact ⟨w2,z2.sameBut hs hcc⟩
  ·obtain ⟨e,n,ne,nf,d⟩:=I.pin p hp
   refine ⟨(hs.2 p.1 ?_).trans e,n,ne,nf,d⟩
   intro q
   rw [q,hoc] at e
   have q':oc=p.2:=Option.some.inj e
   exact d w' (by rw [← q']; exact hocd)
theorem store_ok {M:Model} {A:Around} {E:Value→Shared→Prop} {i:Nat} {x:Str} {v:V} {u:Value} {Q:Unit→Shared→Prop} (I:Inv X pins σ H s) (hN:X.N.Nodup) (hi:X.N[i]?=some x) (hx:Loc X.env.scope x) (r:RelV v u)
  (h:∀ s',Inv X pins (σ.set i (some v)) H s'→Q () s') (hf:X.fn x=true ∨ X.env.scope.names.lookup x=some .local):wpAny M A (storeName X.env x u) Q E s:=
 store_ok2 I hN hi hx r (fun s' I' _=>h s' I') hf
theorem Inv.call' {s':Shared} {ch:List Addr} (I:Inv X pins σ H s) (ho:s'.os=s.os) (u:Un (frs X.stack) ch H H' s.heap s'.heap) (hok:HOk X.prog X.w H' s'.heap) (hg:AllBare s'.gens)
  (hch:∀ b ∈ ch,(b ∈ X.ex ∨ X.s₀.heap.objs.size≤b)∧b ≠ X.env.locals∧(∀ x c,X.env.cells.lookup x=some c→c ≠ b)∧∀ p ∈ X.pn ++ pins,p.1 ≠ b):Inv X pins σ H' s':=by
 obtain ⟨h',g',d',t',o'⟩:=s'
 have e:o'=s.os:=ho
 subst e
 exact I.call (g':=g') (t':=t') (d':=d') u hok hg hch
end
noncomputable abbrev XK:=Value→Option Addr→Hp→Prop
noncomputable abbrev St:=List (Option V)
noncomputable abbrev VK:=V→Hp→Prop
noncomputable abbrev TE:=St→Hp→VK→Prop
noncomputable abbrev TT:=St→Hp→(Bool→Hp→Prop)→Prop
noncomputable abbrev TA:=St→Hp→(List V→Hp→Prop)→Prop
set_option genInjectivity false in
structure Ends where
 nx:St→Hp→Prop
 rt:VK
 bk:St→Hp→Prop:=fun _ _=>False
 ct:St→Hp→Prop:=fun _ _=>False
noncomputable abbrev TS:=Ends→St→Hp→Prop
noncomputable def EP (X:Cx) (pins:List (Addr × Obj)) (σ:St) (Q:VK) (u:Value) (s':Shared):Prop:=∃ v H',Inv X pins σ H' s'∧RelV v u∧Q v H'
noncomputable def TP (X:Cx) (pins:List (Addr × Obj)) (σ:St) (Q:Bool→Hp→Prop) (b:Bool) (s':Shared):Prop:=∃ H',Inv X pins σ H' s'∧Q b H'
noncomputable def AP (X:Cx) (pins:List (Addr × Obj)) (σ:St) (Q:List V→Hp→Prop) (us:List Value) (s':Shared):Prop:=∃ vs H',Inv X pins σ H' s'∧Vals vs us∧Q vs H'
noncomputable def SP (X:Cx) (pins:List (Addr × Obj)) (D:Ends) (f:Flow) (s':Shared):Prop:=
 match f with
 | .next=>∃ σ' H',Inv X pins σ' H' s'∧D.nx σ' H'
 | .brk=>∃ σ' H',Inv X pins σ' H' s'∧D.bk σ' H'
 | .cont=>∃ σ' H',Inv X pins σ' H' s'∧D.ct σ' H'
 | .ret u=>∃ v σ' H',Inv X pins σ' H' s'∧RelV v u∧D.rt v H'
noncomputable def PE (X:Cx) (e:Expr) (t:TE):Prop:=
 ∀ (pins:List (Addr × Obj)) (s:Shared) (σ:St) (H:Hp) (Q:VK),Inv X pins σ H s→t σ H Q→wpAny (model X.prog X.w) X.A (eval e X.env) (EP X pins σ Q) X.xe s
noncomputable def PT (X:Cx) (e:Expr) (t:TT):Prop:=
 ∀ (pins:List (Addr × Obj)) (s:Shared) (σ:St) (H:Hp) (Q:Bool→Hp→Prop),Inv X pins σ H s→t σ H Q→wpAny (model X.prog X.w) X.A (isTrue e X.env (eval e X.env)) (TP X pins σ Q) X.xe s
noncomputable def PW (X:Cx) (e:Expr) (t:TT):Prop:=
 ∀ (whole:Sem Value) (pins:List (Addr × Obj)) (s:Shared) (σ:St) (H:Hp) (Q:Bool→Hp→Prop),Inv X pins σ H s→t σ H Q→wpAny (model X.prog X.w) X.A (isTrue e X.env whole) (TP X pins σ Q) X.xe s
theorem PW.pt {X:Cx} {e:Expr} {t:TT} (h:PW X e t):PT X e t:=h _
noncomputable def PA (X:Cx) (es:List Expr) (t:TA):Prop:=
 ∀ (pos:Pos) (pins:List (Addr × Obj)) (s:Shared) (σ:St) (H:Hp) (Q:List V→Hp→Prop),Inv X pins σ H s→t σ H Q→wpAny (model X.prog X.w) X.A (spliced (backTo pos (starEach es X.env))) (AP X pins σ Q) X.xe s
noncomputable def PS (X:Cx) (st:Stmt) (t:TS):Prop:=
 ∀ (pins:List (Addr × Obj)) (s:Shared) (σ:St) (H:Hp) (D:Ends),Inv X pins σ H s→t D σ H→wpAny (model X.prog X.w) X.A (exec st X.env) (SP X pins D) X.xe s
noncomputable def PSs (X:Cx) (st:List Stmt) (t:TS):Prop:=
 ∀ (pins:List (Addr × Obj)) (s:Shared) (σ:St) (H:Hp) (D:Ends),Inv X pins σ H s→t D σ H→wpAny (model X.prog X.w) X.A (execs st X.env) (SP X pins D) X.xe s
theorem thn {α:Type} {t:Sem α} {Q Q':α→Shared→Prop} {M:Model} {A:Around} {E:Value→Shared→Prop} {s:Shared} (h:wpAny M A t Q E s) (hQ:∀ a s,Q a s→Q' a s):wpAny M A t Q' E s:=wpAny_mono h hQ fun _ _ x=>x
end L2
namespace L2
open PySem PySem.Spec PyProof.Rows
section
variable {X:Cx}
noncomputable def tVar (i:Nat):TE:=fun σ H Q=>∃ v,σ[i]?=some (some v)∧Q v H
noncomputable def tC (v:V):TE:=fun _ H Q=>Q v H
theorem pe_var {i:Nat} {x:Str} {pos:Pos} (hN:X.N[i]?=some x) (hv:Vis X.env.scope x) (hd:autoParam ((x == ("__debug__":Str))=false) Au.h2._auto_1) (hcd:autoParam ((x == ("__classdict__":Str))=false) Au.h2._auto_1):PE X (.Name x pos) (tVar i):=by
 intro pins s σ H Q I h
 obtain ⟨v,e,h⟩:=h
 obtain ⟨m,hn,hl⟩:=I.loc
 obtain ⟨u,r,l⟩:=hl i x v hN e hv
 have fin:EP X pins σ Q u s:=⟨v,H,I,r,h⟩
 rcases l with ⟨hk,hm⟩ | ⟨hk,c,hc,hcell⟩
 ·exact wpAny_Name (wpAny_loadName_local I.ok.kind hk hn hm fin) hd
 ·rcases hk with hk | hk
  ·exact wpAny_Name (wpAny_loadName_cell I.ok.kind hk hc hcell fin) hd
  ·exact wpAny_Name (wpAny_loadName_free I.ok.kind hk hc hcell fin hcd) hd
theorem pe_int {i j pos}:PE X (.Constant (.int i) j pos) (tC (.int i)):=fun _ _ _ H _ I h=>wpAny_Constant_int ⟨.int i,H,I.tok _,⟨_,rfl⟩,h⟩
theorem pe_bl {b j pos}:PE X (.Constant (.bool b) j pos) (tC (.bl b)):=fun _ _ _ H _ I h=>Constant_bool ⟨.bl b,H,I,rfl,h⟩
theorem pe_non {j pos}:PE X (.Constant .none j pos) (tC .non):=fun _ _ _ H _ I h=>Constant_none ⟨.non,H,I,rfl,h⟩
theorem pe_str {x j pos}:PE X (.Constant (.str x) j pos) (tC (.str x)):=fun _ _ _ H _ I h=>Calls.Constant_str ⟨.str x,H,I.tok _,⟨_,rfl⟩,h⟩
noncomputable def Gl (X:Cx) (x:Str):Prop:=X.env.kindOf x=some .globalImplicit
theorem ld_glob {E:Value→Shared→Prop} {pins:List (Addr × Obj)} {s:Shared} {σ:St} {H:Hp} {x:Str} {u:Value} {pos:Pos} {Q:Value→Shared→Prop} (I:Inv X pins σ H s) (hg:Gl X x) (hm:X.mg x=some u) (h:Q u s)
  (hd:autoParam ((x == ("__debug__":Str))=false) Au.h2._auto_1):wpAny (model X.prog X.w) X.A (eval (.Name x pos) X.env) Q E s:=
 Calls.Name_function_global I.ok.kind hg (Calls.loadGlobal_global (by rw [I.ok.glob]; exact I.mod.glob.keeps I.bk) hm h) hd
theorem ld_blt {E:Value→Shared→Prop} {pins:List (Addr × Obj)} {s:Shared} {σ:St} {H:Hp} {x:Str} {u:Value} {pos:Pos} {Q:Value→Shared→Prop} (I:Inv X pins σ H s) (hg:Gl X x) (hm:X.mg x=none) (hv:bootBuiltins x=some u) (h:Q u s)
  (hn:autoParam (x ≠ "__name__") Au.h2._auto_1) (hd:autoParam ((x == ("__debug__":Str))=false) Au.h2._auto_1):wpAny (model X.prog X.w) X.A (eval (.Name x pos) X.env) Q E s:=by
 obtain ⟨mb,h1,h2⟩:=I.mod.blt
 exact Calls.Name_function_global I.ok.kind hg (Calls.loadGlobal_builtin (by rw [I.ok.glob]; exact I.mod.glob.keeps I.bk) hm (by rw [I.ok.blt]; exact h1.keeps I.bk) ((h2 x hn).trans hv) h) hd
theorem pe_glob {x:Str} {v:V} {u:Value} {pos:Pos} (hg:Gl X x) (hm:X.mg x=some u) (r:RelV v u) (hd:autoParam ((x == ("__debug__":Str))=false) Au.h2._auto_1):PE X (.Name x pos) (tC v):=
 fun _ _ _ H _ I h=>ld_glob I hg hm ⟨v,H,I,r,h⟩ hd
theorem pe_bltn {x:Str} {v:V} {u:Value} {pos:Pos} (hg:Gl X x) (hm:X.mg x=none) (hv:bootBuiltins x=some u) (r:RelV v u) (hn:autoParam (x ≠ "__name__") Au.h2._auto_1) (hd:autoParam ((x == ("__debug__":Str))=false) Au.h2._auto_1):PE X (.Name x pos) (tC v):=
 fun _ _ _ H _ I h=>ld_blt I hg hm hv ⟨v,H,I,r,h⟩ hn hd
variable {a b:Expr} {ta tb:TE} {pos:Pos}
noncomputable def tB (t:TE):TT:=fun σ H Q=>t σ H fun x H1=>∃ c,x=.bl c∧Q c H1
theorem pt_val {e:Expr} {t:TE} (h:PE X e t) (he:autoParam (∀ whole,isTrue e X.env whole=(do let v ← whole; standAt e.pos; holding [v] (truthy v))) Au.h5._auto_1):PT X e (tB t):=by
 intro pins s σ H Q I hw
 refine isTrue_plain (thn (h pins s σ H _ I hw) fun v s1 zq=>?_) (he _)
 obtain ⟨x,H1,I1,r1,q1⟩:=zq
 obtain ⟨d,rfl,q⟩:=q1
 cases r1
 exact wpAny_truthy_bool ⟨H1,I1,q⟩
variable {tA tB':TT} {rest:List Expr}
noncomputable def tOr (t u:TT):TT:=fun σ H Q=>t σ H fun c H1=>if c=true then Q true H1 else u σ H1 Q
noncomputable def tNot (t:TT):TT:=fun σ H Q=>t σ H fun c H1=>Q (!c) H1
theorem pw_or1 (ha:PT X a tA):PW X (.BoolOp .Or [a] pos) tA:=by
 intro wh pins s σ H Q I h
 refine isTrue_or (thn (ha pins s σ H Q I h) fun c s1 e=>?_)
 cases c with
 | false=>exact isTrue_or_nil e
 | true=>exact e
theorem pw_or (ha:PT X a tA) (hb:PW X (.BoolOp .Or (b :: rest) pos) tB'):PW X (.BoolOp .Or (a :: b :: rest) pos) (tOr tA tB'):=by
 intro wh pins s σ H Q I h
 refine isTrue_or (thn (ha pins s σ H _ I h) fun c s1 zq=>?_)
 obtain ⟨H1,I1,q1⟩:=zq
 cases c with
 | true=>exact ⟨H1,I1,q1⟩
 | false=>exact hb wh pins s1 σ H1 Q I1 q1
theorem pt_not (ha:PT X a tA):PT X (.UnaryOp .Not a pos) (tNot tA):=by
 intro pins s σ H Q I h
 exact isTrue_not (ha pins s σ H (fun c H1=>Q (!c) H1) I h)
noncomputable def tAndV (ta tb:TE):TE:=fun σ H Q=>ta σ H fun x H1=>∃ c,x=.bl c∧if c=true then tb σ H1 Q else Q (.bl false) H1
noncomputable def tNotV (ta:TE):TE:=fun σ H Q=>ta σ H fun x H1=>∃ c,x=.bl c∧Q (.bl (!c)) H1
theorem pe_one {op} {t:TE} (h:PE X a t):PE X (.BoolOp op [a] pos) t:=fun pins s σ H Q I hw=>BoolOp_one (h pins s σ H Q I hw)
theorem pe_and (ha:PE X a ta) (hb:PE X (.BoolOp .And (b :: rest) pos) tb):PE X (.BoolOp .And (a :: b :: rest) pos) (tAndV ta tb):=by
 intro pins s σ H Q I h
 refine BoolOp_and (thn (ha pins s σ H _ I h) fun v s1 zq=>?_)
 obtain ⟨x,H1,I1,r1,q1⟩:=zq
 obtain ⟨c,rfl,q1⟩:=q1
 cases r1
 refine wpAny_truthy_bool ?_
 cases c with
 | true=>exact hb pins s1 σ H1 Q I1 q1
 | false=>exact ⟨.bl false,H1,I1,rfl,q1⟩
theorem pe_not (ha:PE X a ta):PE X (.UnaryOp .Not a pos) (tNotV ta):=by
 intro pins s σ H Q I h
 refine UnaryOp_ (thn (ha pins s σ H _ I h) fun v s1 zq=>?_)
 obtain ⟨x,H1,I1,r1,q1⟩:=zq
 obtain ⟨c,rfl,q1⟩:=q1
 cases r1
 exact not_of (wpAny_truthy_bool ⟨.bl (!c),H1,I1,rfl,q1⟩)
end
end L2
namespace L2
open PySem PySem.Spec PyProof.Rows
noncomputable def SqL (K:PySem.W.Frag) (H:Hp) (a:Addr) (xs:List V):Prop:=
 Rd H a (.lst xs) ∨
  ∃ (o:Obj) (its:Array Value) (n:Nat),K.lookup a=some o∧o.cls=.type "list"∧o.dict=none∧o.data=.seq its n∧its.size≤sizeLine∧Vals xs its.toList
noncomputable def SqT (K:PySem.W.Frag) (H:Hp) (a:Addr) (xs:List V):Prop:=
 Rd H a (.tup xs) ∨
  ∃ (o:Obj) (its:Array Value) (n:Nat),K.lookup a=some o∧o.cls=.type "tuple"∧o.data=.seq its n∧its.size≤sizeLine∧Vals xs its.toList
noncomputable def absV:Value→Option V
 | .none=>some .non
 | .bool b=>some (.bl b)
 | .int i _=>some (.int i)
 | .str x _=>some (.str x)
 | .bytes b _=>some (.byt b)
 | .float b _=>some (.flt b)
 | .ref a=>some (.ref a)
 | .type n=>some (.ty n)
 | _=>none
theorem RelV.abs {x:V} {u:Value} (r:RelV x u):absV u=some x:=by
 cases x with
 | non=>cases r; rfl
 | bl _=>cases r; rfl
 | int _=>obtain ⟨t,rfl⟩:=r; rfl
 | str _=>obtain ⟨t,rfl⟩:=r; rfl
 | byt _=>obtain ⟨t,rfl⟩:=r; rfl
 | flt _=>obtain ⟨t,rfl⟩:=r; rfl
 | ref _=>cases r; rfl
 | ty _=>cases r; rfl
theorem RelV.inj {x y:V} {u:Value} (r:RelV x u) (q:RelV y u):x=y:=Option.some.inj (r.abs.symm.trans q.abs)
theorem Vals.inj:∀ {xs ys:List V} {us:List Value},Vals xs us→Vals ys us→xs=ys
 | _,_,_,.nil,.nil=>rfl
 | _,_,_,.cons r t,.cons r' t'=>by rw [r.inj r',Vals.inj t t']
section
variable {X:Cx} {pins:List (Addr × Obj)} {σ:St} {H:Hp} {s:Shared} {a:Addr} {xs ys:List V}
theorem SqL.of {K:PySem.W.Frag} (h:H a=some (.lst xs)):SqL K H a xs:=.inl (.inl h)
theorem SqT.of {K:PySem.W.Frag} (h:H a=some (.tup xs)):SqT K H a xs:=.inl (.inl h)
theorem Inv.list (I:Inv X pins σ H s) (h:SqL X.K H a xs):∃ its:List Value,Vals xs its∧PlainL s.heap a its.toArray∧xs.length≤sizeLine:=by
 rcases h with h | ⟨o,its,n,hk,hc,hd,hs,hz,r⟩
 ·obtain ⟨z,its,n,r,e⟩:=h.ok I.hok
  exact ⟨its,r,⟨_,n,e,rfl,rfl,rfl⟩,z⟩
 ·refine ⟨its.toList,r,⟨o,n,I.kIn a o hk,hc,hd,by simpa using hs⟩,?_⟩
  have e:=r.length
  simp only [Array.length_toList] at e
  omega
theorem Inv.tuple (I:Inv X pins σ H s) (h:SqT X.K H a xs):∃ its:List Value,Vals xs its∧IsTup s.heap a its.toArray∧xs.length≤sizeLine:=by
 rcases h with h | ⟨o,its,n,hk,hc,hs,hz,r⟩
 ·obtain ⟨z,its,r,p⟩:=h.ok I.hok
  exact ⟨its,r,p,z⟩
 ·refine ⟨its.toList,r,⟨o,I.kIn a o hk,hc,n,by simpa using hs⟩,?_⟩
  have e:=r.length
  simp only [Array.length_toList] at e
  omega
theorem Inv.list_inj (I:Inv X pins σ H s) (h:SqL X.K H a xs) (h':SqL X.K H a ys):xs=ys:=by
 obtain ⟨its,r,⟨o,n,e,_,_,d⟩,_⟩:=I.list h
 obtain ⟨its',r',⟨o',n',e',_,_,d'⟩,_⟩:=I.list h'
 rw [e] at e'; cases e'
 rw [d] at d'
 injection d' with d1 _
 have:its=its':=by simpa using congrArg Array.toList d1
 subst this
 exact r.inj r'
theorem Inv.tuple_inj (I:Inv X pins σ H s) (h:SqT X.K H a xs) (h':SqT X.K H a ys):xs=ys:=by
 obtain ⟨its,r,⟨o,e,_,n,d⟩,_⟩:=I.tuple h
 obtain ⟨its',r',⟨o',e',_,n',d'⟩,_⟩:=I.tuple h'
 rw [e] at e'; cases e'
 rw [d] at d'
 injection d' with d1 _
 have:its=its':=by simpa using congrArg Array.toList d1
 subst this
 exact r.inj r'
end
noncomputable abbrev Cx.wish (X:Cx) (E:Value→Shared→Prop):Cx:={ X with xe:=E }
noncomputable abbrev Cx.nox (X:Cx):Cx:=X.wish fun _ _=>False
theorem Cx.Ok.wish {X:Cx} (ok:X.Ok) (E:Value→Shared→Prop):(X.wish E).Ok:=
 ⟨ok.mod,ok.kind,ok.glob,ok.blt,ok.above,ok.inj,ok.has,ok.cab,ok.hd,ok.frames,ok.stk,ok.exf,ok.bs,ok.bsz,ok.noex,ok.exfs,ok.funs,ok.frf⟩
theorem Cx.Ok.unwish {X:Cx} {E:Value→Shared→Prop} (ok:(X.wish E).Ok):X.Ok:=
 ⟨ok.mod,ok.kind,ok.glob,ok.blt,ok.above,ok.inj,ok.has,ok.cab,ok.hd,ok.frames,ok.stk,ok.exf,ok.bs,ok.bsz,ok.noex,ok.exfs,ok.funs,ok.frf⟩
section
variable {X:Cx} {pins:List (Addr × Obj)} {σ:St} {H:Hp} {s:Shared} {E:Value→Shared→Prop}
theorem Inv.wish (I:Inv X pins σ H s) (E:Value→Shared→Prop):Inv (X.wish E) pins σ H s:=⟨I.ok.wish E,I.os,I.bare,I.base,I.loc,I.cell,I.free,I.freeC,I.pin,I.hok,I.len⟩
theorem Inv.unwish (I:Inv (X.wish E) pins σ H s):Inv X pins σ H s:=⟨I.ok.unwish,I.os,I.bare,I.base,I.loc,I.cell,I.free,I.freeC,I.pin,I.hok,I.len⟩
theorem SP.unwish {D:Ends} {f:Flow} {s':Shared} (h:SP (X.wish E) pins D f s'):SP X pins D f s':=by
 cases f with
 | next=>obtain ⟨σ',H',I,q⟩:=h; exact ⟨σ',H',I.unwish,q⟩
 | brk=>obtain ⟨σ',H',I,q⟩:=h; exact ⟨σ',H',I.unwish,q⟩
 | cont=>obtain ⟨σ',H',I,q⟩:=h; exact ⟨σ',H',I.unwish,q⟩
 | ret u=>obtain ⟨v,σ',H',I,r,q⟩:=h; exact ⟨v,σ',H',I.unwish,r,q⟩
theorem PE.nox {e:Expr} {t:TE} (h:PE X.nox e t):PE X e t:=fun pins s σ H Q I hw=>
 wpAny_mono (h pins s σ H Q (I.wish _) hw) (fun _ _ ⟨v,H',I',r,q⟩=>⟨v,H',I'.unwish,r,q⟩) fun _ _ z=>False.elim z
theorem PT.nox {e:Expr} {t:TT} (h:PT X.nox e t):PT X e t:=fun pins s σ H Q I hw=>
 wpAny_mono (h pins s σ H Q (I.wish _) hw) (fun _ _ ⟨H',I',q⟩=>⟨H',I'.unwish,q⟩) fun _ _ z=>False.elim z
theorem PSs.nox {st:List Stmt} {t:TS} (h:PSs X.nox st t):PSs X st t:=fun pins s σ H D I hw=>
 wpAny_mono (h pins s σ H D (I.wish _) hw) (fun _ _ q=>q.unwish) fun _ _ z=>False.elim z
end
section
variable {X:Cx} {st:Stmt} {rest:List Stmt} {t u:TS} {e:Expr} {te:TE} {pos:Pos}
noncomputable def tNext:TS:=fun D σ H=>D.nx σ H
noncomputable def tSeq (t u:TS):TS:=fun D σ H=>t { D with nx:=u D } σ H
theorem pss_nil:PSs X [] tNext:=fun _ _ σ H _ I h=>wpAny_execs_nil ⟨σ,H,I,h⟩
theorem pss_cons (h1:PS X st t) (h2:PSs X rest u):PSs X (st :: rest) (tSeq t u):=by
 intro pins s σ H D I h
 refine wpAny_execs_cons (thn (h1 pins s σ H { D with nx:=u D } I h) fun f s1 q=>?_)
 cases f with
 | next=>
  obtain ⟨σ',H',I',q⟩:=q
  exact h2 pins s1 σ' H' D I' q
 | ret v=>exact q
 | brk=>exact q
 | cont=>exact q
theorem pss_one (h1:PS X st t):PSs X [st] t:=by
 intro pins s σ H D I h
 refine wpAny_execs_cons (thn (h1 pins s σ H D I h) fun f s1 q=>?_)
 cases f with
 | next=>exact wpAny_execs_nil q
 | ret v=>exact q
 | brk=>exact q
 | cont=>exact q
theorem Inv.quiet {pins:List (Addr × Obj)} {σ:St} {H:Hp} {s:Shared} (I:Inv X pins σ H s):interactive X.env=false:=by simp [interactive,I.ok.kind]
noncomputable def tDrop (te:TE):TS:=fun D σ H=>te σ H fun _ H1=>D.nx σ H1
theorem ps_expr (he:PE X e te) (hs:autoParam (swapsWith e none pos.line X.env=pure false) Au.h1._auto_1):PS X (.Expr e pos) (tDrop te):=by
 intro pins s σ H D I h
 exact wpAny_Expr_any (thn (he pins s σ H _ I h) fun v s1 zq=>ex5 zq fun x H1 I1 r1 q1=>⟨σ,H1,I1,q1⟩) I.quiet hs
noncomputable def tRet (te:TE):TS:=fun D σ H=>te σ H D.rt
theorem ps_ret (he:PE X e te):PS X (.Return (some e) pos) (tRet te):=by
 intro pins s σ H D I h
 exact wpAny_Return_some (thn (he pins s σ H _ I h) fun v s1 zq=>ex5 zq fun x H1 I1 r1 q1=>⟨x,σ,H1,I1,r1,q1⟩)
noncomputable def tIfS (c:TT) (t u:TS):TS:=fun D σ H=>c σ H fun b H1=>if b=true then t D σ H1 else u D σ H1
theorem ps_if {c:Expr} {a b:List Stmt} {tc:TT} (hc:PT X c tc) (ha:PSs X a t) (hb:PSs X b u):PS X (.If c a b pos) (tIfS tc t u):=by
 intro pins s σ H D I h
 refine wpAny_If (thn (hc pins s σ H _ I h) fun d s1 zq=>?_)
 obtain ⟨H1,I1,q1⟩:=zq
 cases d with
 | true=>exact ha pins s1 σ H1 D I1 q1
 | false=>exact hb pins s1 σ H1 D I1 q1
end
noncomputable abbrev TG:=V→St→Hp→(St→Hp→Prop)→Prop
noncomputable abbrev TGs:=List V→St→Hp→(St→Hp→Prop)→Prop
noncomputable def PG (X:Cx) (target:Expr) (t:TG):Prop:=
 ∀ (pins:List (Addr × Obj)) (s:Shared) (σ:St) (H:Hp) (v:V) (u:Value) (Q:St→Hp→Prop),Inv X pins σ H s→RelV v u→t v σ H Q→
  wpAny (model X.prog X.w) X.A (assign target X.env u) (fun _ s'=>∃ σ' H',Inv X pins σ' H' s'∧Q σ' H') X.xe s
noncomputable def PGs (X:Cx) (ts:List Expr) (t:TGs):Prop:=
 ∀ (pins:List (Addr × Obj)) (s:Shared) (σ:St) (H:Hp) (vs:List V) (us:List Value) (Q:St→Hp→Prop),Inv X pins σ H s→Vals vs us→t vs σ H Q→
  wpAny (model X.prog X.w) X.A (assignInOrder ((assignEach ts X.env).map (·.2)) us) (fun _ s'=>∃ σ' H',Inv X pins σ' H' s'∧Q σ' H') X.xe s
noncomputable abbrev TSet:=V→V→V→Hp→(Hp→Prop)→Prop
noncomputable def PSet (X:Cx) (t:TSet):Prop:=
 ∀ (pins:List (Addr × Obj)) (s:Shared) (σ:St) (H:Hp) (o i v:V) (ov iv u:Value) (Q:Hp→Prop),Inv X pins σ H s→RelV o ov→RelV i iv→RelV v u→t o i v H Q→
  wpAny (model X.prog X.w) X.A (setItem ov iv u) (fun _ s'=>∃ H',Inv X pins σ H' s'∧Q H') X.xe s
section
variable {X:Cx} {pos:Pos}
noncomputable def gName (i:Nat):TG:=fun v σ H Q=>Q (σ.set i (some v)) H
theorem pg_name {i:Nat} {x:Str} (hN:X.N.Nodup) (hi:X.N[i]?=some x) (hx:Loc X.env.scope x) (hf:X.fn x=true ∨ X.env.scope.names.lookup x=some .local):PG X (.Name x pos) (gName i):=by
 intro pins s σ H v u Q I r h
 exact wpAny_assign_Name (store_ok I hN hi hx r (fun s' I'=>⟨_,H,I',h⟩) hf)
noncomputable def gNil:TGs:=fun vs σ H Q=>vs=[]∧Q σ H
noncomputable def gCons (t:TG) (u:TGs):TGs:=fun vs σ H Q=>∃ v r,vs=v :: r∧t v σ H fun σ' H'=>u r σ' H' Q
theorem pgs_nil:PGs X [] gNil:=by
 intro pins s σ H vs us Q I r h
 obtain ⟨e,h⟩:=h
 subst e
 cases r
 exact assignInOrder_nil ⟨σ,H,I,h⟩
theorem pgs_cons {e:Expr} {es:List Expr} {t:TG} {u:TGs} (h1:PG X e t) (h2:PGs X es u)
  (hs:autoParam ((assignEach (e :: es) X.env).map (·.2)=assign e X.env :: (assignEach es X.env).map (·.2)) Au.h1._auto_1):PGs X (e :: es) (gCons t u):=by
 intro pins s σ H vs us Q I r h
 obtain ⟨v,vr,e1,h⟩:=h
 subst e1
 cases r with
 | cons r rr=>
  rw [hs]
  refine assignInOrder_cons (thn (h1 pins s σ H _ _ _ I r h) fun _ s1 zq=>?_)
  obtain ⟨σ1,H1,I1,q1⟩:=zq
  exact h2 pins s1 σ1 H1 _ _ Q I1 rr q1
noncomputable def gTup (K:PySem.W.Frag) (n:Nat) (t:TGs):TG:=fun v σ H Q=>∃ a xs,v=.ref a∧SqT K H a xs∧xs.length=n∧t xs σ H Q
theorem pg_tup {es:List Expr} {k:Nat} {t:TGs} {n:Nat} (hc:X.calm=true) (h:PGs X es t)
  (hn:autoParam ((assignEach es X.env).length=n) Au.h1._auto_1) (hst:autoParam ((assignEach es X.env).findIdx? (·.1)=none) Au.h1._auto_1):PG X (.Tuple es k pos) (gTup X.K n t):=by
 intro pins s σ H v u Q I r hw
 obtain ⟨a,xs,e1,hq,hl,hw⟩:=hw
 subst e1
 cases r
 obtain ⟨its,rv,ht,hz⟩:=I.tuple hq
 refine assign_Tuple_tuple (I.ok.hd hc) ht (by simp [hn,← hl,rv.length]) hst fun h' hx=>?_
 have I1:Inv X pins σ H { s with heap:=h' }:=I.kept (t':=s.toks) fun b o e=>hx b o (Nat.ne_of_lt (Heap.lt_size e)) e
 exact h pins _ σ H xs _ Q I1 (by simpa using rv) hw
noncomputable def gSub (to ti:TE) (t:TSet):TG:=fun v σ H Q=>to σ H fun o H1=>ti σ H1 fun i H2=>t o i v H2 fun H3=>Q σ H3
theorem pg_sub {o i:Expr} {to ti:TE} {t:TSet} (ho:PE X o to) (hi:PE X i ti) (hs:PSet X t)
  (ha:autoParam (∀ v,assign (.Subscript o i pos) X.env v=(do
   let ov ← holding [v] (eval o X.env)
   let iv ← holding [v,ov] (eval i X.env)
   standAt pos
   holding [v,ov,iv] (setItem ov iv v)
   release [v,ov,iv] [])) Au.h5._auto_1):PG X (.Subscript o i pos) (gSub to ti t):=by
 intro pins s σ H v u Q I r h
 rw [ha]
 refine wpAny_bind (wpAny_holding (thn (ho pins s σ H _ I h) fun ov s1 zq=>?_))
 obtain ⟨x,H1,I1,r1,q1⟩:=zq
 refine wpAny_bind (wpAny_holding (thn (hi pins s1 σ H1 _ I1 q1) fun iv s2 zq=>?_))
 obtain ⟨y,H2,I2,r2,q2⟩:=zq
 refine wpAny_bind (wpAny_standAt (wpAny_bind (wpAny_holding (thn (hs pins s2 σ H2 x y v ov iv u _ I2 r1 r2 r q2) fun _ s3 zq=>?_))))
 obtain ⟨H3,I3,q3⟩:=zq
 exact wpAny_release ⟨σ,H3,I3,q3⟩
noncomputable def tAsg (te:TE) (g:TG):TS:=fun D σ H=>te σ H fun x H1=>g x σ H1 D.nx
theorem ps_asg {tg e:Expr} {te:TE} {g:TG} (he:PE X e te) (hg:PG X tg g) (hs:autoParam (swapsWithSole [tg] e pos.line X.env=pure false) Au.h1._auto_1) (hw:autoParam (swappedStores [tg] e X.env=pure none) Au.h1._auto_1)
  (h1:autoParam ((assignEach [tg] X.env).map (·.2)=[assign tg X.env]) Au.h1._auto_1):PS X (.Assign [tg] e pos) (tAsg te g):=by
 intro pins s σ H D I h
 refine wpAny_Assign_stores (thn (he pins s σ H _ I h) fun v s1 zq=>?_) hs hw
 obtain ⟨x,H1,I1,r1,q1⟩:=zq
 rw [h1]
 exact thn (hg pins s1 σ H1 x v _ I1 r1 q1) fun _ s2 q=>q
theorem ps_set {i:Nat} {x:Str} {e:Expr} {te:TE} {pos':Pos} (hN:X.N.Nodup) (hi:X.N[i]?=some x) (hx:Loc X.env.scope x) (he:PE X e te) (hs:autoParam (swapsWith e (some (.Name x pos')) pos.line X.env=pure false) Au.h1._auto_1) (hf:X.fn x=true ∨ X.env.scope.names.lookup x=some .local):
  PS X (.Assign [.Name x pos'] e pos) (tAsg te (gName i)):=by
 intro pins s σ H D I h
 refine wpAny_Assign_Name (thn (he pins s σ H _ I h) fun v s1 zq=>?_) hs
 obtain ⟨y,H1,I1,r1,q1⟩:=zq
 exact store_ok I1 hN hi hx r1 (fun s2 I2=>⟨_,H1,I2,q1⟩) hf
end
section
variable {X:Cx} {pos:Pos}
end
set_option genInjectivity false in
structure It where
 go:Nat→Hp→Prop
 yld:Nat→Hp→V→Hp→Prop
 stop:Nat→Hp→Prop
noncomputable def FpOk (X:Cx) (pins:List (Addr × Obj)) (H:Hp) (b:Addr):Prop:=
 H b=none∧b ≠ X.env.locals∧b ∉ X.fs∧(b ∈ X.ex ∨ X.s₀.heap.objs.size≤b)∧(∀ x c,X.env.cells.lookup x=some c→c ≠ b)∧∀ p ∈ X.pn ++ pins,p.1 ≠ b
theorem Inv.fpOk {X:Cx} {pins:List (Addr × Obj)} {σ:St} {H H':Hp} {s:Shared} {b:Addr} (I:Inv X pins σ H s) (hb:s.heap.objs.size≤b) (hn:H' b=none):FpOk X pins H' b:=by
 refine ⟨hn,Nat.ne_of_gt (Nat.lt_of_lt_of_le I.lt hb),I.nofs hb,.inr (Nat.le_trans I.sz hb),fun x c e z=>?_,fun p hp z=>?_⟩
 ·obtain ⟨v,q⟩:=I.cell x c e
  exact absurd (Nat.lt_of_lt_of_le q.lt (by rw [z]; exact hb)) (Nat.lt_irrefl _)
 ·exact absurd (Nat.lt_of_lt_of_le (Heap.lt_size (I.pin p hp).1) (by rw [z]; exact hb)) (Nat.lt_irrefl _)
noncomputable def QtH (X:Cx):Prop:=X.A.handled=none ∨ ∃ a o u,X.A.handled=some (.ref a)∧X.H₀ a=some (.frz o u)∧ZO o
noncomputable def Cd (qb:Bool) (X:Cx):Prop:=X.calm=true ∨ (qb=true∧QtH X)
theorem Cd.cm {X:Cx} (h:Cd false X):X.calm=true:=h.elim id fun z=>nomatch z.1
theorem Inv.qt {X:Cx} {pins:List (Addr × Obj)} {σ:List (Option V)} {H:Hp} {s:Shared} {qb:Bool} (I:Inv X pins σ H s) (h:Cd qb X):X.A.handled=none ∨ ∃ a,X.A.handled=some (.ref a)∧s.heap.Zat a:=by
 rcases h with h | ⟨_,h | ⟨a,o,u,e,q,z⟩⟩
 ·exact .inl (I.ok.hd h)
 ·exact .inl h
 ·exact .inr ⟨a,e,o,(I.hok a _ (I.base.frzs a o u q)).1,z⟩
structure Turn (qb:Bool) (P:Program) (w:World) (K:PySem.W.Frag) (tg:Expr) (J:It) (fp:List Addr) (it:Addr) (tn:Nat→Heap→Prop):Prop where
 mem:it ∈ fp
 obj:∀ i h,tn i h→∀ b ∈ fp,∃ o,h.get? b=some o∧∀ v,o.data ≠ .cell v
 keep:∀ i h h',tn i h→(∀ b ∈ fp,∀ o,h.get? b=some o→h'.get? b=some o)→tn i h'
 item:∀ (X:Cx),X.prog=P→X.w=w→X.K=K→Cd qb X→∀ (i:Nat) (pins:List (Addr × Obj)) (s:Shared) (σ:St) (H:Hp) (E:Value→Shared→Prop),Inv X pins σ H s→(∀ b ∈ fp,FpOk X pins H b)→tn i s.heap→J.go i H→
  wpAny (model P w) X.A (pyNext (.ref it)) (fun r s1=>∃ u,r=some u∧
   wpAny (model P w) X.A (letOwnedTupleGo tg (.ref it) u) (fun _ s2=>∃ x H',Inv X pins σ H' s2∧RelV x u∧J.yld i H x H'∧tn (i + 1) s2.heap∧∀ b ∈ fp,H' b=none) E s1) E s
 done:∀ (X:Cx),X.prog=P→X.w=w→X.K=K→Cd qb X→∀ (i:Nat) (pins:List (Addr × Obj)) (s:Shared) (σ:St) (H:Hp) (E:Value→Shared→Prop),Inv X pins σ H s→(∀ b ∈ fp,FpOk X pins H b)→tn i s.heap→J.stop i H→
  wpAny (model P w) X.A (pyNext (.ref it)) (fun r s1=>r=none∧Inv X pins σ H s1) E s
 self:∀ (A:Around) (i:Nat) (s:Shared) (Q:Value→Shared→Prop) (E:Value→Shared→Prop),tn i s.heap→Q (.ref it) s→wpAny (model P w) A (pyIter (.ref it)) Q E s
noncomputable abbrev TI:=St→Hp→(It→Hp→Prop)→Prop
noncomputable def PIEb (qb:Bool) (X:Cx) (pins:List (Addr × Obj)) (σ:St) (tg:Expr) (R:It→Hp→Prop) (itv:Value) (s2:Shared):Prop:=
 ∃ (it:Addr) (fp:List Addr) (tn:Nat→Heap→Prop) (J:It) (H':Hp),itv=.ref it∧Inv X pins σ H' s2∧Turn qb X.prog X.w X.K tg J fp it tn∧tn 0 s2.heap∧(∀ b ∈ fp,FpOk X pins H' b)∧R J H'
noncomputable def PIb (qb:Bool) (X:Cx) (tg iter:Expr) (wi:TI):Prop:=
 ∀ (pins:List (Addr × Obj)) (s:Shared) (σ:St) (H:Hp) (R:It→Hp→Prop),Inv X pins σ H s→wi σ H R→
  wpAny (model X.prog X.w) X.A (eval iter X.env) (fun v s1=>wpAny (model X.prog X.w) X.A (pyIter v) (PIEb qb X pins σ tg R) X.xe s1) X.xe s
noncomputable abbrev PI:=PIb false
theorem go_of {M:Model} {A:Around} {E:Value→Shared→Prop} {s:Shared} {tg:Expr} {it:Addr} {u:Value} {o:Obj} {n:String} {vs:Array Value} {Q:Unit→Shared→Prop} (ho:s.heap.get? it=some o) (hc:o.cls=.type n) (hd:o.data=.fields vs)
    (hn:["enumerate","zip","dict_itemiterator","dict_reverseitemiterator","odict_iterator","itertools.zip_longest","itertools.pairwise"].contains n=false) (hQ:Q () s):wpAny M A (letOwnedTupleGo tg (.ref it) u) Q E s:=by
  unfold letOwnedTupleGo
  cases tg <;> first
    | exact wpAny_pure hQ
    | (cases u <;> first
        | exact wpAny_pure hQ
        | (refine wpAny_bind (wpAny_load ho ?_)
           rw [hc,hd]
           show wpAny M A (if (["enumerate","zip","dict_itemiterator","dict_reverseitemiterator","odict_iterator","itertools.zip_longest","itertools.pairwise"].contains n && vs[0]? == some (rawInt _))=true then _ else _) Q E s
           rw [if_neg (by intro h; rw [hn,Bool.false_and] at h; cases h)]
           exact wpAny_pure hQ))
noncomputable def Itl (K:PySem.W.Frag) (a:Addr):It:=
 ⟨fun i H=>∃ xs x,SqL K H a xs∧xs[i]?=some x,fun i H x H'=>H'=H∧∀ xs,SqL K H a xs→xs[i]?=some x,fun i H=>∃ xs,SqL K H a xs∧xs.length≤i⟩
noncomputable def Itt (K:PySem.W.Frag) (a:Addr):It:=
 ⟨fun i H=>∃ xs x,SqT K H a xs∧xs[i]?=some x,fun i H x H'=>H'=H∧∀ xs,SqT K H a xs→xs[i]?=some x,fun i H=>∃ xs,SqT K H a xs∧xs.length≤i⟩
noncomputable def Itr (lo:Int) (n:Nat):It:=⟨fun i _=>i < n,fun i H x H'=>H'=H∧x=.int (lo + i),fun i _=>n≤i⟩
theorem turn_list {P:Program} {w:World} {K:PySem.W.Frag} {tg:Expr} (a it:Addr):Turn false P w K tg (Itl K a) [it] it (fun i h=>h.IsListIter it a i) where
 mem:=by simp
 obj:=fun i h st b hb=>by
  have e:b=it:=by simpa using hb
  subst e
  obtain ⟨o,e,c,d⟩:=st
  exact ⟨o,e,fun v z=>by rw [d] at z; cases z⟩
 keep:=fun i h h' st k=>st.at fun o e=>k it (by simp) o e
 item:=by
  intro X hP hw hK hc i pins s σ H E I hf st hg
  subst hP hw hK
  obtain ⟨xs,x,hq,hx⟩:=hg
  obtain ⟨its,rv,p,hz⟩:=I.list hq
  obtain ⟨u,hu,ru⟩:=rv.get hx
  obtain ⟨f0,f1,f2,f3,f4,f5⟩:=hf it (by simp)
  refine wpAny_pyNext_list_item st p.isList (x:=u) (by simpa using hu) fun h' st' sb=>?_
  have I1:Inv X pins σ H { s with heap:=h' }:=I.turned (t':=s.toks) (fun b o hb e=>(sb.2 b hb).trans e) f0 f1 f3 f4 f5
  obtain ⟨o,e,c,d⟩:=id st'
  exact ⟨u,rfl,go_of (s:={ s with heap:=h' }) e c d (by decide) ⟨x,H,I1,ru,⟨rfl,fun ys hy=>by rw [I.list_inj hy hq]; exact hx⟩,st',fun b hb=>(hf b hb).1⟩⟩
 done:=by
  intro X hP hw hK hc i pins s σ H E I hf st hg
  subst hP hw hK
  obtain ⟨xs,hq,hx⟩:=hg
  obtain ⟨its,rv,p,hz⟩:=I.list hq
  obtain ⟨f0,f1,f2,f3,f4,f5⟩:=hf it (by simp)
  have hl:=rv.length
  exact wpAny_pyNext_list_end (I.ok.hd hc.cm) st p.isList (by simp; omega) fun h' eb=>⟨rfl,I.turned (t':=s.toks) (fun b o hb e=>eb b o hb e) f0 f1 f3 f4 f5⟩
 self:=fun _ _ _ _ _ st h=>wpAny_pyIter_listiter st h
theorem turn_tuple {P:Program} {w:World} {K:PySem.W.Frag} {tg:Expr} (a it:Addr):Turn false P w K tg (Itt K a) [it] it (fun i h=>h.IsTupleIter it a i) where
 mem:=by simp
 obj:=fun i h st b hb=>by
  have e:b=it:=by simpa using hb
  subst e
  obtain ⟨o,e,c,d⟩:=st
  exact ⟨o,e,fun v z=>by rw [d] at z; cases z⟩
 keep:=fun i h h' st k=>st.at fun o e=>k it (by simp) o e
 item:=by
  intro X hP hw hK hc i pins s σ H E I hf st hg
  subst hP hw hK
  obtain ⟨xs,x,hq,hx⟩:=hg
  obtain ⟨its,rv,p,hz⟩:=I.tuple hq
  obtain ⟨u,hu,ru⟩:=rv.get hx
  obtain ⟨f0,f1,f2,f3,f4,f5⟩:=hf it (by simp)
  refine wpAny_pyNext_tuple_item st (show s.heap.IsTuple a its.toArray from p) (x:=u) (by simpa using hu) fun h' st' sb=>?_
  have I1:Inv X pins σ H { s with heap:=h' }:=I.turned (t':=s.toks) (fun b o hb e=>(sb.2 b hb).trans e) f0 f1 f3 f4 f5
  obtain ⟨o,e,c,d⟩:=id st'
  exact ⟨u,rfl,go_of (s:={ s with heap:=h' }) e c d (by decide) ⟨x,H,I1,ru,⟨rfl,fun ys hy=>by rw [I.tuple_inj hy hq]; exact hx⟩,st',fun b hb=>(hf b hb).1⟩⟩
 done:=by
  intro X hP hw hK hc i pins s σ H E I hf st hg
  subst hP hw hK
  obtain ⟨xs,hq,hx⟩:=hg
  obtain ⟨its,rv,p,hz⟩:=I.tuple hq
  obtain ⟨f0,f1,f2,f3,f4,f5⟩:=hf it (by simp)
  have hl:=rv.length
  exact wpAny_pyNext_tuple_end (I.ok.hd hc.cm) st (show s.heap.IsTuple a its.toArray from p) (by simp; omega) fun h' eb=>⟨rfl,I.turned (t':=s.toks) (fun b o hb e=>eb b o hb e) f0 f1 f3 f4 f5⟩
 self:=fun _ _ _ _ _ st h=>wpAny_pyIter_tupleiter st h
theorem turn_range {qb:Bool} {P:Program} {w:World} {K:PySem.W.Frag} {tg:Expr} (it:Addr) (lo:Int) (n:Nat):Turn qb P w K tg (Itr lo n) [it] it (fun i h=>IsRangeIter h it (lo + (i:Nat) * 1) ((n:Int) - (i:Nat)) 1) where
 mem:=by simp
 obj:=fun i h st b hb=>by
  have e:b=it:=by simpa using hb
  subst e
  exact ⟨_,st,fun v z=>by
   have z':Data.fields _=Data.cell v:=z
   cases z'⟩
 keep:=fun i h h' st k=>k it (by simp) _ st
 item:=by
  intro X hP hw hK hc i pins s σ H E I hf st hg
  subst hP hw hK
  obtain ⟨f0,f1,f2,f3,f4,f5⟩:=hf it (by simp)
  have hg':(i:Nat) < n:=hg
  refine wpAny_pyNext_range_item st (by omega) fun h' st' kk=>?_
  have I1:Inv X pins σ H { s with heap:=h',toks:=s.toks + 1 }:=I.turned (fun b o hb e=>(kk.2 b hb).trans e) f0 f1 f3 f4 f5
  have st2:IsRangeIter h' it (lo + ((i + 1:Nat):Int) * 1) ((n:Int) - ((i + 1:Nat):Int)) 1:=by
   have e1:lo + ((i + 1:Nat):Int) * 1=lo + (i:Nat) * 1 + 1:=by omega
   have e2:(n:Int) - ((i + 1:Nat):Int)=(n:Int) - (i:Nat) - 1:=by omega
   rw [e1,e2]; exact st'
  refine ⟨_,rfl,go_of (s:={ s with heap:=h',toks:=s.toks + 1 }) (n:="range_iterator") st2 rfl rfl (by decide) ⟨.int (lo + i),H,I1,⟨s.toks,?_⟩,⟨rfl,rfl⟩,st2,fun b hb=>(hf b hb).1⟩⟩
  rw [Int.mul_one]
 done:=by
  intro X hP hw hK hc i pins s σ H E I hf st hg
  subst hP hw hK
  obtain ⟨f0,f1,f2,f3,f4,f5⟩:=hf it (by simp)
  have hg':n≤i:=hg
  rcases I.qt hc with hh | ⟨ha,hh,z⟩
  ·exact wpAny_pyNext_range_end hh st (by omega) fun h' eb=>⟨rfl,I.turned (t':=s.toks) (fun b o hb e=>eb b o hb e) f0 f1 f3 f4 f5⟩
  ·exact rangeEndZ hh z st (by omega) fun h' eb=>⟨rfl,I.turned (t':=s.toks) (fun b o hb e=>eb b o hb e) f0 f1 f3 f4 f5⟩
 self:=fun _ _ _ _ _ st h=>wpAny_pyIter_rangeiter st h
end L2
namespace L2
open PySem PySem.Spec PyProof.Rows
section
variable {X:Cx} {tg:Expr}
noncomputable def iList (K:PySem.W.Frag) (tl:TE):TI:=fun σ H R=>tl σ H fun x H1=>∃ a,x=.ref a∧(∃ xs,SqL K H1 a xs)∧R (Itl K a) H1
noncomputable def iTup (K:PySem.W.Frag) (tl:TE):TI:=fun σ H R=>tl σ H fun x H1=>∃ a,x=.ref a∧(∃ xs,SqT K H1 a xs)∧R (Itt K a) H1
theorem pi_list {l:Expr} {tl:TE} (hl:PE X l tl):PI X tg l (iList X.K tl):=by
 intro pins s σ H R I h
 refine thn (hl pins s σ H _ I h) fun v s1 zq=>?_
 obtain ⟨x,H1,I1,r1,q1⟩:=zq
 obtain ⟨a,e,⟨xs,hq⟩,q⟩:=q1
 subst e
 cases r1
 obtain ⟨its,rv,p,hz⟩:=I1.list hq
 refine wpAny_pyIter_list p.isList ?_
 refine ⟨s1.heap.objs.size,[s1.heap.objs.size],_,_,H1,rfl,I1.kept (t':=s1.toks) fun b o e=>Heap.get?_push_of_some _ e,turn_list a _,⟨_,Heap.get?_push_size _ rfl,rfl,rfl⟩,fun b hb=>?_,q⟩
 have e:b=s1.heap.objs.size:=by simpa using hb
 subst e
 exact I1.fpOk (Nat.le_refl _) (I1.hok.fresh (Nat.le_refl _))
theorem pi_tup {l:Expr} {tl:TE} (hl:PE X l tl):PI X tg l (iTup X.K tl):=by
 intro pins s σ H R I h
 refine thn (hl pins s σ H _ I h) fun v s1 zq=>?_
 obtain ⟨x,H1,I1,r1,q1⟩:=zq
 obtain ⟨a,e,⟨xs,hq⟩,q⟩:=q1
 subst e
 cases r1
 obtain ⟨its,rv,p,hz⟩:=I1.tuple hq
 refine wpAny_pyIter_tuple (show s1.heap.IsTuple a its.toArray from p) ?_
 refine ⟨s1.heap.objs.size,[s1.heap.objs.size],_,_,H1,rfl,I1.kept (t':=s1.toks) fun b o e=>Heap.get?_push_of_some _ e,turn_tuple a _,⟨_,Heap.get?_push_size _ rfl,rfl,rfl⟩,fun b hb=>?_,q⟩
 have e:b=s1.heap.objs.size:=by simpa using hb
 subst e
 exact I1.fpOk (Nat.le_refl _) (I1.hok.fresh (Nat.le_refl _))
theorem range_it {qb:Bool} {pins:List (Addr × Obj)} {σ:St} {H:Hp} {s:Shared} {R:It→Hp→Prop} {E:Value→Shared→Prop} {lo hi:Int} {t u v:Tok} {tk:Nat} (I:Inv X pins σ H s) (h1:-(2 ^ 62)≤lo) (h2:lo < 2 ^ 62) (h3:-(2 ^ 62)≤hi) (h4:hi < 2 ^ 62)
  (q:R (Itr lo (hi - lo).toNat) H):wpAny (model X.prog X.w) X.A (pyIter (.ref s.heap.objs.size)) (PIEb qb X pins σ tg R) E { s with heap:=s.heap.push { cls:=.type "range",data:=.fields #[.int lo t,.int hi u,.int 1 v] },toks:=tk }:=by
 refine wpAny_pyIter_range (IsRange.new ..) (small_one h1 h2 h3 h4) ?_
 have I1:Inv X pins σ H { s with heap:=s.heap.push { cls:=.type "range",data:=.fields #[.int lo t,.int hi u,.int 1 v] },toks:=tk }:=I.kept fun b o e=>Heap.get?_push_of_some _ e
 refine ⟨(s.heap.push { cls:=.type "range",data:=.fields #[.int lo t,.int hi u,.int 1 v] }).objs.size,[(s.heap.push { cls:=.type "range",data:=.fields #[.int lo t,.int hi u,.int 1 v] }).objs.size],_,_,H,rfl,
  I1.kept (t':=tk) fun b o e=>Heap.get?_push_of_some _ e,turn_range _ lo (hi - lo).toNat,?_,fun b hb=>?_,q⟩
 ·have e1:lo + ((0:Nat):Int) * 1=lo:=by simp
  have e2:(((hi - lo).toNat:Nat):Int) - ((0:Nat):Int)=Builtin.Range.rangeSize lo hi 1:=by rw [rangeSize_one]; split <;> omega
  show IsRangeIter _ _ (lo + ((0:Nat):Int) * 1) ((((hi - lo).toNat:Nat):Int) - ((0:Nat):Int)) 1
  rw [e1,e2]
  exact Heap.get?_push_size _ rfl
 ·have e:b=(s.heap.push { cls:=.type "range",data:=.fields #[.int lo t,.int hi u,.int 1 v] }).objs.size:=by simpa using hb
  subst e
  exact I1.fpOk (Nat.le_refl _) (I1.hok.fresh (Nat.le_refl _))
noncomputable def iRng1 (ta:TA):TI:=fun σ H R=>ta σ H fun vs H1=>∃ j:Int,vs=[.int j]∧-(2 ^ 62)≤j∧j < 2 ^ 62∧R (Itr 0 j.toNat) H1
theorem pi_range1 {qb:Bool} {a:Expr} {ta:TA} {p pos:Pos} (hg:Gl X "range") (hm:X.mg "range" = none) (ha:PA X [a] ta) (hs:autoParam (starEach [a] X.env=[(false,eval a X.env)]) Au.h1._auto_1):PIb qb X tg (.Call (.Name "range" p) [a] [] pos) (iRng1 ta):=by
 intro pins s σ H R I h
 refine Call_ (ld_blt I hg hm boot_range (PyProof.Rows.callWith_type1 (thn (ha pos pins s σ H _ I h) fun us s1 zq=>?_) hs rfl))
 obtain ⟨vs,H1,I1,r1,q1⟩:=zq
 obtain ⟨j,e,q1,q2,q⟩:=q1
 subst e
 cases r1 with
 | cons r rr=>
  cases rr
  obtain ⟨t,rfl⟩:=r
  exact call_range_1 (range_it I1 (by omega) (by omega) q1 q2 (by simpa using q))
noncomputable def tFor (wi:TI) (g:TG) (tb:TS):TS:=fun D σ H=>wi σ H fun J H1=>∃ W:Nat→Nat→St→Hp→Prop,(∃ m,W 0 m σ H1)∧∀ i m σ H,W i m σ H→
 (J.stop i H∧D.nx σ H) ∨ (J.go i H∧∃ N:St→Hp→Prop,(∀ σ' H',N σ' H'→∃ m',m' < m∧W (i + 1) m' σ' H')∧∀ x H',J.yld i H x H'→g x σ H' fun σ2 H2=>tb { D with nx:=N,ct:=N,bk:=D.nx } σ2 H2)
noncomputable def pinsAt (fp:List Addr) (h:Heap):List (Addr × Obj):=fp.filterMap fun b=>(h.get? b).map fun o=>(b,o)
theorem mem_pinsAt {fp:List Addr} {h:Heap} {b:Addr} {o:Obj} (hb:b ∈ fp) (e:h.get? b=some o):(b,o) ∈ pinsAt fp h:=List.mem_filterMap.mpr ⟨b,hb,by rw [e]; rfl⟩
theorem of_pinsAt {fp:List Addr} {h:Heap} {p:Addr × Obj} (hp:p ∈ pinsAt fp h):p.1 ∈ fp∧h.get? p.1=some p.2:=by
 obtain ⟨b,hb,e⟩:=List.mem_filterMap.mp hp
 cases q:h.get? b with
 | none=>rw [q] at e; cases e
 | some o=>
  rw [q] at e
  have e':(b,o)=p:=Option.some.inj e
  subst e'
  exact ⟨hb,q⟩
theorem Inv.pinned {pins:List (Addr × Obj)} {σ:St} {H:Hp} {s:Shared} {fp:List Addr} (I:Inv X pins σ H s) (hf:∀ b ∈ fp,FpOk X pins H b) (ho:∀ b ∈ fp,∃ o,s.heap.get? b=some o∧∀ v,o.data ≠ .cell v):Inv X (pins ++ pinsAt fp s.heap) σ H s:=
 I.pins_of fun p hp=>(List.mem_append.mp hp).elim (fun z=>I.pin p (List.mem_append_right _ z)) fun z=>by
  obtain ⟨hb,e⟩:=of_pinsAt z
  obtain ⟨f0,f1,f2,_⟩:=hf p.1 hb
  obtain ⟨o,e',d⟩:=ho p.1 hb
  rw [e] at e'; cases e'
  exact ⟨e,f0,f1,f2,d⟩
theorem Inv.unpinned {pins pl:List (Addr × Obj)} {σ:St} {H:Hp} {s:Shared} (I:Inv X (pins ++ pl) σ H s):Inv X pins σ H s:=I.pins_of fun p hp=>I.pin p (List.mem_append_right _ (List.mem_append_left _ hp))
theorem ps_for {iter:Expr} {body:List Stmt} {wi:TI} {g:TG} {tb:TS} {pos:Pos} (hp:PassesOwn (model X.prog X.w) X.A X.env X.xe) (hc:X.calm=true) (hi:PI X tg iter wi) (hg:PG X tg g) (hb:PSs X body tb)
  (hs:autoParam (∀ x,foldedSetIterable iter X.env x=pure x) Au.h5._auto_1):PS X (.For tg iter body [] pos) (tFor wi g tb):=by
 intro pins s σ H D I h
 refine wpAny_For (thn (hi pins s σ H _ I h) fun v s1 h1=>thn h1 fun itv s2 h2=>?_) hs
 obtain ⟨it,fp,tn,J,H2,e,I2,T,st2,f2,W,⟨m0,w0⟩,turn⟩:=h2
 subst e
 -- what stays true of the iterator's objects through the loop
 have stat:∀ {H':Hp},(∀ b ∈ fp,H' b=none)→∀ b ∈ fp,FpOk X pins H' b:=fun hn b hb=>⟨hn b hb,(f2 b hb).2⟩
 refine codeAny_forLoop_any (fun n s'=>∃ i σ' H',Inv X pins σ' H' s'∧tn i s'.heap∧(∀ b ∈ fp,H' b=none)∧W i n σ' H') ?_ m0 ⟨0,σ,H2,I2,st2,fun b hb=>(f2 b hb).1,w0⟩
 rintro n s3 ⟨i,σ3,H3,I3,st3,fr3,w3⟩
 rcases turn i n σ3 H3 w3 with ⟨stop,qn⟩ | ⟨go,N,hN,step⟩
 ·refine wpAny_passesOwn hp (thn (T.done X rfl rfl rfl (.inl hc) i pins s3 σ3 H3 X.xe I3 (stat fr3) st3 stop) fun r s4 zq=>?_)
  obtain ⟨hr,I4⟩:=zq
  subst hr
  exact wpAny_execs_nil ⟨σ3,H3,I4,qn⟩
 ·refine wpAny_passesOwn hp (thn (T.item X rfl rfl rfl (.inl hc) i pins s3 σ3 H3 X.xe I3 (stat fr3) st3 go) fun r s4 zq=>?_)
  obtain ⟨u,hr,h4⟩:=zq
  subst hr
  refine wpAny_passesOwn hp (thn h4 fun _ s5 zq=>?_)
  obtain ⟨x,H5,I5,r5,y5,st5,fr5⟩:=zq
  have I5':=I5.pinned (stat fr5) (T.obj _ _ st5)
  refine wpAny_passesOwn hp (thn (hg _ s5 σ3 H5 x u _ I5' r5 (step x H5 y5)) fun _ s6 zq=>?_)
  obtain ⟨σ6,H6,I6,q6⟩:=zq
  refine wpAny_passesOwn hp (thn (hb _ s6 σ6 H6 _ I6 q6) fun f s7 q7=>?_)
  have again:∀ {σ7:St} {H7:Hp},Inv X (pins ++ pinsAt fp s5.heap) σ7 H7 s7→N σ7 H7→∃ m,m < n∧∃ i σ' H',Inv X pins σ' H' s7∧tn i s7.heap∧(∀ b ∈ fp,H' b=none)∧W i m σ' H':=fun {σ7 H7} I7 n7=>by
   obtain ⟨m',hm,w7⟩:=hN σ7 H7 n7
   refine ⟨m',hm,i + 1,σ7,H7,I7.unpinned,T.keep _ _ _ st5 fun b hb o e=>(I7.pin (b,o) (List.mem_append_right _ (List.mem_append_right _ (mem_pinsAt hb e)))).1,fun b hb=>?_,w7⟩
   obtain ⟨o,e,d⟩:=T.obj _ _ st5 b hb
   exact (I7.pin (b,o) (List.mem_append_right _ (List.mem_append_right _ (mem_pinsAt hb e)))).2.1
  cases f with
  | next=>obtain ⟨σ7,H7,I7,n7⟩:=q7; exact again I7 n7
  | cont=>obtain ⟨σ7,H7,I7,n7⟩:=q7; exact again I7 n7
  | brk=>obtain ⟨σ7,H7,I7,q7⟩:=q7; exact ⟨σ7,H7,I7.unpinned,q7⟩
  | ret v=>obtain ⟨x7,σ7,H7,I7,r7,q7⟩:=q7; exact ⟨x7,σ7,H7,I7.unpinned,r7,q7⟩
end
end L2
namespace L2
open PySem PySem.Spec PyProof.Rows
noncomputable abbrev R2:=V→V→Hp→VK→Prop
noncomputable def OpR (X:Cx) (f:Value→Value→Sem Value) (r:R2):Prop:=
 ∀ (pins:List (Addr × Obj)) (s:Shared) (σ:St) (H:Hp) (x y:V) (v u:Value) (Q:VK),Inv X pins σ H s→RelV x v→RelV y u→r x y H Q→
  wpAny (model X.prog X.w) X.A (f v u) (EP X pins σ Q) X.xe s
noncomputable def UnR (X:Cx) (f:Value→Sem Value) (r:V→Hp→VK→Prop):Prop:=
 ∀ (pins:List (Addr × Obj)) (s:Shared) (σ:St) (H:Hp) (x:V) (v:Value) (Q:VK),Inv X pins σ H s→RelV x v→r x H Q→
  wpAny (model X.prog X.w) X.A (f v) (EP X pins σ Q) X.xe s
noncomputable def CallR (X:Cx) (f:Value) (r:List V→Hp→VK→Prop):Prop:=
 ∀ (pins:List (Addr × Obj)) (s:Shared) (σ:St) (H:Hp) (xs:List V) (us:List Value) (Q:VK),Inv X pins σ H s→Vals xs us→r xs H Q→
  wpAny (model X.prog X.w) X.A (call f us) (EP X pins σ Q) X.xe s
noncomputable def tOp (r:R2) (ta tb:TE):TE:=fun σ H Q=>ta σ H fun x H1=>tb σ H1 fun y H2=>r x y H2 Q
noncomputable def tUn (r:V→Hp→VK→Prop) (ta:TE):TE:=fun σ H Q=>ta σ H fun x H1=>r x H1 Q
noncomputable def rI (C:Int→Int→Prop) (g:Int→Int→V):R2:=fun x y H Q=>∃ i j,x=.int i∧y=.int j∧C i j∧Q (g i j) H
noncomputable def rI0 (g:Int→Int→V):R2:=fun x y H Q=>∃ i j,x=.int i∧y=.int j∧Q (g i j) H
noncomputable def rU (g:Int→V):V→Hp→VK→Prop:=fun x H Q=>∃ i,x=.int i∧Q (g i) H
section
variable {X:Cx} {a b c:Expr} {ta tb tc:TE} {pos:Pos}
theorem binT (ha:PE X a ta) (hb:PE X b tb) {pins:List (Addr × Obj)} {s:Shared} {σ:St} {H:Hp} {R:V→V→Hp→Prop} (I:Inv X pins σ H s)
  (h:ta σ H fun x H1=>tb σ H1 fun y H2=>R x y H2) {Q:Value→Shared→Prop} {f:Value→Value→Sem Value}
  (hf:∀ v u s2 x y H2,Inv X pins σ H2 s2→RelV x v→RelV y u→R x y H2→wpAny (model X.prog X.w) X.A (f v u) Q X.xe s2):
  wpAny (model X.prog X.w) X.A (eval a X.env) (fun v s₁=>wpAny (model X.prog X.w) X.A (eval b X.env) (fun u s₂=>wpAny (model X.prog X.w) X.A (f v u) Q X.xe s₂) X.xe s₁) X.xe s:=by
 refine thn (ha pins s σ H _ I h) fun v s1 zq=>?_
 obtain ⟨x,H1,I1,r1,q1⟩:=zq
 refine thn (hb pins s1 σ H1 _ I1 q1) fun u s2 zq=>?_
 obtain ⟨y,H2,I2,r2,q2⟩:=zq
 exact hf v u s2 x y H2 I2 r1 r2 q2
theorem pe_op {op:Operator} {r:R2} (ho:OpR X (binaryOp op) r) (ha:PE X a ta) (hb:PE X b tb):PE X (.BinOp a op b pos) (tOp r ta tb):=by
 intro pins s σ H Q I h
 exact wpAny_BinOp (binT ha hb I h fun v u s2 x y H2 I2 rx ry q=>ho pins s2 σ H2 x y v u Q I2 rx ry q)
theorem pe_un {op:UnaryOp} {r:V→Hp→VK→Prop} (ho:UnR X (unaryOp op) r) (ha:PE X a ta):PE X (.UnaryOp op a pos) (tUn r ta):=by
 intro pins s σ H Q I h
 exact UnaryOp_ (thn (ha pins s σ H _ I h) fun v s1 zq=>ex5 zq fun x H1 I1 r1 q1=>ho pins s1 σ H1 x v Q I1 r1 q1)
theorem opI {f:Value→Value→Sem Value} {C:Int→Int→Prop} {g:Int→Int→Int}
  (rule:∀ (i j:Int) (t u:Tok) (s:Shared) (Q:Value→Shared→Prop) (E:Value→Shared→Prop),C i j→Q (.int (g i j) s.toks) { s with toks:=s.toks + 1 }→wpAny (model X.prog X.w) X.A (f (.int i t) (.int j u)) Q E s):
  OpR X f (rI C fun i j=>.int (g i j)):=by
 intro pins s σ H x y v u Q I rx ry h
 obtain ⟨i,j,rfl,rfl,hc,q⟩:=h
 obtain ⟨t,rfl⟩:=rx
 obtain ⟨t',rfl⟩:=ry
 exact rule i j t t' s _ _ hc ⟨.int (g i j),H,I.tok _,⟨_,rfl⟩,q⟩
theorem opI0 {f:Value→Value→Sem Value} {g:Int→Int→Int}
  (rule:∀ (i j:Int) (t u:Tok) (s:Shared) (Q:Value→Shared→Prop) (E:Value→Shared→Prop),Q (.int (g i j) s.toks) { s with toks:=s.toks + 1 }→wpAny (model X.prog X.w) X.A (f (.int i t) (.int j u)) Q E s):
  OpR X f (rI0 fun i j=>.int (g i j)):=by
 intro pins s σ H x y v u Q I rx ry h
 obtain ⟨i,j,rfl,rfl,q⟩:=h
 obtain ⟨t,rfl⟩:=rx
 obtain ⟨t',rfl⟩:=ry
 exact rule i j t t' s _ _ ⟨.int (g i j),H,I.tok _,⟨_,rfl⟩,q⟩
theorem opB0 {f:Value→Value→Sem Value} {g:Int→Int→Bool}
  (rule:∀ (i j:Int) (t u:Tok) (s:Shared) (Q:Value→Shared→Prop) (E:Value→Shared→Prop),Q (.bool (g i j)) s→wpAny (model X.prog X.w) X.A (f (.int i t) (.int j u)) Q E s):
  OpR X f (rI0 fun i j=>.bl (g i j)):=by
 intro pins s σ H x y v u Q I rx ry h
 obtain ⟨i,j,rfl,rfl,q⟩:=h
 obtain ⟨t,rfl⟩:=rx
 obtain ⟨t',rfl⟩:=ry
 exact rule i j t t' s _ _ ⟨.bl (g i j),H,I,rfl,q⟩
noncomputable def CDiv (i j:Int):Prop:=0 < j∧j < 1073741824
noncomputable def CPow (i j:Int):Prop:=0≤j∧j≤1000000∧i.natAbs < 2 ^ 64
noncomputable def CMul (i j:Int):Prop:=(-(2 ^ 64) < i∧i < 2 ^ 64) ∨ (-(2 ^ 64) < j∧j < 2 ^ 64)
theorem CMul.ok {i j:Int} (h:CMul i j):IntMulOk i j:=by
 rcases h with ⟨h1,h2⟩ | ⟨h1,h2⟩
 ·exact .of_left (intBits_le_64 h1 h2)
 ·exact .of_right (intBits_le_64 h1 h2)
theorem op_add:OpR X (binaryOp .Add) (rI0 fun i j=>.int (i + j)):=opI0 fun _ _ _ _ _ _ _ q=>add_int q
theorem op_mul:OpR X (binaryOp .Mult) (rI CMul fun i j=>.int (i * j)):=opI fun _ _ _ _ _ _ _ hc q=>mul_int q hc.ok
theorem op_fdiv:OpR X (binaryOp .FloorDiv) (rI CDiv fun i j=>.int (i / j)):=opI fun i j _ _ _ _ _ hc q=>by
 have h1:(0:Int) < j:=hc.1
 have h2:j < 1073741824:=hc.2
 exact floordiv_int (by omega) (by rw [Int.fdiv_eq_ediv_of_nonneg i (by omega)]; exact q) (.inl (PyProof.noPylong_small (by omega)))
theorem op_mod:OpR X (binaryOp .Mod) (rI (fun _ j=>0 < j) fun i j=>.int (i % j)):=opI fun i j _ _ _ _ _ hc q=>by
 have h1:(0:Int) < j:=hc
 exact mod_int' (by omega) (by rw [Int.fmod_eq_emod_of_nonneg i (by omega)]; exact q)
theorem op_pow:OpR X (binaryOp .Pow) (rI CPow fun i j=>.int (i ^ j.toNat)):=opI fun _ _ _ _ _ _ _ hc q=>pow_int_small hc.1 hc.2.1 hc.2.2 q
theorem op_shl:OpR X (binaryOp .LShift) (rI CPow fun i j=>.int (i * 2 ^ j.toNat)):=opI fun _ _ _ _ _ _ _ hc q=>lshift_int_small hc.1 hc.2.1 hc.2.2 q
theorem unI {f:Value→Sem Value} {g:Int→Int}
  (rule:∀ (i:Int) (t:Tok) (s:Shared) (Q:Value→Shared→Prop) (E:Value→Shared→Prop),Q (.int (g i) s.toks) { s with toks:=s.toks + 1 }→wpAny (model X.prog X.w) X.A (f (.int i t)) Q E s):
  UnR X f (rU fun i=>.int (g i)):=by
 intro pins s σ H x v Q I rx h
 obtain ⟨i,rfl,q⟩:=h
 obtain ⟨t,rfl⟩:=rx
 exact rule i t s _ _ ⟨.int (g i),H,I.tok _,⟨_,rfl⟩,q⟩
theorem un_neg:UnR X (unaryOp .USub) (rU fun i=>.int (-i)):=unI fun _ _ _ _ _ q=>neg_int q
end
noncomputable def scal:V→V→Bool
 | .non,.non=>true | .non,.int _=>true | .int _,.non=>true | .non,.bl _=>true | .bl _,.non=>true | .non,.str _=>true | .str _,.non=>true
 | .int _,.int _=>true | .bl _,.bl _=>true | .str _,.str _=>true | .byt _,.byt _=>true
 | .int _,.str _=>true | .str _,.int _=>true | .bl _,.str _=>true | .str _,.bl _=>true
 | _,_=>false
noncomputable def rEq:R2:=fun x y H Q=>scal x y=true∧Q (.bl (decide (x=y))) H
noncomputable def rNe:R2:=fun x y H Q=>scal x y=true∧Q (.bl (!decide (x=y))) H
theorem dec_int {i j:Int}:decide (V.int i=V.int j)=(i == j):=by
 rw [Bool.eq_iff_iff]
 simp
theorem dec_bl {i j:Bool}:decide (V.bl i=V.bl j)=(i == j):=by
 rw [Bool.eq_iff_iff]
 simp
theorem dec_str {i j:Str}:decide (V.str i=V.str j)=(i == j):=by
 rw [Bool.eq_iff_iff]
 simp
theorem dec_byt {i j:Array UInt8}:decide (V.byt i=V.byt j)=(i.toList == j.toList):=by
 rw [Bool.eq_iff_iff]
 cases i
 cases j
 simp
section
variable {X:Cx} {a b c:Expr} {ta tb tc:TE} {pos:Pos}
theorem fin_bl {pins:List (Addr × Obj)} {σ:St} {H:Hp} {s:Shared} {Q:VK} {k k':Bool} (I:Inv X pins σ H s) (q:Q (.bl k) H) (e:k=k'):EP X pins σ Q (.bool k') s:=by
 subst e
 exact ⟨.bl k,H,I,rfl,q⟩
theorem op_eq:OpR X (compareOp .Eq) rEq:=by
 intro pins s σ H x y v u Q I rx ry h
 obtain ⟨hs,q⟩:=h
 cases x with
 | non=>
  cases rx
  cases y with
  | non=>cases ry; exact PySem.EqNone.eq_none_none (fin_bl I q (by simp))
  | bl j=>cases ry; exact PySem.EqNone.eq_none_bool (fin_bl I q (by simp))
  | int j=>obtain ⟨t',rfl⟩:=ry; exact PySem.EqNone.eq_none_int (fin_bl I q (by simp))
  | str j=>obtain ⟨t',rfl⟩:=ry; exact PySem.EqNone.eq_none_str (fin_bl I q (by simp))
  | _=>exact absurd (show false=true from hs) Bool.false_ne_true
 | bl i=>
  cases rx
  cases y with
  | non=>cases ry; exact PySem.EqNone.eq_bool_none (fin_bl I q (by simp))
  | bl j=>cases ry; exact eq_bool (fin_bl I q dec_bl)
  | str j=>obtain ⟨t',rfl⟩:=ry; exact PySem.EqMixed.eq_bool_str (fin_bl I q (by simp))
  | _=>exact absurd (show false=true from hs) Bool.false_ne_true
 | int i=>
  obtain ⟨t,rfl⟩:=rx
  cases y with
  | non=>cases ry; exact PySem.EqNone.eq_int_none (fin_bl I q (by simp))
  | int j=>obtain ⟨t',rfl⟩:=ry; exact eq_int (fin_bl I q dec_int)
  | str j=>obtain ⟨t',rfl⟩:=ry; exact PySem.EqMixed.eq_int_str (fin_bl I q (by simp))
  | _=>exact absurd (show false=true from hs) Bool.false_ne_true
 | str i=>
  obtain ⟨t,rfl⟩:=rx
  cases y with
  | non=>cases ry; exact PySem.EqNone.eq_str_none (fin_bl I q (by simp))
  | bl j=>cases ry; exact PySem.EqMixed.eq_str_bool (fin_bl I q (by simp))
  | int j=>obtain ⟨t',rfl⟩:=ry; exact PySem.EqMixed.eq_str_int (fin_bl I q (by simp))
  | str j=>obtain ⟨t',rfl⟩:=ry; exact eq_str (fin_bl I q dec_str)
  | _=>exact absurd (show false=true from hs) Bool.false_ne_true
 | byt i=>
  obtain ⟨t,rfl⟩:=rx
  cases y with
  | byt j=>obtain ⟨t',rfl⟩:=ry; exact PySem.W.eq_bytes (fin_bl I q dec_byt)
  | _=>exact absurd (show false=true from hs) Bool.false_ne_true
 | _=>cases y <;> exact absurd (show false=true from hs) Bool.false_ne_true
theorem op_ne:OpR X (compareOp .NotEq) rNe:=by
 intro pins s σ H x y v u Q I rx ry h
 obtain ⟨hs,q⟩:=h
 cases x with
 | non=>
  cases rx
  cases y with
  | non=>cases ry; exact PySem.EqNone.ne_none_none (fin_bl I q (by simp))
  | bl j=>cases ry; exact PySem.EqNone.ne_none_bool (fin_bl I q (by simp))
  | int j=>obtain ⟨t',rfl⟩:=ry; exact PySem.EqNone.ne_none_int (fin_bl I q (by simp))
  | str j=>obtain ⟨t',rfl⟩:=ry; exact PySem.EqNone.ne_none_str (fin_bl I q (by simp))
  | _=>exact absurd (show false=true from hs) Bool.false_ne_true
 | bl i=>
  cases rx
  cases y with
  | non=>cases ry; exact PySem.EqNone.ne_bool_none (fin_bl I q (by simp))
  | bl j=>cases ry; exact ne_bool (fin_bl I q (congrArg not dec_bl))
  | str j=>obtain ⟨t',rfl⟩:=ry; exact PySem.EqMixed.ne_bool_str (fin_bl I q (by simp))
  | _=>exact absurd (show false=true from hs) Bool.false_ne_true
 | int i=>
  obtain ⟨t,rfl⟩:=rx
  cases y with
  | non=>cases ry; exact PySem.EqNone.ne_int_none (fin_bl I q (by simp))
  | int j=>obtain ⟨t',rfl⟩:=ry; exact ne_int (fin_bl I q (congrArg not dec_int))
  | str j=>obtain ⟨t',rfl⟩:=ry; exact PySem.EqMixed.ne_int_str (fin_bl I q (by simp))
  | _=>exact absurd (show false=true from hs) Bool.false_ne_true
 | str i=>
  obtain ⟨t,rfl⟩:=rx
  cases y with
  | non=>cases ry; exact PySem.EqNone.ne_str_none (fin_bl I q (by simp))
  | bl j=>cases ry; exact PySem.EqMixed.ne_str_bool (fin_bl I q (by simp))
  | int j=>obtain ⟨t',rfl⟩:=ry; exact PySem.EqMixed.ne_str_int (fin_bl I q (by simp))
  | str j=>obtain ⟨t',rfl⟩:=ry; exact ne_str (fin_bl I q (congrArg not dec_str))
  | _=>exact absurd (show false=true from hs) Bool.false_ne_true
 | byt i=>
  obtain ⟨t,rfl⟩:=rx
  cases y with
  | byt j=>obtain ⟨t',rfl⟩:=ry; exact PySem.W.ne_bytes (fin_bl I q (congrArg not dec_byt))
  | _=>exact absurd (show false=true from hs) Bool.false_ne_true
 | _=>cases y <;> exact absurd (show false=true from hs) Bool.false_ne_true
theorem op_lt:OpR X (compareOp .Lt) (rI0 fun i j=>.bl (decide (i < j))):=opB0 fun _ _ _ _ _ _ _ q=>lt_int q
theorem op_gt:OpR X (compareOp .Gt) (rI0 fun i j=>.bl (decide (j < i))):=opB0 fun _ _ _ _ _ _ _ q=>gt_int q
theorem op_ge:OpR X (compareOp .GtE) (rI0 fun i j=>.bl (decide (j≤i))):=opB0 fun _ _ _ _ _ _ _ q=>ge_int q
theorem nomark (b:Expr) {op:CmpOp} (h:autoParam (op ≠ .In) Au.h2._auto_1) (h2:autoParam (op ≠ .NotIn) Au.h2._auto_1):behindInMarks op b=false:=by
 have e1:(op == CmpOp.In)=false:=by cases op <;> first | rfl | exact absurd rfl h
 have e2:(op == CmpOp.NotIn)=false:=by cases op <;> first | rfl | exact absurd rfl h2
 cases b <;> simp [behindInMarks,e1,e2]
theorem pe_cmpR {op:CmpOp} {r:R2} (ho:OpR X (compareOp op) r) (ha:PE X a ta) (hb:PE X b tb) (hm:behindInMarks op b=false):PE X (.Compare a [op] [b] pos) (tOp r ta tb):=by
 intro pins s σ H Q I h
 exact wpAny_Compare1 (binT ha hb I h fun v u s2 x y H2 I2 rx ry q=>ho pins s2 σ H2 x y v u Q I2 rx ry q) hm
noncomputable def tTest (t:TE):TT:=fun σ H Q=>t σ H fun x H'=>∃ k,x=.bl k∧Q k H'
theorem pt_cmpR {op:CmpOp} {r:R2} (ho:OpR X (compareOp op) r) (ha:PE X a ta) (hb:PE X b tb) (hm:behindInMarks op b=false):PT X (.Compare a [op] [b] pos) (tTest (tOp r ta tb)):=by
 intro pins s σ H Q I h
 refine wpAny_isTrue_Compare1 (thn (ha pins s σ H _ I h) fun v s1 zq=>ex5 zq fun x H1 I1 r1 q1=>thn (hb pins s1 σ H1 _ I1 q1) fun u s2 zq=>ex5 zq fun y H2 I2 r2 q2=>
  thn (ho pins s2 σ H2 x y v u _ I2 r1 r2 q2) fun c s3 ⟨z,H3,I3,r3,k,e,q3⟩=>?_) hm
 subst e
 cases r3
 exact wpAny_truthy_bool ⟨H3,I3,q3⟩
theorem line63:(sizeLine:Nat) < 2 ^ 63:=by rw [sizeLine_eq]; decide
theorem op_add_str:OpR X (binaryOp .Add) (fun x y H Q=>∃ i j,x=.str i∧y=.str j∧i.length + j.length≤sizeLine∧Q (.str (i ++ j)) H):=by
 intro pins s σ H x y v u Q I rx ry h
 obtain ⟨i,j,rfl,rfl,hz,q⟩:=h
 obtain ⟨t,rfl⟩:=rx
 obtain ⟨t',rfl⟩:=ry
 exact add_str (fun t' tk=>⟨.str (i ++ j),H,I.tok _,⟨_,rfl⟩,q⟩) hz
theorem vals1 {x:V} {us:List Value} (r:Vals [x] us):∃ u,us=[u]∧RelV x u:=by
 cases r with
 | cons r1 r2=>cases r2; exact ⟨_,rfl,r1⟩
theorem vals2 {x y:V} {us:List Value} (r:Vals [x,y] us):∃ u w',us=[u,w']∧RelV x u∧RelV y w':=by
 cases r with
 | cons r1 r2=>
  cases r2 with
  | cons r3 r4=>cases r4; exact ⟨_,_,rfl,r1,r3⟩
theorem call_abs:CallR X (.builtin "abs") (fun xs H Q=>∃ i,xs=[.int i]∧Q (.int (if i < 0 then -i else i)) H):=by
 intro pins s σ H xs us Q I r h
 obtain ⟨i,rfl,q⟩:=h
 obtain ⟨u,rfl,t,rfl⟩:=vals1 r
 exact call_abs_int fun u tk=>⟨.int (if i < 0 then -i else i),H,I.tok _,⟨_,rfl⟩,q⟩
theorem call_max2 (hc:X.calm=true):CallR X (.builtin "max") (fun xs H Q=>∃ i j,xs=[.int i,.int j]∧Q (.int (if j > i then j else i)) H):=by
 intro pins s σ H xs us Q I r h
 obtain ⟨i,j,rfl,q⟩:=h
 obtain ⟨u,w',rfl,⟨t,rfl⟩,⟨t',rfl⟩⟩:=vals2 r
 refine max_two_ints (I.ok.hd hc) fun h' tk k=>⟨_,H,I.kept k,?_,q⟩
 by_cases hj:j > i
 ·rw [if_pos hj,if_pos hj]; exact ⟨_,rfl⟩
 ·rw [if_neg hj,if_neg hj]; exact ⟨_,rfl⟩
theorem call_min2 (hc:X.calm=true):CallR X (.builtin "min") (fun xs H Q=>∃ i j,xs=[.int i,.int j]∧Q (.int (if j < i then j else i)) H):=by
 intro pins s σ H xs us Q I r h
 obtain ⟨i,j,rfl,q⟩:=h
 obtain ⟨u,w',rfl,⟨t,rfl⟩,⟨t',rfl⟩⟩:=vals2 r
 refine min_two_ints (I.ok.hd hc) fun h' tk k=>⟨_,H,I.kept k,?_,q⟩
 by_cases hj:j < i
 ·rw [if_pos hj,if_pos hj]; exact ⟨_,rfl⟩
 ·rw [if_neg hj,if_neg hj]; exact ⟨_,rfl⟩
theorem call_int1:CallR X (.type "int") (fun xs H Q=>(∃ i,xs=[.int i]∧Q (.int i) H) ∨ ∃ k,xs=[.bl k]∧Q (.int (if k then 1 else 0)) H):=by
 intro pins s σ H xs us Q I r h
 rcases h with ⟨i,rfl,q⟩ | ⟨k,rfl,q⟩
 ·obtain ⟨u,rfl,t,rfl⟩:=vals1 r
  exact call_int_int ⟨.int i,H,I,⟨_,rfl⟩,q⟩
 ·obtain ⟨u,rfl,r1⟩:=vals1 r
  cases r1
  exact call_int_bool ⟨.int (if k then 1 else 0),H,I.tok _,⟨_,rfl⟩,q⟩
theorem call_divmod:CallR X (.builtin "divmod") (fun xs H Q=>∃ i j,xs=[.int i,.int j]∧CDiv i j∧∀ p,H p=none→Q (.ref p) (upd H p (.tup [.int (i / j),.int (i % j)]))):=by
 intro pins s σ H xs us Q I r h
 obtain ⟨i,j,rfl,⟨h1,h2⟩,q⟩:=h
 obtain ⟨u,w',rfl,⟨t,rfl⟩,⟨t',rfl⟩⟩:=vals2 r
 refine divmod_int (by omega) ?_ (.inl (PyProof.noPylong_small (by omega)))
 rw [Int.fdiv_eq_ediv_of_nonneg i (by omega),Int.fmod_eq_emod_of_nonneg i (by omega)]
 have hn:H s.heap.objs.size=none:=I.hok.fresh (Nat.le_refl _)
 refine ⟨.ref s.heap.objs.size,_,?_,rfl,q _ hn⟩
 refine I.laid (fun b o e=>Heap.get?_push_of_some _ e) (Nat.le_refl _) ⟨by simp only [List.length_cons,List.length_nil]; rw [sizeLine_eq]; decide,[.int (i / j) s.toks,.int (i % j) (s.toks + 1)],.cons ⟨_,rfl⟩ (.cons ⟨_,rfl⟩ .nil),?_⟩
 exact ⟨_,Heap.get?_push_size s.heap rfl,rfl,0,rfl⟩
end
end L2
namespace L2
open PySem PySem.Spec PyProof.Rows
structure ObjM (h:Heap) (x dx C:Addr) (mA:Str→Option Value):Prop where
 obj:h.get? x=some (PySem.W.instObj C dx)
 ns:h.Ns1 dx mA
 ne:dx ≠ x
theorem lookIn_ns {h:Heap} {dx:Addr} {mA:Str→Option Value} (n:h.Ns1 dx mA):∃ od,h.get? dx=some od∧∀ name,PySem.W.lookIn name od=some (mA name):=by
 obtain ⟨o,es,ep,ho,hd,hk,_,hm⟩:=n
 refine ⟨o,ho,fun name=>?_⟩
 have e:=hm name
 unfold nsFind findBy at e
 rw [← Array.find?_toList] at e
 unfold PySem.W.lookIn
 rw [hd]
 dsimp only
 split
 ·rename_i y q
  rw [q] at e
  exact congrArg some e
 ·rename_i q
  rw [q] at e
  have a:es.toList.any (·.refKey)=false:=by
   rw [List.any_eq_false]
   intro y hy
   obtain ⟨z,t,hkey⟩:=hk y (Array.mem_toList_iff.mp hy)
   simp [DictEntry.refKey,hkey]
  have a':¬ es.toList.any (·.refKey)=true:=by rw [a]; exact Bool.false_ne_true
  rw [if_neg a']
  exact congrArg some e
theorem ObjM.look {h:Heap} {x dx C:Addr} {mA:Str→Option Value} (I:ObjM h x dx C mA):∃ od,PySem.W.InstAt h x (PySem.W.instObj C dx) C (some od)∧∀ name,PySem.W.lookIn name od=some (mA name):=
 let ⟨od,ho,hl⟩:=lookIn_ns I.ns
 ⟨od,⟨I.obj,rfl,rfl,ho⟩,hl⟩
section
variable {prog:Program} {w:World} {A:Around} {E:Value→Shared→Prop} {s:Shared} {K:PySem.W.Frag} {x dx C f:Addr} {mA:Str→Option Value} {name:Str} {v:Value}
end
section
variable {P:Program} {w:World} {H H':Hp} {h h':Heap} {a C dx:Addr} {fs fs':List (Str × V)}
theorem ins_get (hok:HOk P w H h) (e:H a=some (.ins C dx fs)):∃ mA,ObjM h a dx C mA∧(∀ f,RelO (fs.lookup f) (mA f))∧PySem.Within mA (fs.map (·.1))∧fs.length≤1000∧H dx=some (.own a):=by
 obtain ⟨d,z,ne,ob,mA,n,r,q⟩:=(show ObjOk P w H h a (.ins C dx fs) from hok a _ e)
 exact ⟨mA,⟨ob,n,ne⟩,r,q,z,d⟩
end
structure Cls (K:PySem.W.Frag) (C:Addr):Prop where
 pg:PySem.W.plainGet K C Str.empty=true
 hd:PySem.W.hasDictIn K C=true
 po:PySem.W.plainOver K C=true
 sa:PySem.W.findIn K (.ref C) "__setattr__" = some (some (.builtin "object.__setattr__"))
theorem Cls.get {K:PySem.W.Frag} {C:Addr} (c:Cls K C) (f:Str):PySem.W.plainGet K C f=true:=c.pg
section
variable {X:Cx} {pins:List (Addr × Obj)} {σ:St} {H:Hp} {s:Shared} {a C dx:Addr} {fs:List (Str × V)} {f:Str} {v:V} {A:Around} {E:Value→Shared→Prop}
end
section
variable {X:Cx} {o e value:Expr} {f:Str} {pos pos' tpos:Pos} {ta tv:TE}
end
section
variable {X:Cx} {pins:List (Addr × Obj)} {σ:St} {H:Hp} {s:Shared} {A:Around} {E:Value→Shared→Prop} {Q:Value→Shared→Prop} {c:Value} {b:Bool}
inductive TyOf (K:PySem.W.Frag) (H:Hp):V→Value→Prop where
 | non:TyOf K H .non (.type "NoneType")
 | bl (x:Bool):TyOf K H (.bl x) (.type "bool")
 | int (i:Int):TyOf K H (.int i) (.type "int")
 | str (x:Str):TyOf K H (.str x) (.type "str")
 | flt (x:UInt64):TyOf K H (.flt x) (.type "float")
 | lst {a:Addr} {xs:List V} (e:H a=some (.lst xs)):TyOf K H (.ref a) (.type "list")
 | frz {a:Addr} {o:Obj} {xs:List V} (e:H a=some (.frz o (.lst xs))):TyOf K H (.ref a) (.type "list")
 | tup {a:Addr} {xs:List V} (e:H a=some (.tup xs)):TyOf K H (.ref a) (.type "tuple")
 | dK {a:Addr} {kvs:List (Key × V)} (e:H a=some (.dK kvs)):TyOf K H (.ref a) (.type "dict")
 | dT {a:Addr} {kvs:List (List Key × V)} (e:H a=some (.dT kvs)):TyOf K H (.ref a) (.type "dict")
 | ins {a C dx:Addr} {fs:List (Str × V)} (e:H a=some (.ins C dx fs)) (cl:Cls K C) (ha:PySem.W.findIn K (.ref C) "__class__" = some (some (.builtin "object.__class__")))
   (hn:PySem.W.specialIn K (.builtin "object.__class__") "__get__" = some (some (.builtin "getset_descriptor.__get__"))) (htk:PySem.W.takesIn K (.builtin "object.__class__")=some true)
   (hm:PySem.W.mroIn K C (.type "object")=some true):TyOf K H (.ref a) (.ref C)
theorem isinst_ok {x:V} {u t:Value} (I:Inv X pins σ H s) (rx:RelV x u) (ty:TyOf X.K H x t) (e:PySem.W.kitOne X.K t c=some b) (h:∀ tk,Q (.bool b) { s with toks:=tk }):
  wpAny (model X.prog X.w) A (call (.builtin "isinstance") [u,c]) Q E s:=by
 cases ty with
 | non=>cases (show u=Value.none from rx); exact PySem.W.kia_one PySem.W.kitx_none I.kIn True.intro e (fun z=>nomatch z) h
 | bl y=>cases (show u=Value.bool y from rx); exact PySem.W.kia_one PySem.W.kitx_bool I.kIn True.intro e (fun z=>nomatch z) h
 | int i=>obtain ⟨t,q⟩:=(show ∃ t,u=Value.int i t from rx); cases q; exact PySem.W.kia_one PySem.W.kitx_int I.kIn True.intro e (fun z=>nomatch z) h
 | str y=>obtain ⟨t,q⟩:=(show ∃ t,u=Value.str y t from rx); cases q; exact PySem.W.kia_one PySem.W.kitx_str I.kIn True.intro e (fun z=>nomatch z) h
 | flt y=>obtain ⟨t,q⟩:=(show ∃ t,u=Value.float y t from rx); cases q; exact PySem.W.kia_one PySem.W.kitx_float I.kIn True.intro e (fun z=>nomatch z) h
 | @lst a xs ea=>
  cases (show u=Value.ref a from rx)
  obtain ⟨_,_,n,_,h1⟩:=(show ObjOk X.prog X.w H s.heap a (.lst xs) from I.hok a _ ea)
  exact PySem.W.kia_one PySem.W.kitx_list I.kIn ⟨_,h1,rfl⟩ e (fun z=>nomatch z) h
 | @frz a ob xs ea=>
  cases (show u=Value.ref a from rx)
  obtain ⟨_,_,_,n,_,h1⟩:=(show ObjOk X.prog X.w H s.heap a (.frz ob (.lst xs)) from I.hok a _ ea)
  exact PySem.W.kia_one PySem.W.kitx_list I.kIn ⟨_,h1,rfl⟩ e (fun z=>nomatch z) h
 | @tup a xs ea=>
  cases (show u=Value.ref a from rx)
  obtain ⟨_,_,_,p⟩:=(show ObjOk X.prog X.w H s.heap a (.tup xs) from I.hok a _ ea)
  obtain ⟨o,h1,h2,_⟩:=p
  exact PySem.W.kia_one PySem.W.kitx_tuple I.kIn ⟨o,h1,h2⟩ e (fun z=>nomatch z) h
 | @dK a kvs ea=>
  cases (show u=Value.ref a from rx)
  obtain ⟨_,_,vs,_,p⟩:=(show ObjOk X.prog X.w H s.heap a (.dK kvs) from I.hok a _ ea)
  obtain ⟨o,es,ep,h1,h2,_⟩:=p
  exact PySem.W.kia_one PySem.W.kitx_dict I.kIn ⟨o,h1,h2.1⟩ e (fun z=>nomatch z) h
 | @dT a kvs ea=>
  cases (show u=Value.ref a from rx)
  obtain ⟨_,_,xs,_,o,es,ep,h1,h2,_⟩:=(show ObjOk X.prog X.w H s.heap a (.dT kvs) from I.hok a _ ea)
  exact PySem.W.kia_one PySem.W.kitx_dict I.kIn ⟨o,h1,h2.1⟩ e (fun z=>nomatch z) h
 | @ins a C dx fs ea cl ha hn htk hm=>
  cases (show u=Value.ref a from rx)
  obtain ⟨mA,O,_⟩:=ins_get I.hok ea
  obtain ⟨od,J,_⟩:=O.look
  exact PySem.W.kia_one (PySem.W.kitx_own (cl.get _) cl.hd ha hn htk hm) I.kIn J e (fun z=>nomatch z) h
end
end L2
namespace L2
open PySem PySem.Spec PyProof.Rows
structure Room (k:Nat) (A:Around):Prop where
 hd:A.handled=none
 dp:A.depth + 3 * k + 5 < recursionLimit
 un:A.units + 16 * k + 200 < cLine
 gd:A.guards=some []
theorem Room.mono {j k:Nat} {A:Around} (r:Room k A) (h:j≤k):Room j A:=⟨r.hd,by have:=r.dp; omega,by have:=r.un; omega,r.gd⟩
theorem Room.deeper {k:Nat} {A:Around} (r:Room (k + 1) A) (env:Env):Room k (A.deeper env):=
 ⟨r.hd,by have:=r.dp; show A.depth + 1 + 3 * k + 5 < _; omega,by have:=r.un; show A.units + 3 + 16 * k + 200 < _; omega,r.gd⟩
theorem Room.depth {k:Nat} {A:Around} (r:Room k A):A.depth < recursionLimit:=by have:=r.dp; omega
theorem Room.units {k:Nat} {A:Around} (r:Room k A):A.units + 64 < cLine:=by have:=r.un; omega
noncomputable def tNil:TA:=fun _ H Q=>Q [] H
noncomputable def tCons (ta:TE) (tr:TA):TA:=fun σ H Q=>ta σ H fun x H1=>tr σ H1 fun xs H2=>Q (x :: xs) H2
section
variable {X:Cx} {e:Expr} {es:List Expr} {te:TE} {t:TA} {pos:Pos}
theorem pa_nil:PA X [] tNil:=fun _ _ _ _ H Q I h=>Calls.spliced_nil ⟨[],H,I,.nil,h⟩
theorem pa_cons (ha:PE X e te) (hr:PA X es t) (hs:autoParam (starEach (e :: es) X.env=(false,eval e X.env) :: starEach es X.env) Au.h1._auto_1):PA X (e :: es) (tCons te t):=by
 intro pos pins s σ H Q I h
 rw [hs]
 show wpAny _ _ (spliced ((false,eval e X.env) :: backTo pos (starEach es X.env))) _ _ s
 refine Calls.spliced_cons (thn (ha pins s σ H _ I h) fun u s1 zq=>?_)
 obtain ⟨x,H1,I1,r1,q1⟩:=zq
 exact thn (hr pos pins s1 σ H1 _ I1 q1) fun us s2 zq=>ex5 zq fun xs H2 I2 r2 q2=>⟨x :: xs,H2,I2,.cons r1 r2,q2⟩
noncomputable def tTup (t:TA):TE:=fun σ H Q=>t σ H fun xs H1=>xs.length≤sizeLine∧∀ p,H1 p=none→Q (.ref p) (upd H1 p (.tup xs))
noncomputable def tLst (t:TA):TE:=fun σ H Q=>t σ H fun xs H1=>xs.length≤sizeLine∧∀ p,H1 p=none→Q (.ref p) (upd H1 p (.lst xs))
theorem pe_tup {x1} (h:PA X es t):PE X (.Tuple es x1 pos) (tTup t):=by
 intro pins s σ H Q I hq
 refine wpAny_Tuple_spliced (thn (h pos pins s σ H _ I hq) fun us s1 ⟨xs,H1,I1,r,z,q⟩=>⟨by rw [← r.length]; exact z,?_⟩)
 have hf:H1 s1.heap.objs.size=none:=I1.hok.fresh (Nat.le_refl _)
 refine ⟨.ref s1.heap.objs.size,upd H1 s1.heap.objs.size (.tup xs),I1.laid (t':=s1.toks) (fun b u e=>Heap.get?_push_of_some _ e) (Nat.le_refl _) ?_,rfl,q _ hf⟩
 exact ⟨z,us,r,⟨_,Heap.get?_push_size _ rfl,rfl,_,rfl⟩⟩
theorem pe_lst (h:PA X es t):PE X (.List es pos) (tLst t):=by
 intro pins s σ H Q I hq
 refine wpAny_List_spliced (thn (h pos pins s σ H _ I hq) fun us s1 ⟨xs,H1,I1,r,z,q⟩=>⟨by rw [← r.length]; exact z,?_⟩)
 have hf:H1 s1.heap.objs.size=none:=I1.hok.fresh (Nat.le_refl _)
 refine ⟨.ref s1.heap.objs.size,upd H1 s1.heap.objs.size (.lst xs),I1.laid (t':=s1.toks) (fun b u e=>Heap.get?_push_of_some _ e) (Nat.le_refl _) ?_,rfl,q _ hf⟩
 exact ⟨z,us,0,r,Heap.get?_push_size _ rfl⟩
end
noncomputable abbrev Sp:=List V→Hp→VK→XK→Prop
noncomputable abbrev CXT:=List Env→Hp→Shared→XK→Value→Shared→Prop
structure Env0 (P:Program) (w:World) (K:PySem.W.Frag) (mg:Str→Option Value) (base:Heap) (A:Around) (outer:List Env) (s:Shared) (H:Hp):Prop where
 frames:A.frames=some outer
 mod:Mod K mg base
 bs:∀ b o,base.get? b=some o→s.heap.get? b=some o∧H b=none
 bsz:base.objs.size≤s.heap.objs.size
 funs:s.heap.FunFrames base outer
 frf:∀ b ∈ frs outer,H b=none
 hok:HOk P w H s.heap
 bare:AllBare s.gens
noncomputable def CE (outer:List Env) (P:Program) (w:World) (H:Hp) (s:Shared) (Q:VK) (u:Value) (s':Shared):Prop:=
 ∃ v H',s'.os=s.os∧AllBare s'.gens∧Un (frs outer) [] H H' s.heap s'.heap∧HOk P w H' s'.heap∧RelV v u∧Q v H'
noncomputable def CR (CX:CXT) (outer:List Env) (P:Program) (w:World) (H:Hp) (s:Shared) (Q:VK) (E:XK) (r:Result) (s':Shared):Prop:=
 match r with
 | .ok (.ret u)=>CE outer P w H s Q u s'
 | .ok _=>False
 | .error e=>CX outer H s E e s'
structure FnOk (P:Program) (w:World) (K:PySem.W.Frag) (mg:Str→Option Value) (base:Heap) (CX:CXT) (k:Nat) (f:Addr) (fd:FuncData) (ps:List Str) (sp:Sp):Prop where
 len:∀ vs H Q E,sp vs H Q E→vs.length=ps.length
 run:∀ (A:Around) (outer:List Env) (s:Shared) (H:Hp) (args:Args) (us:List Value) (vs:List V) (Q:VK) (E:XK),Room k A→Env0 P w K mg base A outer s H→BindsTo s fd args (ps.zip us)→Vals vs us→sp vs H Q E→
  codeAny (model P w) A (.call (.ref f) args) (CR CX outer P w H s Q E) s
section
variable {X:Cx} {pins:List (Addr × Obj)} {σ:St} {H:Hp} {s s':Shared}
theorem Inv.env0 (I:Inv X pins σ H s):Env0 X.prog X.w X.K X.mg X.base X.A X.stack s H:=
 ⟨I.ok.frames,I.ok.mod,I.bs,Nat.le_trans I.ok.bsz I.sz,I.stack,I.stkFree,I.hok,I.bare⟩
theorem Inv.after {Q:VK} {u:Value} (I:Inv X pins σ H s) (h:CE X.stack X.prog X.w H s Q u s'):EP X pins σ Q u s':=by
 obtain ⟨v,H',os,bare,un,hok,r,q⟩:=h
 obtain ⟨hh,g,d,t,os'⟩:=s'
 obtain rfl:os'=s.os:=os
 exact ⟨v,H',I.call (h':=hh) (g':=g) (d':=d) (t':=t) (ch:=[]) un hok bare (fun b z=>absurd z (by simp)),r,q⟩
end
noncomputable def tCall (sp:Sp) (dvs:List V) (E:XK) (t:TA):TE:=fun σ H Q=>t σ H fun vs H1=>sp (vs ++ dvs) H1 Q E
noncomputable def Binds (K:PySem.W.Frag) (fd:FuncData) (ps:List Str) (ds:List Value):Prop:=
 ∀ (s:Shared) (us:List Value),K.In s.heap→(us ++ ds).length=ps.length→BindsTo s fd ⟨us,[]⟩ (ps.zip (us ++ ds))
theorem Binds.all {K:PySem.W.Frag} {fd:FuncData} {ps:List Str} (h:∀ us:List Value,us.length=ps.length→bindArgs fd ⟨us,[]⟩=pure (ps.zip us)):Binds K fd ps []:=fun s us _ hl=>by
 rw [List.append_nil] at hl ⊢
 exact .of_eq (h us hl)
noncomputable def Passes (CX:CXT) (X:Cx) (E:XK):Prop:=∀ (pins:List (Addr × Obj)) (σ:St) (H:Hp) (s:Shared) (e:Value) (s':Shared),Inv X pins σ H s→CX X.stack H s E e s'→X.xe e s'
section
variable {X:Cx} {CX:CXT} {k:Nat} {f C:Addr} {fd:FuncData} {ps:List Str} {sp:Sp} {dvs:List V} {ds:List Value} {E:XK} {x m:Str} {p pos apos:Pos} {e o:Expr} {es:List Expr} {ta:TE} {t:TA}
theorem run_fn {pins:List (Addr × Obj)} {σ:St} {H:Hp} {s:Shared} {Q:VK} {us:List Value} {vs:List V} (F:FnOk X.prog X.w X.K X.mg X.base CX k f fd ps sp) (hr:Room k X.A) (hb:Binds X.K fd ps ds) (hd:Vals dvs ds) (hx:Passes CX X E)
  (I:Inv X pins σ H s) (r:Vals vs us) (h:sp (vs ++ dvs) H Q E):wpAny (model X.prog X.w) X.A (call (.ref f) us) (EP X pins σ Q) X.xe s:=by
 have r2:Vals (vs ++ dvs) (us ++ ds):=r.append hd
 have hl:(us ++ ds).length=ps.length:=by rw [← r2.length]; exact F.len _ _ _ _ h
 refine wpAny_call (codeAny_mono (F.run X.A X.stack s H ⟨us,[]⟩ (us ++ ds) (vs ++ dvs) Q E hr I.env0 (hb s us I.kIn hl) r2 h) fun r s' hq=>?_)
 cases r with
 | error e=>exact hx pins σ H s e s' I hq
 | ok fl=>
  cases fl with
  | ret u=>exact I.after hq
  | next=>exact False.elim hq
  | brk=>exact False.elim hq
  | cont=>exact False.elim hq
theorem pe_call (F:FnOk X.prog X.w X.K X.mg X.base CX k f fd ps sp) (hr:Room k X.A) (hg:Gl X x) (hm:X.mg x=some (.ref f)) (hk:PySem.W.keepIn X.K (.ref f)=true) (hb:Binds X.K fd ps ds) (hd:Vals dvs ds) (hx:Passes CX X E)
  (ha:PA X (e :: es) t) (hdb:autoParam ((x == ("__debug__":Str))=false) Au.h2._auto_1) (he:autoParam (starEach (e :: es) X.env=(false,eval e X.env) :: starEach es X.env) Au.h1._auto_1) (hpl:autoParam ((backTo pos (starEach es X.env)).any (·.1)=false) Au.h1._auto_1):
  PE X (.Call (.Name x p) (e :: es) [] pos) (tCall sp dvs E t):=by
 intro pins s σ H Q I h
 refine wpAny_Call_Name_kw (ld_glob I hg hm ?_ hdb)
 refine PySem.W.callWith_K (h₀:=X.base) I.ok.mod.kin hk (thn (ha pos pins s σ H _ I h) fun us s1 zq=>ex5 zq fun vs H1 I1 r q=>⟨I1.kIn,?_⟩) he hpl
 exact run_fn F hr hb hd hx I1 r q
end
section
variable {X:Cx} {CX:CXT} {k:Nat} {f C:Addr} {fd:FuncData} {ps ks:List Str} {sp:Sp} {E:XK} {x m:Str} {p pos apos kpos:Pos} {e o:Expr} {es:List Expr} {kws:List Keyword} {te ta:TE} {t tk:TA} {nm:Option Str}
variable {g:List Value→List Value→List Value} {gV:List V→List V→List V}
end
structure FnScope (N P:List Str) (sc:Scope):Prop where
 kind:sc.kind=.function
 co:sc.isCoroutine=false
 gen:sc.isGenerator=false
 nd:N.Nodup
 pre:N.take P.length=P
 par:∀ x ∈ P,sc.names.lookup x=some .local ∨ sc.names.lookup x=some .cell
 nofree:∀ y ∈ sc.names,y.2 ≠ .free
theorem bindL_out {kindOf:Str→Option NameKind} {x:Str}:∀ {binds:List (Str × Value)} {m:Str→Option Value},(∀ v,(x,v) ∉ binds)→bindL kindOf binds m x=m x
 | [],_,_=>rfl
 | (n,v) :: r,m,h=>by
  unfold bindL
  rw [bindL_out fun w hw=>h w (List.mem_cons_of_mem _ hw)]
  split
  ·have:x ≠ n:=by rintro rfl; exact h v List.mem_cons_self
   simp [this]
  ·rfl
theorem bindC_out {kindOf:Str→Option NameKind} {x:Str}:∀ {binds:List (Str × Value)} {m:Str→Option Value},(∀ v,(x,v) ∉ binds)→bindC kindOf binds m x=m x
 | [],_,_=>rfl
 | (n,v) :: r,m,h=>by
  unfold bindC
  rw [bindC_out fun w hw=>h w (List.mem_cons_of_mem _ hw)]
  split
  ·rfl
  ·have:x ≠ n:=by rintro rfl; exact h v List.mem_cons_self
   simp [this]
theorem bindL_get {kindOf:Str→Option NameKind} {x:Str} {v:Value}:∀ {P:List Str} {vs:List Value} {i:Nat} {m:Str→Option Value},P.Nodup→P[i]?=some x→vs[i]?=some v→kindOf x=some .local→
  bindL kindOf (P.zip vs) m x=some v
 | [],_,_,_,_,h,_,_=>by simp at h
 | _ :: _,[],_,_,_,_,h,_=>by simp at h
 | p :: P,w :: vs,0,m,nd,h1,h2,hk=>by
  simp at h1 h2; subst h1; subst h2
  show bindL kindOf ((p,w) :: P.zip vs) m p=_
  unfold bindL
  rw [bindL_out fun v hv=>(List.nodup_cons.mp nd).1 (List.of_mem_zip hv).1,if_pos hk]
  simp
 | p :: P,w :: vs,i + 1,m,nd,h1,h2,hk=>by
  show bindL kindOf ((p,w) :: P.zip vs) m x=_
  unfold bindL
  exact bindL_get (i:=i) (List.nodup_cons.mp nd).2 (by simpa using h1) (by simpa using h2) hk
theorem bindC_get {kindOf:Str→Option NameKind} {x:Str} {v:Value}:∀ {P:List Str} {vs:List Value} {i:Nat} {m:Str→Option Value},P.Nodup→P[i]?=some x→vs[i]?=some v→kindOf x ≠ some .local→
  bindC kindOf (P.zip vs) m x=some v
 | [],_,_,_,_,h,_,_=>by simp at h
 | _ :: _,[],_,_,_,_,h,_=>by simp at h
 | p :: P,w :: vs,0,m,nd,h1,h2,hk=>by
  simp at h1 h2; subst h1; subst h2
  show bindC kindOf ((p,w) :: P.zip vs) m p=_
  unfold bindC
  rw [bindC_out fun v hv=>(List.nodup_cons.mp nd).1 (List.of_mem_zip hv).1,if_neg hk]
  simp
 | p :: P,w :: vs,i + 1,m,nd,h1,h2,hk=>by
  show bindC kindOf ((p,w) :: P.zip vs) m x=_
  unfold bindC
  exact bindC_get (i:=i) (List.nodup_cons.mp nd).2 (by simpa using h1) (by simpa using h2) hk
noncomputable def start (N:List Str) (vs:List V):St:=vs.map some ++ List.replicate (N.length - vs.length) none
noncomputable def cxOf (CX:CXT) (P:Program) (w:World) (K:PySem.W.Frag) (mg:Str→Option Value) (base:Heap) (N:List Str) (qual:Str) (scope:Scope) (f:Addr) (cd:Value) (A:Around) (outer:List Env) (s:Shared) (H:Hp) (E:XK):Cx where
 prog:=P
 w:=w
 K:=K
 mg:=mg
 base:=base
 A:=A.deeper (envOfC qual scope s.heap.objs.size f cd)
 N:=N
 s₀:=s
 H₀:=H
 env:=envOfC qual scope s.heap.objs.size f cd
 outer:=outer
 stack:=envOfC qual scope s.heap.objs.size f cd :: outer
 ex:=[]
 calm:=true
 fn:=fun _=>true
 pn:=[]
 xe:=fun e s'=>wpAny (model P w) (A.deeper (envOfC qual scope s.heap.objs.size f cd)) (leaving (envOfC qual scope s.heap.objs.size f cd) e) (fun _ s''=>CX outer H s E e s'') (fun e' s''=>CX outer H s E e' s'') s'
theorem cell_has {sc:Scope} {n:Nat} {x:Str} (h:sc.names.lookup x=some .cell):∃ c,(cellsFrom n sc.names []).lookup x=some c:=by
 have q:=PySem.W.cellsFrom_some sc.names n [] (.inl h)
 exact Option.isSome_iff_exists.mp q
theorem inv_start {CX:CXT} {P:Program} {w:World} {K:PySem.W.Frag} {mg:Str→Option Value} {base:Heap} {N ps:List Str} {qual:Str} {scope:Scope} {f:Addr} {cd:Value} {A:Around} {outer:List Env} {s s1:Shared} {H:Hp} {E:XK} {us:List Value} {vs:List V}
  (S:FnScope N ps scope) (hd:A.handled=none) (e0:Env0 P w K mg base A outer s H) (hl:vs.length=ps.length) (r:Vals vs us)
  (x:InCallC s s.heap.objs.size (bindL (envOfC qual scope s.heap.objs.size f cd).kindOf (ps.zip us) fun _=>none) (cellsFrom (s.heap.objs.size + 1) scope.names []) (bindC (envOfC qual scope s.heap.objs.size f cd).kindOf (ps.zip us) fun _=>none) s1):
  Inv (cxOf CX P w K mg base N qual scope f cd A outer s H E) [] (start N vs) H s1:=by
 have hpl:ps.length≤N.length:=by have:=congrArg List.length S.pre; rw [List.length_take] at this; omega
 obtain ⟨h1,tk,rfl,hk⟩:=x.done
 have noA:∀ b:Addr,b ∉ (cxOf CX P w K mg base N qual scope f cd A outer s H E).ex:=fun b z=>absurd (show b ∈ ([]:List Addr) from z) (by simp)
 refine ⟨⟨e0.mod,S.kind,rfl,rfl,Nat.le_refl _,fun y z c h1 h2=>?_,fun y hy=>?_,fun y c _ h=>?_,fun _=>hd,Around.frames_deeper e0.frames,.inr ⟨rfl,rfl⟩,fun b z=>absurd z (noA b),e0.bs,e0.bsz,fun b _ _=>noA b,fun b z=>absurd z (noA b),e0.funs,e0.frf⟩,
  rfl,e0.bare,Un.kept hk,⟨_,x.toInCall.ns,fun i y v h1 h2 h3=>?_⟩,fun y c h=>⟨_,x.cell y c h⟩,e0.hok.fresh (Nat.le_refl _),fun y c h=>?_,fun p hp=>absurd (show p ∈ ([]:List (Addr × Obj)) from hp) (by simp),e0.hok.kept hk,?_⟩
 ·exact name_of_addr x.apart (PySem.mem_of_lookup h1) (PySem.mem_of_lookup h2)
 ·have hy:scope.names.lookup y=some .cell ∨ scope.names.lookup y=some .free:=hy
  rcases hy with hy | hy
  ·exact cell_has hy
  ·exact absurd rfl (S.nofree _ (PySem.mem_of_lookup hy))
 ·exact Nat.le_of_lt (x.above y c (PySem.mem_of_lookup h))
 ·have hi:i < vs.length:=by
   unfold start at h2
   by_cases hi:i < vs.length
   ·exact hi
   ·rw [List.getElem?_append_right (by simpa using hi)] at h2
    rw [List.getElem?_replicate] at h2
    split at h2 <;> cases h2
  have ha:vs[i]?=some v:=by
   unfold start at h2
   rw [List.getElem?_append_left (by simpa using hi),List.getElem?_map] at h2
   cases e:vs[i]? with
   | none=>rw [e] at h2; cases h2
   | some a=>rw [e] at h2; cases h2; rfl
  obtain ⟨u,hu,rv⟩:=r.get ha
  have hp:ps[i]?=some y:=by
   rw [← S.pre,List.getElem?_take_of_lt (by omega)]; exact h1
  have ndP:ps.Nodup:=by rw [← S.pre]; exact S.nd.sublist (List.take_sublist _ _)
  refine ⟨u,rv,?_⟩
  rcases S.par y (List.mem_of_getElem? hp) with k | k
  ·exact .inl ⟨k,bindL_get ndP hp hu k⟩
  ·obtain ⟨c,e⟩:=cell_has (n:=s.heap.objs.size + 1) k
   refine .inr ⟨.inl k,c,e,?_⟩
   have q:=x.cell y c e
   rw [bindC_get ndP hp hu (by show scope.names.lookup y ≠ _; rw [k]; decide)] at q
   exact q
 ·exact e0.hok.fresh (Nat.le_of_lt (x.above y c (PySem.mem_of_lookup h)))
 ·unfold start
  show _=N.length
  rw [List.length_append,List.length_map,List.length_replicate]
  omega
theorem fn_of {CX:CXT} {P:Program} {w:World} {K:PySem.W.Frag} {mg:Str→Option Value} {base:Heap} {k:Nat} {f:Addr} {name qual:Str} {params:Arguments} {body:List Stmt} {scope:Scope} {dV kV doc pm cdv ct oc:Value} {an od:Option Addr}
  {osl:Array (Option Value)} {N ps:List Str} {sp:Sp} (lk:K.lookup f=some ⟨oc,od,.func (PySem.W.fnOf name qual params body scope dV kV doc pm an cdv ct),osl⟩) (hcd:PySem.W.codeIn K cdv qual=true) (S:FnScope N ps scope)
  (len:∀ vs H Q E,sp vs H Q E→vs.length=ps.length)
  (hbody:∀ (A:Around) (outer:List Env) (s:Shared) (H:Hp) (vs:List V) (Q:VK) (E:XK),Room k (A.deeper (envOfC qual scope s.heap.objs.size f cdv))→sp vs H Q E→
   ∃ t,PSs (cxOf CX P w K mg base N qual scope f cdv A outer s H E) body t∧t { nx:=fun _ H'=>Q .non H',rt:=Q } (start N vs) H):
  FnOk P w K mg base CX (k + 1) f (PySem.W.fnOf name qual params body scope dV kV doc pm an cdv ct) ps sp:=by
 refine ⟨len,fun A outer s H args us vs Q E hr e0 hb r hsp=>?_⟩
 have hl:=len _ _ _ _ hsp
 have KX:K.In s.heap:=e0.mod.kin.keeps fun b o e=>(e0.bs b o e).1
 have lim:s.heap.NoLimit:=e0.mod.nolimit.keeps fun b o e=>(e0.bs b o e).1
 have hkind:∀ y ∈ ps.zip us,scope.names.lookup y.1=some .local ∨ (scope.names.lookup y.1=some .cell∧((cellsFrom (s.heap.objs.size + 1) scope.names []).lookup y.1).isSome=true):=fun ⟨n,v⟩ hy=>by
  rcases S.par n (List.of_mem_zip hy).1 with q | q
  ·exact .inl q
  ·exact .inr ⟨q,PySem.W.cellsFrom_some _ _ _ (.inl q)⟩
 refine codeAny_call_function hr.depth (KX _ _ lk) rfl S.co S.gen rfl (PySem.W.codeRec_of KX hcd) (hb _ _ _ _ ?_)
 refine wpAny_newFunctionEnv_cells S.kind hkind fun env he s1 x=>?_
 subst he
 refine ⟨lim.keeps x.toInCall.keep,codeAny_func ?_⟩
 obtain ⟨t,ht,hq⟩:=hbody A outer s H vs Q E (hr.deeper _) hsp
 have I:Inv (cxOf CX P w K mg base N qual scope f cdv A outer s H E) [] (start N vs) H s1:=inv_start S hr.hd e0 hl r x
 refine wpAny_mono (ht [] s1 (start N vs) H _ I hq) (fun fl s' hs=>?_) fun e s' hs=>hs
 have fin:∀ {σ':St} {H':Hp} {v:V} {u:Value},Inv (cxOf CX P w K mg base N qual scope f cdv A outer s H E) [] σ' H' s'→RelV v u→Q v H'→CE outer P w H s Q u s':=
  fun {σ' H' v u} J rv q=>⟨v,H',J.os,J.bare,J.base,J.hok,rv,q⟩
 cases fl with
 | ret u=>
  obtain ⟨v,σ',H',J,rv,q⟩:=hs
  exact fin J rv q
 | next=>
  obtain ⟨σ',H',J,q⟩:=hs
  exact fin (v:=V.non) (u:=Value.none) J rfl q
 | brk=>
  obtain ⟨_,_,_,q⟩:=hs
  exact False.elim q
 | cont=>
  obtain ⟨_,_,_,q⟩:=hs
  exact False.elim q
end L2
namespace L2
open PySem PySem.Spec PyProof.Rows
section
variable {X:Cx} {x:Str} {p pos:Pos} {e:Expr} {es:List Expr} {t:TA} {id T:String} {r:List V→Hp→VK→Prop}
noncomputable def tCB (r:List V→Hp→VK→Prop) (t:TA):TE:=fun σ H Q=>t σ H fun vs H1=>r vs H1 Q
theorem pe_callB (hc:CallR X (.builtin id) r) (hg:Gl X x) (hm:X.mg x=none) (hv:bootBuiltins x=some (.builtin id)) (ha:PA X (e :: es) t) (hn:autoParam (x ≠ "__name__") Au.h2._auto_1) (hdb:autoParam ((x == ("__debug__":Str))=false) Au.h2._auto_1)
  (he:autoParam (starEach (e :: es) X.env=(false,eval e X.env) :: starEach es X.env) Au.h1._auto_1) (hpl:autoParam ((backTo pos (starEach es X.env)).any (·.1)=false) Au.h1._auto_1):PE X (.Call (.Name x p) (e :: es) [] pos) (tCB r t):=by
 intro pins s σ H Q I h
 refine wpAny_Call_Name_kw (ld_blt I hg hm hv ?_ hn hdb)
 exact PyProof.Rows.callWith_builtin1 (thn (ha pos pins s σ H _ I h) fun us s1 zq=>ex5 zq fun vs H1 I1 r1 q1=>hc pins s1 σ H1 vs us Q I1 r1 q1) he hpl
theorem pe_callTy (hc:CallR X (.type T) r) (hg:Gl X x) (hm:X.mg x=none) (hv:bootBuiltins x=some (.type T)) (ha:PA X (e :: es) t) (hn:autoParam (x ≠ "__name__") Au.h2._auto_1) (hdb:autoParam ((x == ("__debug__":Str))=false) Au.h2._auto_1)
  (he:autoParam (starEach (e :: es) X.env=(false,eval e X.env) :: starEach es X.env) Au.h1._auto_1) (hpl:autoParam ((backTo pos (starEach es X.env)).any (·.1)=false) Au.h1._auto_1):PE X (.Call (.Name x p) (e :: es) [] pos) (tCB r t):=by
 intro pins s σ H Q I h
 refine wpAny_Call_Name_kw (ld_blt I hg hm hv ?_ hn hdb)
 exact PyProof.Rows.callWith_type1 (thn (ha pos pins s σ H _ I h) fun us s1 zq=>ex5 zq fun vs H1 I1 r1 q1=>hc pins s1 σ H1 vs us Q I1 r1 q1) he hpl
end
end L2
namespace HT
open PySem PyProof.Rows
section
open PySem.SeqAt
open PySem.AutoSeq1 (wpAny_loadPart')
open PySem.MeetsSeq PySem.MeetsSeq2 PySem.MeetsSeq3
end
section
variable {prog:Program} {w:World} {A:Around} {E:Value→Shared→Prop} {s:Shared}
theorem cat_tup {t b:Addr} {vs ws:List Value} {Q:Value→Shared→Prop} (ht:IsTup s.heap t vs.toArray) (hb:IsTup s.heap b ws.toArray) (hv:vs ≠ [])
  (h1:ws=[]→Q (.ref t) s) (h2:ws ≠ []→Q (.ref s.heap.objs.size) { s with heap:=s.heap.push { cls:=.type "tuple",data:=.seq (vs ++ ws).toArray } })
  (hsz:vs.length + ws.length≤sizeLine):wpAny (model prog w) A (binaryOp .Add (.ref t) (.ref b)) Q E s:=by
 obtain ⟨⟨cls,dd,data,sl⟩,ho,hc,n,hd⟩:=id ht
 obtain ⟨⟨cls2,dd2,data2,sl2⟩,ho2,hc2,n2,hd2⟩:=id hb
 simp only at hc hd hc2 hd2
 subst hc hd hc2 hd2
 have e:vs.toArray ++ ws.toArray=(vs ++ ws).toArray:=by simp
 by_cases hw:ws=[]
 ·exact concat_meets ⟨_,ho,rfl⟩ ⟨_,ho2,rfl⟩ noFill_tuple_add seq_tuple_add PySem.F.slot_tuple_add PySem.F.entry_tuple_add (PySem.F.args_tuple_add_2 _ _)
   (tuple_addW1 t b vs.toArray ws.toArray n n2 dd dd2 sl sl2 (by simpa using hv) (by simp [hw])) ⟨ho,ho2,h1 hw⟩
 ·refine concat_meets ⟨_,ho,rfl⟩ ⟨_,ho2,rfl⟩ noFill_tuple_add seq_tuple_add PySem.F.slot_tuple_add PySem.F.entry_tuple_add (PySem.F.args_tuple_add_2 _ _)
   (tuple_addW2 t b vs.toArray ws.toArray n n2 dd dd2 sl sl2 (by simpa using hv) (by simpa using hw) (by rw [List.size_toArray,List.size_toArray]; exact hsz)) ⟨ho,ho2,?_⟩
  rw [e]
  exact h2 hw
end
end HT
namespace L2
open PySem PySem.Spec PyProof.Rows
noncomputable abbrev TO:=St→Hp→(Option Int→Hp→Prop)→Prop
section
variable {X:Cx} {e:Expr} {te:TE} {lo hi:Option Expr} {tl th:TO} {pos p2:Pos}
noncomputable def rCatT (K:PySem.W.Frag):R2:=fun x y H Q=>∃ a b xs ys,x=.ref a∧y=.ref b∧SqT K H a xs∧SqT K H b ys∧xs ≠ []∧xs.length + ys.length≤sizeLine∧
 (ys=[]→Q (.ref a) H)∧(ys ≠ []→∀ p,H p=none→Q (.ref p) (upd H p (.tup (xs ++ ys))))
theorem Vals.nil_iff {xs:List V} {us:List Value} (r:Vals xs us):us=[]↔xs=[]:=by
 cases r with
 | nil=>simp
 | cons _ _=>simp
theorem op_catT:OpR X (binaryOp .Add) (rCatT X.K):=by
 intro pins s σ H x y v u Q I rx ry h
 obtain ⟨a,b,xs,ys,rfl,rfl,ha,hb,hx,hz,q1,q2⟩:=h
 cases rx
 cases ry
 obtain ⟨its,r1,p1,_⟩:=I.tuple ha
 obtain ⟨its2,r2,p2,_⟩:=I.tuple hb
 refine HT.cat_tup p1 p2 (fun z=>hx (r1.nil_iff.mp z)) (fun z=>⟨.ref a,H,I,rfl,q1 (r2.nil_iff.mp z)⟩) (fun z=>?_) (by rw [← r1.length,← r2.length]; exact hz)
 refine ⟨.ref s.heap.objs.size,_,I.laid (t':=s.toks) (o:=.tup (xs ++ ys)) (fun b ob q=>Heap.get?_push_of_some _ q) (Nat.le_refl _) ?_,rfl,q2 (fun w=>z (r2.nil_iff.mpr w)) _ (I.hok.fresh (Nat.le_refl _))⟩
 exact ⟨by rw [List.length_append]; exact hz,_,r1.append r2,IsTup.new _ _⟩
end
end L2
namespace L2
open PySem PySem.Spec PyProof.Rows
noncomputable def ixN (n:Nat) (i:Int):Option Nat:=if 0≤i then (if i < n then some i.toNat else none) else if -(n:Int)≤i then some (i + n).toNat else none
noncomputable def atI {α:Type} (xs:List α) (i:Int):Option α:=(ixN xs.length i).bind fun j=>xs[j]?
theorem ixN_seq {n:Nat} {i:Int} {j:Nat} (h:ixN n i=some j):seqIndex? i n=some j∧j < n∧-(n:Int)≤i∧i < n:=by
 unfold ixN at h
 by_cases h0:0≤i
 ·rw [if_pos h0] at h
  by_cases h1:i < n
  ·rw [if_pos h1] at h
   have e:i.toNat=j:=Option.some.inj h
   exact ⟨by rw [seqIndex_of h0 h1,e],by omega,by omega,h1⟩
  ·rw [if_neg h1] at h; cases h
 ·rw [if_neg h0] at h
  by_cases h1:-(n:Int)≤i
  ·rw [if_pos h1] at h
   have e:(i + n).toNat=j:=Option.some.inj h
   exact ⟨by rw [seqIndex_neg (by omega) h1,e],by omega,h1,by omega⟩
  ·rw [if_neg h1] at h; cases h
theorem atI_get {α:Type} {xs:List α} {i:Int} {v:α} (h:atI xs i=some v):∃ j,seqIndex? i xs.length=some j∧xs[j]?=some v∧j < xs.length∧-(xs.length:Int)≤i∧i < xs.length:=by
 unfold atI at h
 cases e:ixN xs.length i with
 | none=>rw [e] at h; cases h
 | some j=>
  rw [e] at h
  obtain ⟨h1,h2,h3,h4⟩:=ixN_seq e
  exact ⟨j,h1,h,h2,h3,h4⟩
theorem atI_nat {α:Type} {xs:List α} {j:Nat} {v:α} (h:xs[j]?=some v):atI xs (j:Int)=some v:=by
 have hj:j < xs.length:=(List.getElem?_eq_some_iff.mp h).1
 have e:ixN xs.length (j:Int)=some j:=by
  unfold ixN
  rw [if_pos (by omega),if_pos (by omega)]; simp
 unfold atI; rw [e]; exact h
noncomputable def PlainIx (b:Expr):Prop:=∀ o i,subscripted b false o i=operate [o,i] (getItem o i)
noncomputable def IxR (X:Cx) (r:R2):Prop:=
 ∀ (value slice:Expr) (pins:List (Addr × Obj)) (s:Shared) (σ:St) (H:Hp) (x y:V) (v u:Value) (Q:VK),Inv X pins σ H s→RelV x v→RelV y u→r x y H Q→
  subscripted slice false v u=operate [v,u] (getItem v u)→wpAny (model X.prog X.w) X.A (subscriptTail value slice v u) (EP X pins σ Q) X.xe s
noncomputable def MtR (X:Cx) (id:String) (r:V→List V→Hp→VK→Prop):Prop:=
 ∀ (pins:List (Addr × Obj)) (s:Shared) (σ:St) (H:Hp) (x:V) (xs:List V) (v:Value) (us:List Value) (Q:VK),Inv X pins σ H s→RelV x v→Vals xs us→r x xs H Q→
  wpAny (model X.prog X.w) X.A (call (.builtin id) (v :: us)) (EP X pins σ Q) X.xe s
section
variable {X:Cx} {a b:Expr} {ta tb:TE} {pos:Pos}
theorem IxR.or {r r':R2} (h:IxR X r) (h':IxR X r'):IxR X (fun x y H Q=>r x y H Q ∨ r' x y H Q):=by
 intro value slice pins s σ H x y v u Q I rx ry q hs
 rcases q with q | q
 ·exact h value slice pins s σ H x y v u Q I rx ry q hs
 ·exact h' value slice pins s σ H x y v u Q I rx ry q hs
theorem pe_ix {r:R2} (hr:IxR X r) (ha:PE X a ta) (hb:PE X b tb) (hs:PlainIx b):PE X (.Subscript a b pos) (tOp r ta tb):=by
 intro pins s σ H Q I h
 exact Subscript_ (binT ha hb I h fun v u s2 x y H2 I2 rx ry q=>hr a b pins s2 σ H2 x y v u Q I2 rx ry q (hs _ _))
noncomputable def rIxL (K:PySem.W.Frag):R2:=fun x y H Q=>∃ p xs i v,x=.ref p∧y=.int i∧SqL K H p xs∧atI xs i=some v∧Q v H
noncomputable def rIxT (K:PySem.W.Frag):R2:=fun x y H Q=>∃ p xs i v,x=.ref p∧y=.int i∧SqT K H p xs∧atI xs i=some v∧Q v H
noncomputable def rIxS:R2:=fun x y H Q=>∃ z i c,x=.str z∧y=.int i∧z.length≤sizeLine∧atI z.cps.toList i=some c∧Q (.str ⟨#[c]⟩) H
theorem ix_list:IxR X (rIxL X.K):=by
 intro value slice pins s σ H x y v u Q I rx ry h hs
 obtain ⟨p,xs,i,z,rfl,rfl,hq,he,q⟩:=h
 cases rx
 obtain ⟨t,rfl⟩:=ry
 obtain ⟨its,r,pl,hz⟩:=I.list hq
 obtain ⟨j,h1,h2,h3,h4,h5⟩:=atI_get he
 obtain ⟨w,ew,rw'⟩:=r.get h2
 have hl:=r.length
 have hn:=line63
 have fin:EP X pins σ Q w s:=⟨z,H,I,rw',q⟩
 by_cases h0:0≤i
 ·have hj:i.toNat=j:=by
   rw [seqIndex_of h0 h5] at h1
   exact Option.some.inj h1
  exact item_listR pl.isList h0 (by omega) (by rw [hj]; simpa using ew) fin hs
 ·have hj:(i + (its.toArray.size:Int)).toNat=j:=by
   rw [seqIndex_neg (by omega) h4] at h1
   rw [List.size_toArray,← hl]
   exact Option.some.inj h1
  exact subscriptTail_builtinR (x:=w) pl.isList.typeIs slot_list_getitem.lookup
   (wpAny_getItem_list_neg (Q:=fun r s'=>r=w∧EP X pins σ Q r s') pl.isList (by omega) (by rw [List.size_toArray] <;> omega) (by omega) (by rw [hj]; simpa using ew) ⟨rfl,fin⟩) hs
theorem ix_tup:IxR X (rIxT X.K):=by
 intro value slice pins s σ H x y v u Q I rx ry h hs
 obtain ⟨p,xs,i,z,rfl,rfl,hq,he,q⟩:=h
 cases rx
 obtain ⟨t,rfl⟩:=ry
 obtain ⟨its,r,pl,hz⟩:=I.tuple hq
 obtain ⟨j,h1,h2,h3,h4,h5⟩:=atI_get he
 obtain ⟨w,ew,rw'⟩:=r.get h2
 have hl:=r.length
 have hn:=line63
 have fin:EP X pins σ Q w s:=⟨z,H,I,rw',q⟩
 exact subscriptTail_builtinR (x:=w) pl.typeIs slot_tuple_getitem.lookup
  (getItem_tuple (j:=j) (Q:=fun r s'=>r=w∧EP X pins σ Q r s') pl (by omega) (by omega) (by rw [List.size_toArray,← hl]; exact h1) (by simpa using ew) ⟨rfl,fin⟩) hs
theorem ix_str:IxR X rIxS:=by
 intro value slice pins s σ H x y v u Q I rx ry h hs
 obtain ⟨z,i,c,rfl,rfl,hz,he,q⟩:=h
 obtain ⟨t,rfl⟩:=rx
 obtain ⟨t',rfl⟩:=ry
 obtain ⟨j,h1,h2,h3,h4,h5⟩:=atI_get he
 have hl:z.cps.toList.length=z.length:=by simp [Str.length]
 rw [hl] at h1 h4 h5
 have hn:=line63
 exact tail_any (typeIs_str s z t) slot_str_getitem.lookup (getItem_str (c:=c) (by
  have e1:decide (i < -(2 ^ 63:Int))=false:=decide_eq_false (by omega)
  have e2:decide (i ≥ 2 ^ 63)=false:=decide_eq_false (by omega)
  rw [e1,e2,Bool.or_false]) (by rw [h1]; simpa using h2) ⟨.str ⟨#[c]⟩,H,I.tok _,⟨_,rfl⟩,q⟩) hs
noncomputable def rIx (K:PySem.W.Frag):R2:=fun x y H Q=>rIxL K x y H Q ∨ rIxT K x y H Q ∨ rIxS x y H Q
theorem ix_seq:IxR X (rIx X.K):=ix_list.or (ix_tup.or ix_str)
theorem mapSeq_set (its:List Value) (n j:Nat) (u:Value):Obj.mapSeq (·.setIfInBounds j u) { cls:=.type "list",data:=.seq its.toArray n }={ cls:=.type "list",data:=.seq (its.set j u).toArray n }:=by
 simp [Obj.mapSeq]
theorem Inv.lst {pins:List (Addr × Obj)} {σ:St} {H:Hp} {s:Shared} {p:Addr} {xs:List V} (I:Inv X pins σ H s) (h:H p=some (.lst xs)):
  ∃ (its:List Value) (n:Nat),Vals xs its∧s.heap.get? p=some { cls:=.type "list",data:=.seq its.toArray n }∧xs.length≤sizeLine:=by
 obtain ⟨z,its,n,r,e⟩:=I.hok p _ h
 exact ⟨its,n,r,e,z⟩
theorem Inv.lstUpd {pins:List (Addr × Obj)} {σ:St} {H:Hp} {s:Shared} {p:Addr} {xs ys:List V} {its its':List Value} {n n':Nat} {f:Obj→Obj} (I:Inv X pins σ H s) (h:H p=some (.lst xs))
  (ho:s.heap.get? p=some { cls:=.type "list",data:=.seq its.toArray n }) (hf:f { cls:=.type "list",data:=.seq its.toArray n }={ cls:=.type "list",data:=.seq its'.toArray n' }) (r:Vals ys its') (hz:ys.length≤sizeLine) (t:Nat):
  Inv X pins σ (upd H p (.lst ys)) { s with heap:=s.heap.update p f,toks:=t }:=by
 have e:(s.heap.update p f).get? p=some { cls:=.type "list",data:=.seq its'.toArray n' }:=by
  rw [Heap.get?_update_self f ho (by rw [hf] <;> rfl),hf]
 refine I.write (x:=p) (e:=p) (by rw [h]; trivial) (.inl rfl) (fun b u hb q=>(Heap.get?_update_other _ _ (Ne.symm hb)).trans q) ⟨_,e⟩ ?_
 exact ⟨hz,its',n',r,e⟩
noncomputable def rSetL:V→V→V→Hp→(Hp→Prop)→Prop:=fun o i v H Q=>∃ p xs k j,o=.ref p∧i=.int k∧H p=some (.lst xs)∧ixN xs.length k=some j∧Q (upd H p (.lst (xs.set j v)))
theorem set_list:PSet X rSetL:=by
 intro pins s σ H o i v ov iv u Q I ro ri rv h
 obtain ⟨p,xs,k,j,rfl,rfl,hp,hj,q⟩:=h
 cases ro
 obtain ⟨t,rfl⟩:=ri
 obtain ⟨its,n,r,ho,hz⟩:=I.lst hp
 obtain ⟨h1,h2,h3,h4⟩:=ixN_seq hj
 have hl:=r.length
 have hn:=line63
 have I':Inv X pins σ (upd H p (.lst (xs.set j v))) { s with heap:=s.heap.update p (Obj.mapSeq (·.setIfInBounds j u)) }:=
  I.lstUpd hp ho (mapSeq_set its n j u) (r.set rv j) (by rw [List.length_set]; exact hz) s.toks
 by_cases h0:0≤k
 ·have hk:k.toNat=j:=by
   rw [seqIndex_of h0 h4] at h1
   exact Option.some.inj h1
  exact PySem.W.ki_setAt ho h0 (by omega) (by rw [List.size_toArray,← hl]; exact h4) (by rw [hk]; exact ⟨_,I',q⟩)
 ·have hk:(k + (its.toArray.size:Int)).toNat=j:=by
   rw [seqIndex_neg (by omega) h3] at h1
   rw [List.size_toArray,← hl]
   exact Option.some.inj h1
  exact PySem.W.ki_setBack ho (by omega) (by rw [List.size_toArray,← hl]; exact h3) (by omega) (by rw [hk]; exact ⟨_,I',q⟩)
noncomputable def flatV:V→Bool
 | .non=>true
 | .bl _=>true
 | .int _=>true
 | .str _=>true
 | _=>false
noncomputable def eqV:V→V→Bool
 | .non,.non=>true
 | .bl a,.bl b=>a == b
 | .bl a,.int b=>(if a then 1 else 0) == b
 | .int a,.bl b=>a == (if b then 1 else 0)
 | .int a,.int b=>a == b
 | .str a,.str b=>a == b
 | _,_=>false
theorem eqAt_V {A:Around} {s:Shared} {y x:V} {u v:Value} (ry:RelV y u) (rx:RelV x v) (fy:flatV y=true) (fx:flatV x=true):SeqAt.EqAt A s u v (eqV y x):=by
 cases y with
 | non=>
  cases ry
  cases x with
  | non=>cases rx; exact SeqAt.EqAt.same _
  | bl b=>cases rx; exact SeqAt.EqAt.none_bool b
  | int b=>obtain ⟨t,rfl⟩:=rx; exact SeqAt.EqAt.none_int b t
  | str b=>obtain ⟨t,rfl⟩:=rx; exact SeqAt.EqAt.none_str b t
  | _=>exact absurd (show false=true from fx) Bool.false_ne_true
 | bl a=>
  cases ry
  cases x with
  | non=>cases rx; exact SeqAt.EqAt.bool_none a
  | bl b=>cases rx; exact SeqAt.EqAt.bool_bool a b
  | int b=>obtain ⟨t,rfl⟩:=rx; exact SeqAt.EqAt.bool_int a b t
  | str b=>obtain ⟨t,rfl⟩:=rx; exact SeqAt.EqAt.bool_str a b t
  | _=>exact absurd (show false=true from fx) Bool.false_ne_true
 | int a=>
  obtain ⟨t',rfl⟩:=ry
  cases x with
  | non=>cases rx; exact SeqAt.EqAt.int_none a t'
  | bl b=>cases rx; exact SeqAt.EqAt.int_bool a t' b
  | int b=>obtain ⟨t,rfl⟩:=rx; exact SeqAt.EqAt.int_int a t' b t
  | str b=>obtain ⟨t,rfl⟩:=rx; exact SeqAt.EqAt.int_str a t' b t
  | _=>exact absurd (show false=true from fx) Bool.false_ne_true
 | str a=>
  obtain ⟨t',rfl⟩:=ry
  cases x with
  | non=>cases rx; exact SeqAt.EqAt.str_none a t'
  | bl b=>cases rx; exact SeqAt.EqAt.str_bool a t' b
  | int b=>obtain ⟨t,rfl⟩:=rx; exact SeqAt.EqAt.str_int a t' b t
  | str b=>obtain ⟨t,rfl⟩:=rx; exact SeqAt.EqAt.str_str a t' b t
  | _=>exact absurd (show false=true from fx) Bool.false_ne_true
 | _=>exact absurd (show false=true from fy) Bool.false_ne_true
noncomputable def eqU (x:V) (u:Value):Bool:=match u with
 | .none=>eqV .non x
 | .bool b=>eqV (.bl b) x
 | .int i _=>eqV (.int i) x
 | .str z _=>eqV (.str z) x
 | _=>false
theorem eqU_of {x y:V} {u:Value} (r:RelV y u) (f:flatV y=true):eqU x u=eqV y x:=by
 cases y with
 | non=>cases r; rfl
 | bl b=>cases r; rfl
 | int i=>obtain ⟨t,rfl⟩:=r; rfl
 | str z=>obtain ⟨t,rfl⟩:=r; rfl
 | _=>exact absurd (show false=true from f) Bool.false_ne_true
theorem mem_eqAt {A:Around} {s:Shared} {x:V} {v:Value} (rx:RelV x v) (fx:flatV x=true):∀ {xs:List V} {us:List Value},Vals xs us→xs.all flatV=true→∀ u ∈ us,SeqAt.EqAt A s u v (eqU x u)
 | _,_,.nil,_=>fun u hu=>by cases hu
 | y :: xs,u :: us,.cons r t,f=>fun u' hu=>by
  rw [List.all_cons,Bool.and_eq_true] at f
  rcases List.mem_cons.mp hu with rfl | hu
  ·rw [eqU_of r f.1]; exact eqAt_V r rx f.1 fx
  ·exact mem_eqAt rx fx t f.2 u' hu
theorem call_len_seq:CallR X (.builtin "len") (fun xs H Q=>∃ p ys,xs=[.ref p]∧(SqL X.K H p ys ∨ SqT X.K H p ys)∧Q (.int ys.length) H):=by
 intro pins s σ H xs us Q I r h
 obtain ⟨p,ys,rfl,hq,q⟩:=h
 obtain ⟨u,rfl,rx⟩:=vals1 r
 cases rx
 have hn:=line63
 rcases hq with hq | hq
 ·obtain ⟨its,r',pl,hz⟩:=I.list hq
  have hlen:=r'.length
  exact Calls.call_len_list pl.isList (by simp only [List.size_toArray] <;> omega) ⟨.int ys.length,H,I.tok _,⟨s.toks + 1,by rw [List.size_toArray,hlen]⟩,q⟩
 ·obtain ⟨its,r',pl,hz⟩:=I.tuple hq
  have hlen:=r'.length
  exact len_tuple pl (by simp only [List.size_toArray] <;> omega) ⟨.int ys.length,H,I.tok _,⟨s.toks + 1,by rw [List.size_toArray,hlen]⟩,q⟩
theorem call_len_str:CallR X (.builtin "len") (fun xs H Q=>∃ z,xs=[.str z]∧z.length≤sizeLine∧Q (.int z.length) H):=by
 intro pins s σ H xs us Q I r h
 obtain ⟨z,rfl,hz,q⟩:=h
 obtain ⟨u,rfl,t,rfl⟩:=vals1 r
 have hn:=line63
 exact len_str (by omega) ⟨.int z.length,H,I.tok _,⟨_,rfl⟩,q⟩
theorem call_list_of:CallR X (.type "list") (fun xs H Q=>∃ p ys,xs=[.ref p]∧(SqL X.K H p ys ∨ SqT X.K H p ys)∧∀ l,H l=none→Q (.ref l) (upd H l (.lst ys))):=by
 intro pins s σ H xs us Q I r h
 obtain ⟨p,ys,rfl,hq,q⟩:=h
 obtain ⟨u,rfl,rx⟩:=vals1 r
 cases rx
 have fin:∀ (its:List Value),Vals ys its→ys.length≤sizeLine→∀ (h':Heap) (c':Nat),(∀ b o',s.heap.get? b=some o'→h'.get? b=some o')→
   h'.get? s.heap.objs.size=some { cls:=.type "list",dict:=none,data:=.seq its.toArray c',slots:=#[] }→EP X pins σ Q (.ref s.heap.objs.size) { s with heap:=h' }:=fun its r' hz h' c' kp e=>
  ⟨.ref s.heap.objs.size,_,I.laid (t':=s.toks) kp (Nat.le_refl _) (show ObjOk X.prog X.w _ h' _ (.lst ys) from ⟨hz,its,c',r',e⟩),rfl,q _ (I.hok.fresh (Nat.le_refl _))⟩
 rcases hq with hq | hq
 ·obtain ⟨its,r',pl,hz⟩:=I.list hq
  have hlen:=r'.length
  obtain ⟨o,ho,hc,n,hd⟩:=pl.isList
  exact call_list_seq p (.inl rfl) ho hc hd (fun h' c' kp e=>fin its r' hz h' c' kp e) (by simp only [List.size_toArray] <;> omega)
 ·obtain ⟨its,r',pl,hz⟩:=I.tuple hq
  have hlen:=r'.length
  obtain ⟨o,ho,hc,n,hd⟩:=pl
  exact call_list_seq p (.inr rfl) ho hc hd (fun h' c' kp e=>fin its r' hz h' c' kp e) (by simp only [List.size_toArray] <;> omega)
theorem call_tuple_of:CallR X (.type "tuple") (fun xs H Q=>∃ p ys,xs=[.ref p]∧((SqL X.K H p ys∧∀ l,H l=none→Q (.ref l) (upd H l (.tup ys))) ∨ (SqT X.K H p ys∧Q (.ref p) H))):=by
 intro pins s σ H xs us Q I r h
 obtain ⟨p,ys,rfl,h⟩:=h
 obtain ⟨u,rfl,rx⟩:=vals1 r
 cases rx
 rcases h with ⟨hq,q⟩ | ⟨hq,q⟩
 ·obtain ⟨its,r',pl,hz⟩:=I.list hq
  have hlen:=r'.length
  refine call_tuple_list pl.isList (fun h' kp=>?_) (by simp only [List.size_toArray] <;> omega)
  have I1:Inv X pins σ H { s with heap:=h' }:=I.kept (t':=s.toks) kp
  have I2:Inv X pins σ (upd H h'.objs.size (.tup ys)) { s with heap:=h'.push { cls:=.type "tuple",data:=.seq its.toArray } }:=
   I1.laid (t':=s.toks) (fun b o e=>Heap.get?_push_of_some _ e) (Nat.le_refl _) (show ObjOk X.prog X.w _ _ _ (.tup ys) from ⟨hz,its,r',IsTup.new _ _⟩)
  exact ⟨.ref h'.objs.size,_,I2,rfl,q _ (I1.hok.fresh (Nat.le_refl _))⟩
 ·obtain ⟨its,r',pl,hz⟩:=I.tuple hq
  exact call_tuple_same pl ⟨.ref p,H,I,rfl,q⟩
noncomputable def tyV (K:PySem.W.Frag) (T:String) (x:V) (H:Hp):Prop:=match x with
 | .str _=>T = "str"
 | .int _=>T = "int"
 | .ref p=>(T = "list"∧∃ xs,SqL K H p xs) ∨ (T = "tuple"∧∃ o,K.lookup p=some o∧o.cls=.type "tuple"∧o.dict=none) ∨
   (T = "dict"∧((∃ kvs,H p=some (.dK kvs)) ∨ ∃ kvs,H p=some (.dT kvs))) ∨ (T = "set"∧∃ S n,H p=some (.set S n))
 | _=>False
theorem tyV_is {pins:List (Addr × Obj)} {σ:St} {H:Hp} {s:Shared} {T:String} {x:V} {v:Value} (I:Inv X pins σ H s) (r:RelV x v) (ty:tyV X.K T x H):
  s.TypeIs v T∧∀ a,v=.ref a→∃ ob,s.heap.get? a=some ob∧ob.dict=none:=by
 cases x with
 | str z=>
  obtain ⟨t,rfl⟩:=r
  cases (show T = "str" from ty)
  exact ⟨typeIs_str s z t,fun _ e=>nomatch e⟩
 | int i=>
  obtain ⟨t,rfl⟩:=r
  cases (show T = "int" from ty)
  exact ⟨typeIs_int s i t,fun _ e=>nomatch e⟩
 | ref p=>
  cases r
  rcases ty with ⟨rfl,xs,hq⟩ | ⟨rfl,o,hk,hc,hd⟩ | ⟨rfl,hk⟩ | ⟨rfl,S,n,hk⟩
  ·obtain ⟨its,_,pl,_⟩:=I.list hq
   refine ⟨pl.isList.typeIs,fun a e=>?_⟩
   cases e
   obtain ⟨o,n,e,c,hd,_⟩:=pl
   exact ⟨o,e,hd⟩
  ·refine ⟨⟨o,I.kIn p o hk,hc⟩,fun a e=>?_⟩
   cases e
   exact ⟨o,I.kIn _ o hk,hd⟩
  ·have z:∃ o,s.heap.get? p=some o∧o.ExactDict:=by
    rcases hk with ⟨kvs,hk⟩ | ⟨kvs,hk⟩
    ·obtain ⟨_,_,_,_,o,_,_,e,ex,_⟩:=I.hok p _ hk
     exact ⟨o,e,ex⟩
    ·obtain ⟨_,_,_,_,o,_,_,e,ex,_⟩:=I.hok p _ hk
     exact ⟨o,e,ex⟩
   obtain ⟨o,e,ex⟩:=z
   refine ⟨⟨o,e,ex.1⟩,fun a e2=>?_⟩
   cases e2
   exact ⟨o,e,ex.2.1⟩
  ·obtain ⟨o,_,_,_,e,ex,_⟩:=I.hok p _ hk
   refine ⟨⟨o,e,ex.1⟩,fun a e2=>?_⟩
   cases e2
   exact ⟨o,e,ex.2.1⟩
 | _=>exact False.elim ty
noncomputable def tBM (K:PySem.W.Frag) (T:String) (r:V→List V→Hp→VK→Prop) (to:TE) (t:TA):TE:=fun σ H Q=>to σ H fun x H1=>tyV K T x H1∧t σ H1 fun xs H2=>r x xs H2 Q
variable {o e:Expr} {es:List Expr} {to:TE} {t:TA} {name:Str} {apos cpos:Pos} {T id:String} {r:V→List V→Hp→VK→Prop}
theorem pe_bm (pa:PlainAttrs T) (slot:Slot T name id) (hty:typeOf (.builtin id)=pure (.type "method_descriptor")) (hm:MtR X id r) (ho:PE X o to) (ha:PA X (e :: es) t)
  (hbase:autoParam (attributeBase o name X.env (eval o X.env)=eval o X.env) Au.h1._auto_1)
  (hfew:autoParam (((backTo cpos (starEach (e :: es) X.env)).all (fun x=>!x.1) && (backToKw cpos (keywordEach [] X.env)).all (fun x=>x.1.isSome)
   && decide ((e :: es).length + ([]:List Keyword).length + (if ([]:List Keyword).isEmpty then 0 else 1) < 30))=true) Au.h1._auto_1)
  (hline:autoParam ((apos.endLine == cpos.line)=true) Au.h1._auto_1) (hs:autoParam (starEach (e :: es) X.env=(false,eval e X.env) :: starEach es X.env) Au.h1._auto_1) (hplain:autoParam ((backTo cpos (starEach es X.env)).any (·.1)=false) Au.h1._auto_1):
  PE X (.Call (.Attribute o name apos) (e :: es) [] cpos) (tBM X.K T r to t):=by
 intro pins s σ H Q I h
 refine wpAny_Call_method_late hbase hfew hline rfl (thn (ho pins s σ H _ I h) fun v s1 zq=>?_)
 obtain ⟨x,H1,I1,r1,ty,q1⟩:=zq
 obtain ⟨h1,h2⟩:=tyV_is I1 r1 ty
 refine ⟨T,id,pa,slot,hty,h1,h2,?_⟩
 have hA:=ha cpos pins s1 σ H1 _ I1 q1
 rw [hs] at hA ⊢
 refine Calls.callWith_builtin (by show (false || (backTo cpos (starEach es X.env)).any (·.1))=false; rw [hplain] <;> rfl) (Calls.evalArgs_plain ?_)
 exact thn hA fun us s2 zq=>ex5 zq fun vs H2 I2 r2 q2=>hm pins s2 σ H2 x vs v us Q I2 r1 r2 q2
end
end L2
namespace L2
open PySem PySem.Spec PyProof.Rows
noncomputable def MtM (X:Cx) (id:String) (r:V→List V→Hp→VK→Prop):Prop:=
 ∀ (pins:List (Addr × Obj)) (s:Shared) (σ:St) (H:Hp) (x:V) (xs:List V) (v:Value) (us:List Value) (Q:VK),Inv X pins σ H s→RelV x v→Vals xs us→r x xs H Q→
  wpAny (model X.prog X.w) X.A (call (.builtin id) (v :: us)) (EP X pins σ Q) X.xe s
theorem Vals.one:∀ {x:V} {us:List Value},Vals [x] us→∃ u,us=[u]∧RelV x u
 | _,_,.cons r .nil=>⟨_,rfl,r⟩
theorem Vals.rep {xs:List V} {us:List Value} (h:Vals xs us):∀ k:Nat,Vals (List.replicate k xs).flatten (List.replicate k us).flatten
 | 0=>.nil
 | k + 1=>by
  rw [List.replicate_succ,List.replicate_succ,List.flatten_cons,List.flatten_cons]
  exact Vals.append h (Vals.rep h k)
theorem foldl_rep (its:List Value):∀ (k:Nat) (acc:List Value),
  List.foldl (fun x1 x2=>x1 ++ x2) acc.toArray (List.replicate k its.toArray)=(acc ++ (List.replicate k its).flatten).toArray
 | 0,acc=>by simp
 | k + 1,acc=>by
  have e:acc.toArray ++ its.toArray=(acc ++ its).toArray:=by simp
  have e2:(acc ++ its) ++ (List.replicate k its).flatten=acc ++ (List.replicate (k + 1) its).flatten:=by
   rw [List.replicate_succ,List.flatten_cons,List.append_assoc]
  rw [← e2,← foldl_rep its k (acc ++ its),← e,List.replicate_succ,List.foldl_cons]
section
variable {X:Cx} {pins:List (Addr × Obj)} {σ:St} {H:Hp} {s:Shared} {l b:Addr} {xs ys zs:List V}
theorem Inv.lset {its its':List Value} {n:Nat} {f:Array Value→Array Value} {t':Nat} (I:Inv X pins σ H s) (hH:H l=some (.lst xs))
  (e:s.heap.get? l=some { cls:=.type "list",data:=.seq its.toArray n }) (hf:f its.toArray=its'.toArray) (hv:Vals ys its') (hz:ys.length≤sizeLine):
  Inv X pins σ (upd H l (.lst ys)) { s with heap:=s.heap.update l (Obj.mapSeq f),toks:=t' }:=by
 have q:=PySem.IsL.update e f
 rw [hf] at q
 refine I.write (x:=l) (e:=l) (by rw [hH]; exact trivial) (.inl rfl) (fun b' u hb hu=>(Heap.get?_update_other s.heap (Obj.mapSeq f) (Ne.symm hb)).trans hu) ⟨_,q⟩ ?_
 exact ⟨hz,its',_,hv,q⟩
theorem Inv.lnew {its:List Value} {t':Nat} (I:Inv X pins σ H s) (hv:Vals ys its) (hz:ys.length≤sizeLine):
  Inv X pins σ (upd H s.heap.objs.size (.lst ys)) { s with heap:=s.heap.push { cls:=.type "list",data:=.seq its.toArray },toks:=t' }:=
 I.laid (fun _ _ q=>Heap.get?_push_of_some _ q) (Nat.le_refl _) ⟨hz,its,0,hv,Heap.get?_push_size _ rfl⟩
theorem Inv.fresh (I:Inv X pins σ H s):H s.heap.objs.size=none:=I.hok.fresh (Nat.le_refl _)
theorem Inv.lstM (I:Inv X pins σ H s) (hH:H l=some (.lst xs)):xs.length≤sizeLine∧∃ (its:List Value) (n:Nat),Vals xs its∧xs.length=its.length∧s.heap.get? l=some { cls:=.type "list",data:=.seq its.toArray n }:=by
 obtain ⟨z,its,n,r,e⟩:=I.hok l _ hH
 exact ⟨z,its,n,r,r.length,e⟩
theorem notLongL {n:Nat} (h:n≤sizeLine):Builtin.List.listTooLong n=false:=by
 unfold Builtin.List.listTooLong
 exact decide_eq_false (by omega)
end
section
variable {X:Cx}
noncomputable def rAppend:V→List V→Hp→VK→Prop:=fun x vs H Q=>∃ l xs y,x=.ref l∧vs=[y]∧H l=some (.lst xs)∧xs.length < sizeLine∧Q .non (upd H l (.lst (xs ++ [y])))
theorem mt_append:MtM X "list.append" rAppend:=by
 intro pins s σ H x vs v us Q I rx rv h
 obtain ⟨l,xs,y,rfl,rfl,hH,hz,q⟩:=h
 cases rx
 obtain ⟨u,rfl,ru⟩:=rv.one
 obtain ⟨z,its,n,r,hl,e⟩:=I.lstM hH
 refine call_meets F.slot_list_append ⟨_,e,rfl⟩ F.entry_list_append (F.args_list_append_2 _ _) (PySem.list_append l its.toArray n u (by rw [List.size_toArray]; omega)) ⟨e,?_⟩
 refine ⟨.non,_,I.lset (its':=its ++ [u]) hH e (by simp) (r.append (.cons ru .nil)) ?_,rfl,q⟩
 rw [List.length_append,List.length_singleton]
 omega
noncomputable def rCat:R2:=fun x y H Q=>∃ l b xs zs,x=.ref l∧y=.ref b∧H l=some (.lst xs)∧H b=some (.lst zs)∧xs.length + zs.length≤sizeLine∧∀ p,H p=none→Q (.ref p) (upd H p (.lst (xs ++ zs)))
theorem op_cat:OpR X (binaryOp .Add) rCat:=by
 intro pins s σ H x y v u Q I rx ry h
 obtain ⟨l,b,xs,zs,rfl,rfl,hH,hB,hz,q⟩:=h
 cases rx
 cases ry
 obtain ⟨z,its,n,r,hl,e⟩:=I.lstM hH
 obtain ⟨z2,its2,n2,r2,hl2,e2⟩:=I.lstM hB
 refine PySem.P.add_list e e2 ?_ (by rw [List.size_toArray,List.size_toArray]; omega)
 have ea:its.toArray ++ its2.toArray=(its ++ its2).toArray:=by simp
 rw [ea]
 exact ⟨.ref _,_,I.lnew (t':=s.toks) (r.append r2) (by rw [List.length_append]; omega),rfl,q _ I.fresh⟩
noncomputable def rRep:R2:=fun x y H Q=>∃ l k xs,x=.ref l∧y=.int k∧H l=some (.lst xs)∧-(2 ^ 63)≤k∧k < 2 ^ 63∧xs.length * k.toNat≤sizeLine∧
 ∀ p,H p=none→Q (.ref p) (upd H p (.lst (List.replicate k.toNat xs).flatten))
theorem len_rep {α:Type} (xs:List α) (k:Nat):(List.replicate k xs).flatten.length=k * xs.length:=by
 induction k with
 | zero=>simp
 | succ k ih=>rw [List.replicate_succ,List.flatten_cons,List.length_append,ih,Nat.succ_mul,Nat.add_comm]
theorem op_rep:OpR X (binaryOp .Mult) rRep:=by
 intro pins s σ H x y v u Q I rx ry h
 obtain ⟨l,k,xs,rfl,rfl,hH,h1,h2,hz,q⟩:=h
 cases rx
 obtain ⟨t,rfl⟩:=ry
 obtain ⟨z,its,n,r,hl,e⟩:=I.lstM hH
 have hlen:its.toArray.size * k.toNat≤sizeLine:=by rw [List.size_toArray,← hl]; exact hz
 have hcap:¬ its.toArray.size * k.toNat > (2 ^ 63 - 1) / 8:=by
  have:(sizeLine:Nat)≤(2 ^ 63 - 1) / 8:=by decide
  omega
 have hfit:¬ (!Builtin.List.listFitsIndex k)=true:=by
  rw [fitsIndex_both h1 h2]
  exact Bool.false_ne_true
 have hlong:¬ Builtin.List.listTooLong (its.toArray.size * k.toNat)=true:=by
  rw [notLongL hlen]
  exact Bool.false_ne_true
 have hnew:List.foldl (fun x1 x2=>x1 ++ x2) #[] (List.replicate (if its.toArray.isEmpty=true then 0 else k.toNat) its.toArray)=(List.replicate k.toNat its).flatten.toArray:=by
  have f0:∀ m:Nat,List.foldl (fun x1 x2=>x1 ++ x2) #[] (List.replicate m its.toArray)=(List.replicate m its).flatten.toArray:=fun m=>by
   have:=foldl_rep its m []
   rw [List.nil_append] at this
   exact this
  rw [f0]
  cases its with
  | nil=>simp
  | cons a r'=>rw [if_neg (by simp)]
 refine wpAny_binaryOp_repeat_ref (T:="list") (U:="int") (by decide) ⟨_,e,rfl⟩ (fun s'=>typeIs_int s' k t) noFill_list_mul F.fills_int_mul F.slot_int_rmul repeat_list F.slot_int_index.lookup
  (call_meets F.slot_int_rmul (typeIs_int s k t) F.entry_int_rmul (F.args_int_rmul_2 _ _) (int___rmul___int_list k t l its.toArray n)
   ⟨e,rfl,⟨_,e,rfl⟩,call_meets F.slot_list_mul ⟨_,e,rfl⟩ F.entry_list_mul (F.args_list_mul_2 _ _) (AutoListH.list___mul___list_int_3 l its.toArray n k t hfit hcap hlong) ⟨e,?_⟩⟩)
 rw [hnew]
 exact ⟨.ref _,_,I.lnew (t':=s.toks) (r.rep k.toNat) (by rw [len_rep,Nat.mul_comm]; exact hz),rfl,q _ I.fresh⟩
end
section
variable {prog:Program} {w:World} {A:Around} {E:Value→Shared→Prop} {s:Shared}
end
section
variable {X:Cx}
end
end L2
namespace L2
open PySem PySem.Spec PyProof.Rows
section
variable {κ:Type} [DecidableEq κ]
theorem KV.length {kvs:List (κ × V)} {vs:List (κ × Value)} (r:KV kvs vs):kvs.length=vs.length:=Paired.length r
end
section
variable {P:Program} {w:World} {H:Hp} {h:Heap} {a:Addr}
theorem rd_of {u:HO} (ok:HOk P w H h) (e:Rd H a u):ObjOk P w H h a u:=e.ok ok
theorem dk_rd {kvs:List (Key × V)} (ok:HOk P w H h) (e:Rd H a (.dK kvs)):kvs.length≤sizeLine∧(a == sysModules)=false∧∃ vs,KV kvs vs∧h.DictOf (mixKind P w) a vs:=
 show ObjOk P w H h a (.dK kvs) from rd_of ok e
end
section
variable {X:Cx} {pins:List (Addr × Obj)} {σ:St} {H:Hp} {s:Shared} {a:Addr} {y v:V} {u r:Value} {o:Option V} {A:Around} {E:Value→Shared→Prop}
theorem Inv.big (I:Inv X pins σ H s):sysModules < s.heap.objs.size:=by
 have h:mainGlobals < s.heap.objs.size:=(I.mod.glob.keeps I.bk).lt
 exact Nat.lt_trans (by decide) h
end
section
variable {X:Cx} {pins:List (Addr × Obj)} {σ:St} {H:Hp} {s:Shared} {a:Addr} {kvs:List (Key × V)} {k:Key} {u:Value} {A:Around} {E:Value→Shared→Prop}
theorem d_len {Q:Value→Shared→Prop} (I:Inv X pins σ H s) (e:Rd H a (.dK kvs)) (h:∀ t s',Inv X pins σ H s'→Q (.int kvs.length t) s'):wpAny (model X.prog X.w) A (call (.builtin "len") [.ref a]) Q E s:=by
 obtain ⟨z,hd,vs,rel,dd⟩:=dk_rd I.hok e
 refine call_len_dict hd dd (by rw [← rel.length]; rw [sizeLine_eq] at z; omega) ?_
 rw [← rel.length]
 exact h _ _ (I.tok _)
end
section
variable {X:Cx} {o i e value:Expr} {pos pos' tpos:Pos} {td ty tv:TE}
end
theorem dk_empty {P:Program} {w:World} {H:Hp} (h:Heap) (hb:sysModules < h.objs.size):ObjOk P w H (h.push { cls:=.type "dict",data:=.dict #[] }) h.objs.size (.dK []):=
 ⟨Nat.zero_le _,beq_eq_false_iff_ne.mpr (Ne.symm (Nat.ne_of_lt hb)),[],.nil,Heap.DictOf.new h⟩
noncomputable def tDNewK:TE:=fun _ H Q=>∀ p,H p=none→Q (.ref p) (upd H p (.dK []))
section
variable {X:Cx} {pos:Pos}
theorem pe_dnewK:PE X (.Dict [] [] pos) tDNewK:=fun pins s σ H Q I h=>
 wpAny_Dict_empty ⟨.ref s.heap.objs.size,_,I.laid (a:=s.heap.objs.size) (o:=.dK []) (t':=s.toks) (fun _ _ q=>Heap.get?_push_of_some _ q) (Nat.le_refl _) (dk_empty s.heap I.big),rfl,h _ (I.hok.fresh (Nat.le_refl _))⟩
end
section
variable {X:Cx} {pins:List (Addr × Obj)} {σ:St} {H:Hp} {s:Shared} {a:Addr} {y d:V} {u r:Value} {o:Option V} {A:Around} {E:Value→Shared→Prop}
end
section
variable {X:Cx} {o e f:Expr} {apos cpos:Pos} {td ty tx:TE}
end
section
variable {X:Cx} {pins:List (Addr × Obj)} {σ:St} {H:Hp} {s:Shared} {a:Addr} {kvs:List (Key × V)} {A:Around} {E:Value→Shared→Prop}
end
section
variable {X:Cx} {pins:List (Addr × Obj)} {σ:St} {H:Hp} {s:Shared} {a:Addr} {y:V} {u:Value} {A:Around} {E:Value→Shared→Prop}
end
end L2
namespace Att
open PySem PySem.W PySem.Calls PyProof.Rows
theorem ints_of_wellAll {P:Params} {h:Heap}:∀ (ns:List Int) (vs:List Value),WellAll P h vs (ns.map WData.int)→IntsAre vs ns:=by
 intro ns
 induction ns with
 | nil=>
  intro vs w
  rw [List.map_nil] at w
  cases w
  exact .nil
 | cons n ns ih=>
  intro vs w
  rw [List.map_cons] at w
  cases w with
  | cons a b=>
   cases a
   exact .cons _ _ (ih _ b)
theorem script_of {l:OpenLaw} {n:Nat} (hn:l.most=some n) {P:Params} {h:Heap} {args:List WData} {vals:List Value}
  (hpre:l.row.toRowW.claim.pre args=true) (hwl:WellAll P h vals args):
  ∃ a vs ns,vals=[Value.ref a]∧args=[WData.list (ns.map WData.int)]∧h.get? a=some { cls:=.type "list",data:=.seq vs.toArray }∧IntsAre vs ns∧ns.length≤n:=by
 have hsh:WShape.hasAll [] args [.list .int]=true:=(pre_splitW hpre).1
 have hc:l.pre.holds [] { args:=args }=true:=(pre_splitW hpre).2
 obtain ⟨d,r,rfl,h1,h2⟩:=hasAllW_cons hsh
 obtain rfl:=hasAllW_nil h2
 obtain ⟨xs,rfl,h3⟩:=hasW_list h1
 obtain ⟨ns,rfl⟩:=items_int h3
 have hlen:ns.length≤n:=by
  unfold OpenLaw.pre at hc
  have h4:(WTm.not (.lt (.lit (.int (n:Int))) (.len (.arg 0)))).holds [] { args:=[.list (ns.map .int)] }=true:=by
   have h4:=(holds_andW hc).1
   rw [hn] at h4
   exact h4
  have h5:=condW_of h4 (w_not (w_lt w_lit (w_len_list (w_arg rfl))))
  rw [List.length_map] at h5
  refine Nat.le_of_not_lt fun q=>?_
  have q':(n:Int) < ((ns.length:Nat):Int):=by omega
  first
   | (rw [decide_eq_true q'] at h5; exact absurd h5 (by decide))
   | (simp at h5; omega)
 cases hwl with
 | cons w1 w2=>
  cases w2
  cases w1 with
  | list ho hall=>exact ⟨_,_,ns,rfl,rfl,ho,ints_of_wellAll ns _ hall,hlen⟩
theorem post_true (l:OpenLaw) (args:List WData):l.row.toRowW.claim.post args (.bool true) args=true:=
 postW_of (r:=l.row.toRowW) (X:=(true == true))
  (show WShape.has [] (.bool true) .bool=true by first | rfl | decide | simp [WShape.has,WShape.arms,WShape.armsAll])
  (show (WTm.eq .res (.lit (.bool true))).value [] { args:=args,res:=some (.bool true),after:=args }=some (.bool (true == true)) from w_eq_bool (w_res rfl) w_lit) rfl
theorem attach_call {l:OpenLaw} {n:Nat} {q:Program} {loose:List Str} {XP:(Str→Option Value)→Heap→Prop} {YP:World→Heap→Prop} {d:DefRec}
  (hn:l.most=some n) (hdf:d.params.defaults=[])
  (call:∀ (w:World) (s₀ s₁:Shared) (mg mb:Str→Option Value) (fa:Addr) (o:Obj) (pm cd doc:Value) (a:Addr) (vs:List Value) (ns:List Int),
   Ground q loose [] XP w s₀ mg mb s₁.heap→YP w s₁.heap→
   s₁.heap.get? fa=some o→o.data=.func (docDef d.name d.params d.body d.scope pm cd doc)→s₁.heap.CodeRec cd d.name→mg d.name=some (.ref fa)→
   s₁.heap.get? a=some { cls:=.type "list",data:=.seq vs.toArray }→IntsAre vs ns→ns.length≤n→s₁.gens = #[]→
   codeAny (model l.prog w) callerA (.call (.ref fa) ⟨[.ref a],[]⟩) (fun r s'=>r=.ok (.ret (.bool true))∧OldK s₁.heap s'.heap∧s'.os=s₁.os∧AllBare s'.gens) s₁):
  WalkO q loose XP YP l.row.toRowW d [] (fun f vs=>PySem.call f vs):=by
 intro w s₀ s₁ mg mb G Y fa o pm cd doc dV kV ho hd hcd hD hmg hg args vals as hpre hlay hrd hwl hlo
 obtain rfl:dV=.none:=Dflts.none hD hdf
 obtain rfl:kV=.none:=Dflts.noKw hD
 obtain ⟨a,vs,ns,rfl,rfl,hobj,hints,hlen⟩:=script_of hn hpre hwl
 refine enter_call (codeAny_mono (call w s₀ s₁ mg mb fa o pm cd doc a vs ns G Y ho (fd_plain hd) hcd hmg hobj hints hlen hg) fun r s' hq=>?_)
 obtain ⟨rfl,h2,h3,h4⟩:=hq
 exact ⟨.inl ⟨.bool true,.bool true,[],rfl,fun _=>rfl,.bool true,post_true l _,fun _=>⟨List.Pairwise.nil,fun _ hm=>(nomatch hm)⟩⟩,h2,h3,h4⟩
section
variable {prog:Program} {w:World} {A:Around} {E:Value→Shared→Prop} {s:Shared} {K:Frag}
end
end Att
namespace L2
open PySem PySem.Spec PyProof.Rows
theorem vals_ints:∀ {vs:List Value} {ns:List Int},IntsAre vs ns→Vals (ns.map V.int) vs
 | _,_,.nil=>.nil
 | _,_,.cons n t h=>.cons ⟨t,rfl⟩ (vals_ints h)
noncomputable def Only (H:Hp):Prop:=∀ b,H b=none ∨ ∃ o xs,H b=some (.frz o (.lst xs))
theorem law_call {P:Program} {w:World} {K:PySem.W.Frag} {mg mb:Str→Option Value} {CX:CXT} {k:Nat} {fa a:Addr} {fd:FuncData} {x:Str} {sp:Sp} {s₁:Shared} {vs:List Value} {ns:List Int}
  (KX:K.In s₁.heap) (hns:s₁.heap.Ns mainGlobals mg) (hb:s₁.heap.Ns builtinsNs mb) (hbb:∀ x:Str,x ≠ "__name__"→mb x=bootBuiltins x) (hlim:s₁.heap.NoLimit) (hg:s₁.gens = #[])
  (ha:s₁.heap.get? a=some { cls:=.type "list",data:=.seq vs.toArray }) (hi:IntsAre vs ns) (hl:ns.length≤sizeLine) (hr:Room k callerA)
  (F:∀ base:Heap,K.In base→base.Ns mainGlobals mg→FnOk P w K mg base CX k fa fd [x] sp) (hbind:∀ (s:Shared) (u:Value),BindsTo s fd ⟨[u],[]⟩ [(x,u)])
  (hsp:∀ H:Hp,Only H→SqL K H a (ns.map V.int)→sp [.ref a] H (fun v _=>v=.bl true) fun _ _ _=>False)
  (hCX:∀ H e s',CX [] H s₁ (fun _ _ _=>False) e s'→False):
  codeAny (model P w) callerA (.call (.ref fa) ⟨[.ref a],[]⟩) (fun r s'=>r=.ok (.ret (.bool true))∧OldK s₁.heap s'.heap∧s'.os=s₁.os∧AllBare s'.gens) s₁:=by
 have rv:=vals_ints hi
 have lenV:=hi.length
 -- from an abstract heap in which nothing but the script may be tracked
 have core:∀ H:Hp,Only H→SqL K H a (ns.map V.int)→HOk P w H s₁.heap→(∀ b,H b ≠ none→b=a)→(H a ≠ none→K.lookup a=none)→
   codeAny (model P w) callerA (.call (.ref fa) ⟨[.ref a],[]⟩) (fun r s'=>r=.ok (.ret (.bool true))∧OldK s₁.heap s'.heap∧s'.os=s₁.os∧AllBare s'.gens) s₁:=by
  intro H hO hS hok hA hK
  have base_of:∀ {b:Addr} {o:Obj},s₁.heap.get? b=some o→H b=none→(hidT s₁.heap H).get? b=some o:=fun e n=>hidT_get e n
  have noA:∀ {b:Addr} {o:Obj} {es:Array DictEntry} {ep:Nat},s₁.heap.get? b=some o→o.data=.dict es ep→H b=none:=fun {b o es ep} e d=>by
   cases q:H b with
   | none=>rfl
   | some u=>
    have e':b=a:=hA b (by rw [q]; simp)
    subst e'
    rw [ha] at e; cases e
    have d':Data.seq vs.toArray _=Data.dict es ep:=d
    cases d'
  have nsK:∀ {b:Addr} {m:Str→Option Value},s₁.heap.Ns b m→(hidT s₁.heap H).Ns b m:=fun {b m} ⟨o,es,ep,e,d,r⟩=>⟨o,es,ep,base_of e (noA e d),d,r⟩
  have hKb:K.In (hidT s₁.heap H):=fun b o e=>base_of (KX b o e) (by
   cases q:H b with
   | none=>rfl
   | some u=>
    have e':b=a:=hA b (by rw [q]; simp)
    subst e'
    rw [hK (by rw [q]; simp)] at e; cases e)
  have hM:Mod K mg (hidT s₁.heap H):=⟨hKb,nsK hns,⟨mb,nsK hb,hbb⟩,let ⟨mc,h1,h2⟩:=hlim; ⟨mc,nsK h1,h2⟩⟩
  have e0:Env0 P w K mg (hidT s₁.heap H) callerA [] s₁ H:=⟨rfl,hM,fun b o e=>of_hidT e,Nat.le_of_eq (hidT_size _ _),trivial,fun b hb=>absurd (show b ∈ ([]:List Addr) from hb) (by simp),hok,.of_eq hg⟩
  refine codeAny_mono ((F _ hKb (nsK hns)).run callerA [] s₁ H ⟨[.ref a],[]⟩ [.ref a] [.ref a] _ _ hr e0 (hbind s₁ (.ref a)) (.cons rfl .nil) (hsp H hO hS)) fun r s' h=>?_
  cases r with
  | error e=>exact (hCX H e s' h).elim
  | ok fl=>
   cases fl with
   | next=>exact False.elim h
   | brk=>exact False.elim h
   | cont=>exact False.elim h
   | ret u=>
    obtain ⟨v,H',os,bare,un,hok',r',q⟩:=h
    have q':v=.bl true:=q
    subst q'
    obtain rfl:u=Value.bool true:=r'
    refine ⟨rfl,OldK.of_keep fun b o e=>?_,os,bare⟩
    cases q:H b with
    | none=>exact un.keep b o e q (by intro z; exact absurd (show b ∈ ([]:List Addr) from z) (by simp)) (by simp)
    | some u=>
     rcases hO b with z | ⟨ob,xs,z⟩
     ·rw [q] at z; cases z
     ·have z2:=un.frzs b ob _ z
      obtain ⟨e1,_⟩:=hok b _ z
      obtain ⟨e2,_⟩:=hok' b _ z2
      rw [e] at e1; cases e1
      exact e2
 cases hk:K.lookup a with
 | some o=>
  -- the script is one of the module's own objects
  have e:=KX a o hk
  rw [ha] at e
  cases e
  refine core (fun _=>none) (fun _=>.inl rfl) (.inr ⟨_,vs.toArray,_,hk,rfl,rfl,rfl,by rw [List.size_toArray,lenV]; exact hl,by simpa using rv⟩) (fun b u z=>by have z':(none:Option HO)=some u:=z; cases z') (fun b z=>absurd rfl z) fun z=>absurd rfl z
 | none=>
  refine core (fun b=>if b=a then some (.frz { cls:=.type "list",data:=.seq vs.toArray } (.lst (ns.map V.int))) else none) (fun b=>?_) (.inl (.inr ⟨{ cls:=.type "list",data:=.seq vs.toArray },if_pos rfl⟩)) (fun b u z=>?_) (fun b z=>?_) fun _=>hk
  ·by_cases hb:b=a
   ·exact .inr ⟨_,_,if_pos hb⟩
   ·exact .inl (if_neg hb)
  ·by_cases hb:b=a
   ·have z':=(if_pos hb).symm.trans z
    cases z'
    subst hb
    exact ⟨ha,by rw [List.length_map]; exact hl,vs,_,rv,ha⟩
   ·have z':=(if_neg hb).symm.trans z
    cases z'
  ·by_cases hb:b=a
   ·exact hb
   ·exact absurd (if_neg hb) z
end L2
namespace L2
open PySem PySem.Spec PyProof.Rows
theorem walk_of {l:PySem.W.OpenLaw} {n k:Nat} {q:Program} {loose:List Str} {XP:(Str→Option Value)→Heap→Prop} {YP:World→Heap→Prop} {d:DefRec} {K:Params→PySem.W.Frag} {CX:World→CXT} {sp:World→Sp} {x:Str}
  (hn:l.most=some n) (hn2:n≤sizeLine) (hdf:d.params.defaults=[]) (hr:Room k callerA)
  (hY:∀ (w:World) (h:Heap),YP w h→(K w.params).In h)
  (F:∀ (w:World) (mg:Str→Option Value) (fa:Addr) (h:Heap),(K w.params).In h→h.Ns mainGlobals mg→mg d.name=some (.ref fa)→
   ∃ fd:FuncData,(∀ (s:Shared) (u:Value),BindsTo s fd ⟨[u],[]⟩ [(x,u)])∧
    ∀ base:Heap,(K w.params).In base→base.Ns mainGlobals mg→FnOk l.prog w (K w.params) mg base (CX w) k fa fd [x] (sp w))
  (hsp:∀ (w:World) (H:Hp) (a:Addr) (ns:List Int),ns.length≤n→Only H→SqL (K w.params) H a (ns.map V.int)→sp w [.ref a] H (fun v _=>v=.bl true) fun _ _ _=>False)
  (hCX:∀ (w:World) (H:Hp) (s:Shared) (e:Value) (s':Shared),CX w [] H s (fun _ _ _=>False) e s'→False):
  PySem.W.WalkO q loose XP YP l.row.toRowW d [] (fun f vs=>PySem.call f vs):=by
 refine Att.attach_call hn hdf fun w s₀ s₁ mg mb fa o pm cd doc a vs ns G Y ho hd hcd hmg hobj hints hlen hg=>?_
 have KX:=hY w _ Y
 obtain ⟨fd,hb,hF⟩:=F w mg fa _ KX G.T.g hmg
 exact law_call KX G.T.g G.T.b G.T.builtins G.T.nolimit hg hobj hints (Nat.le_trans hlen hn2) hr hF hb (fun H hO hS=>hsp w H a ns hlen hO hS) fun H e s'=>hCX w H s₁ e s'
end L2
namespace L2
open PySem PySem.Spec PyProof.Rows
noncomputable def defArgs (s:Stmt):Arguments:=match s with
 | .FunctionDef _ a _ _ _ _ _ _ _ _=>a
 | _=>{ posonlyargs:=[],args:=[],vararg:=none,kwonlyargs:=[],kw_defaults:=[],kwarg:=none,defaults:=[] }
noncomputable def defBody (s:Stmt):List Stmt:=match s with
 | .FunctionDef _ _ b _ _ _ _ _ _ _=>b
 | _=>[]
noncomputable def defScope (s:Stmt):Scope:=match s with
 | .FunctionDef _ _ _ _ _ _ sc _ _ _=>sc
 | _=>{ kind:=.function,names:=[],isGenerator:=false,isCoroutine:=false }
noncomputable abbrev CX0:CXT:=fun _ _ _ _ _ _=>False
noncomputable abbrev E0:XK:=fun _ _ _=>False
structure Fun (K:PySem.W.Frag) (x qual:Str) (st:Stmt) (f:Addr) (fd:FuncData):Prop where
 ex:∃ (oc:Value) (od:Option Addr) (kV doc pm:Value) (an:Option Addr) (cdv ct:Value) (osl:Array (Option Value)),
  fd=PySem.W.fnOf x qual (defArgs st) (defBody st) (defScope st) .none kV doc pm an cdv ct∧K.lookup f=some ⟨oc,od,.func fd,osl⟩∧PySem.W.codeIn K cdv qual=true
 kp:PySem.W.keepIn K (.ref f)=true
section
variable {P:Program} {w:World} {K:PySem.W.Frag} {mg:Str→Option Value} {base:Heap}
theorem Fun.binds {x qual:Str} {st:Stmt} {f:Addr} {fd:FuncData} {ps:List Str} (F:Fun K x qual st f fd)
  (h:∀ (kV doc pm:Value) (an:Option Addr) (cdv ct:Value) (us:List Value),us.length=ps.length→bindArgs (PySem.W.fnOf x qual (defArgs st) (defBody st) (defScope st) .none kV doc pm an cdv ct) ⟨us,[]⟩=pure (ps.zip us)):Binds K fd ps []:=by
 obtain ⟨oc,od,kV,doc,pm,an,cdv,ct,osl,rfl,lk,hcd⟩:=F.ex
 exact .all (h kV doc pm an cdv ct)
theorem fun_mk {x qual:Str} {st:Stmt} {f:Addr} {oc:Value} {od an:Option Addr} {osl:Array (Option Value)} {kV doc pm cdv ct:Value} (l:K.lookup f=some ⟨oc,od,.func (PySem.W.fnOf x qual (defArgs st) (defBody st) (defScope st) .none kV doc pm an cdv ct),osl⟩)
  (c:PySem.W.codeIn K cdv qual=true) (k:PySem.W.keepIn K (.ref f)=true):Fun K x qual st f (PySem.W.fnOf x qual (defArgs st) (defBody st) (defScope st) .none kV doc pm an cdv ct):=⟨⟨oc,od,kV,doc,pm,an,cdv,ct,osl,rfl,l,c⟩,k⟩
end
section
variable {X:Cx}
theorem pv (i:Nat) {x:Str} {pos:Pos} (hN:autoParam (X.N[i]?=some x) Au.h1._auto_1) (hv:Vis X.env.scope x) (hd:autoParam ((x == ("__debug__":Str))=false) Au.h2._auto_1)
  (hcd:autoParam ((x == ("__classdict__":Str))=false) Au.h2._auto_1):PE X (.Name x pos) (tVar i):=pe_var hN hv hd hcd
end
theorem iteF {A B:Prop} (h:B):if false=true then A else B:=by
 rw [if_neg Bool.false_ne_true]
 exact h
theorem iteT {A B:Prop} (h:A):if true=true then A else B:=by
 rw [if_pos rfl]
 exact h
end L2
namespace L2
open PySem PySem.Spec PyProof.Rows
section
variable {X:Cx}
theorem call_lenD:CallR X (.builtin "len") (fun xs H Q=>∃ a kvs,xs=[V.ref a]∧H a=some (.dK kvs)∧Q (.int kvs.length) H):=by
 intro pins s σ H xs us Q I r h
 obtain ⟨a,kvs,rfl,ha,q⟩:=h
 obtain ⟨u,rfl,ru⟩:=vals1 r
 cases ru
 exact d_len I (.inl ha) fun t s' I'=>⟨.int kvs.length,H,I',⟨t,rfl⟩,q⟩
end
section
variable {κ:Type} [DecidableEq κ]
end
end L2
end
set_option autoImplicit false
namespace PD
open PySem
inductive D where
 | non | bl (b:Bool) | int (i:Int) | str (x:Str)
 | tup (xs:List D) | lst (xs:List D) | fz (xs:List D) | dic (kvs:List (Sum Int Str × D)) | ref (n:Nat) | ty (n:String)
 /-- a caught exception of an own class; an own class -/
 | exc (c:Str) | cls (c:Str)
 deriving Inhabited
inductive SO where
 | lst (xs:List D) | dic (kvs:List (Sum Int Str × D)) | ins (c:Str) (fs:List (Str × D))
 /-- a dict that has been walked: read,changed no more -/
 | fdic (kvs:List (Sum Int Str × D))
 /-- a list that has been walked: read,changed no more -/
 | flst (xs:List D)
 deriving Inhabited
noncomputable abbrev Sto:=List SO
set_option genInjectivity false in
structure XD where
 cls:Str
 arg:D
 deriving Inhabited
inductive R (A:Type) where
 | ok (a:A) (S:Sto) | err (x:XD) (S:Sto) | bad
noncomputable def R.bind {A B:Type} (r:R A) (f:A→Sto→R B):R B:=match r with
 | .ok a S=>f a S | .err x S=>.err x S | .bad=>.bad
theorem R.bind_ok {A B:Type} (a:A) (S:Sto) (f:A→Sto→R B):(R.ok a S).bind f=f a S:=rfl
theorem R.bind_err {A B:Type} (x:XD) (S:Sto) (f:A→Sto→R B):(R.err (A:=A) x S).bind f=.err x S:=rfl
theorem R.bind_bad {A B:Type} (f:A→Sto→R B):(R.bad (A:=A)).bind f=.bad:=rfl
noncomputable def R.of {A:Type} (S:Sto):Option A→R A
 | some a=>.ok a S | none=>.bad
theorem R.of_some {A:Type} (S:Sto) (a:A):R.of S (some a)=.ok a S:=rfl
noncomputable abbrev Rho:=List (Option D)
noncomputable abbrev EM:=Rho→Sto→R D
noncomputable abbrev TM:=Rho→Sto→R Bool
noncomputable abbrev AM:=Rho→Sto→R (List D)
set_option genInjectivity false in
inductive F where
 | nx (r:Rho) | rt (d:D) | bk (r:Rho) | ct (r:Rho)
noncomputable abbrev SM:=Rho→Sto→R F
noncomputable abbrev FM:=List D→Sto→R D
noncomputable def eVar (i:Nat):EM:=fun r S=>match r[i]? with
 | some (some d)=>.ok d S
 | _=>.bad
noncomputable def eC (d:D):EM:=fun _ S=>.ok d S
noncomputable def eUn (f:Sto→D→Option D) (a:EM):EM:=fun r S=>(a r S).bind fun x S1=>R.of S1 (f S1 x)
noncomputable def eOp (f:Sto→D→D→Option D) (a b:EM):EM:=fun r S=>(a r S).bind fun x S1=>(b r S1).bind fun y S2=>R.of S2 (f S2 x y)
noncomputable def eChain (f g:Sto→D→D→Option D) (a b c:EM):EM:=fun r S=>(a r S).bind fun x S1=>(b r S1).bind fun y S2=>match f S2 x y with
 | some (.bl true)=>(c r S2).bind fun z S3=>R.of S3 (g S3 y z)
 | some (.bl false)=>.ok (.bl false) S2
 | _=>.bad
noncomputable def eAnd (a b:EM):EM:=fun r S=>(a r S).bind fun x S1=>match x with
 | .bl true=>b r S1
 | .bl false=>.ok (.bl false) S1
 | _=>.bad
noncomputable def eOr (a b:EM):EM:=fun r S=>(a r S).bind fun x S1=>match x with
 | .bl true=>.ok (.bl true) S1
 | .bl false=>b r S1
 | _=>.bad
noncomputable def eNot (a:EM):EM:=fun r S=>(a r S).bind fun x S1=>match x with
 | .bl b=>.ok (.bl (!b)) S1
 | _=>.bad
noncomputable def eIf (t:TM) (a b:EM):EM:=fun r S=>(t r S).bind fun c S1=>if c=true then a r S1 else b r S1
noncomputable def aNil:AM:=fun _ S=>.ok [] S
noncomputable def aCons (a:EM) (t:AM):AM:=fun r S=>(a r S).bind fun x S1=>(t r S1).bind fun xs S2=>.ok (x :: xs) S2
noncomputable def eTup (t:AM):EM:=fun r S=>(t r S).bind fun xs S1=>if xs.length≤sizeLine then .ok (.tup xs) S1 else .bad
noncomputable def eLst (t:AM):EM:=fun r S=>(t r S).bind fun xs S1=>if xs.length≤sizeLine then .ok (.lst xs) S1 else .bad
noncomputable def eNew (t:AM):EM:=fun r S=>(t r S).bind fun xs S1=>if xs.length≤sizeLine then .ok (.ref S1.length) (S1 ++ [.lst xs]) else .bad
noncomputable def eCall (f:FM) (t:AM):EM:=fun r S=>(t r S).bind fun xs S1=>f xs S1
noncomputable def eB (f:Sto→List D→Option D) (t:AM):EM:=fun r S=>(t r S).bind fun xs S1=>R.of S1 (f S1 xs)
noncomputable def eBN (f:Sto→List D→Option SO) (t:AM):EM:=fun r S=>(t r S).bind fun xs S1=>match f S1 xs with
 | some o=>.ok (.ref S1.length) (S1 ++ [o])
 | none=>.bad
noncomputable def tV (a:EM):TM:=fun r S=>(a r S).bind fun x S1=>match x with
 | .bl b=>.ok b S1
 | _=>.bad
noncomputable def tAnd (a b:TM):TM:=fun r S=>(a r S).bind fun c S1=>if c=true then b r S1 else .ok false S1
noncomputable def tOr (a b:TM):TM:=fun r S=>(a r S).bind fun c S1=>if c=true then .ok true S1 else b r S1
noncomputable def tNot (a:TM):TM:=fun r S=>(a r S).bind fun c S1=>.ok (!c) S1
noncomputable def R.nx {A:Type}:R A→R A
 | .err _ _=>.bad
 | r=>r
noncomputable def eNx (a:EM):EM:=fun r S=>(a r S).nx
noncomputable def tNx (a:TM):TM:=fun r S=>(a r S).nx
noncomputable def aNx (a:AM):AM:=fun r S=>(a r S).nx
noncomputable def sSkip:SM:=fun r S=>.ok (.nx r) S
noncomputable def sBad:SM:=fun _ _=>.bad
noncomputable def sSeq (a b:SM):SM:=fun r S=>(a r S).bind fun f S1=>match f with
 | .nx r1=>b r1 S1
 | g=>.ok g S1
noncomputable def sRet (a:EM):SM:=fun r S=>(a r S).bind fun x S1=>.ok (.rt x) S1
noncomputable def sRetN:SM:=fun _ S=>.ok (.rt .non) S
noncomputable def sDrop (a:EM):SM:=fun r S=>(a r S).bind fun _ S1=>.ok (.nx r) S1
noncomputable def sIf (t:TM) (a b:SM):SM:=fun r S=>(t r S).bind fun c S1=>if c=true then a r S1 else b r S1
noncomputable def sBreak:SM:=fun r S=>.ok (.bk r) S
noncomputable def sCont:SM:=fun r S=>.ok (.ct r) S
set_option genInjectivity false in
inductive G where
 | nm (i:Nat) | tp (gs:List G)
mutual
noncomputable def G.put:G→D→Rho→Option Rho
 | .nm i,d,r=>some (r.set i (some d))
 | .tp gs,d,r=>match d with
  | .tup xs=>G.puts gs xs r
  | _=>none
noncomputable def G.puts:List G→List D→Rho→Option Rho
 | [],[],r=>some r
 | g :: gs,x :: xs,r=>match G.put g x r with
  | some r1=>G.puts gs xs r1
  | none=>none
 | _,_,_=>none
end
noncomputable def sSet (i:Nat) (a:EM):SM:=fun r S=>(a r S).bind fun x S1=>.ok (.nx (r.set i (some x))) S1
noncomputable def sAsg (g:G) (a:EM):SM:=fun r S=>(a r S).bind fun x S1=>match g.put x r with
 | some r1=>.ok (.nx r1) S1
 | none=>.bad
noncomputable def sPar (i j:Nat) (t:AM):SM:=fun r S=>(t r S).bind fun xs S1=>match xs with
 | [x,y]=>.ok (.nx ((r.set i (some x)).set j (some y))) S1
 | _=>.bad
noncomputable def sPut (f:Sto→D→D→D→Option Sto) (e o i:EM):SM:=fun r S=>(e r S).bind fun v S1=>(o r S1).bind fun x S2=>(i r S2).bind fun y S3=>match f S3 x y v with
 | some S4=>.ok (.nx r) S4
 | none=>.bad
noncomputable def sMut (f:Sto→D→List D→Option Sto) (o:EM) (t:AM):SM:=fun r S=>(o r S).bind fun x S1=>(t r S1).bind fun ys S2=>match f S2 x ys with
 | some S3=>.ok (.nx r) S3
 | none=>.bad
noncomputable def sNx (a:SM):SM:=fun r S=>(a r S).nx
noncomputable def sRaise (c:Str) (t:AM):SM:=fun r S=>(t r S).bind fun xs S1=>if xs.length≤sizeLine then .err ⟨c,.tup xs⟩ S1 else .bad
noncomputable def sTry (cs:List Str) (i n:Nat) (b h:SM):SM:=fun r S=>match b r S with
 | .err x S1=>if cs.contains x.cls=true then (h ((List.replicate n none).set i (some (.exc x.cls))) S1).nx.bind fun f S2=>match f with
   | .rt d=>.ok (.rt d) S2
   | _=>.bad
  else .bad
 | .ok f S1=>.ok f S1
 | .bad=>.bad
noncomputable def forL (g:G) (b:SM):List D→SM
 | []=>fun r S=>.ok (.nx r) S
 | x :: xs=>fun r S=>match g.put x r with
  | none=>.bad
  | some r1=>(b r1 S).bind fun f S1=>match f with
   | .nx r2=>forL g b xs r2 S1
   | .ct r2=>forL g b xs r2 S1
   | .bk r2=>.ok (.nx r2) S1
   | .rt d=>.ok (.rt d) S1
noncomputable def sFor (it:AM) (g:G) (b:SM):SM:=fun r S=>(it r S).bind fun xs S1=>forL g b xs r S1
noncomputable def whileL (t:TM) (b:SM):Nat→SM
 | 0=>fun _ _=>.bad
 | n + 1=>fun r S=>(t r S).bind fun c S1=>if c=true then (b r S1).bind fun f S2=>match f with
   | .nx r2=>whileL t b n r2 S2
   | .ct r2=>whileL t b n r2 S2
   | .bk r2=>.ok (.nx r2) S2
   | .rt d=>.ok (.rt d) S2
  else .ok (.nx r) S1
noncomputable def capOf (k:Nat) (caps:List Nat) (r:Rho):Rho:=List.replicate k none ++ caps.map fun i=>(r[i]?).join
noncomputable def compL (g:G) (t:TM) (e:EM):List D→Rho→Sto→R (List D)
 | [],_,S=>.ok [] S
 | x :: xs,r,S=>match g.put x r with
  | none=>.bad
  | some r1=>(t r1 S).bind fun c S1=>if c=true then (e r1 S1).bind fun y S2=>(compL g t e xs r1 S2).bind fun ys S3=>.ok (y :: ys) S3
    else compL g t e xs r1 S1
noncomputable def eComp (it:AM) (k:Nat) (caps:List Nat) (g:G) (t:TM) (e:EM):EM:=fun r S=>(it r S).bind fun xs S1=>
 if xs.length≤sizeLine then (compL g t e xs (capOf k caps r) S1).bind fun ys S2=>.ok (.lst ys) S2 else .bad
noncomputable def tTrue:TM:=fun _ S=>.ok true S
noncomputable def fnM (n:Nat) (b:SM):FM:=fun ds S=>(b (ds.map some ++ List.replicate (n - ds.length) none) S).bind fun f S1=>match f with
 | .rt d=>.ok d S1
 | .nx _=>.ok .non S1
 | _=>.bad
end PD
namespace PD
open PySem PySem.Spec PyProof.Rows L2
set_option genInjectivity false in
structure Wd where
 st:List Addr
 hid:List Addr
noncomputable def Wd.no (w:Wd) (a:Addr):Prop:=a ∉ w.st∧a ∉ w.hid
noncomputable def Wd.add (w:Wd) (p:Addr):Wd:=⟨w.st ++ [p],w.hid⟩
noncomputable def Wd.hide (w:Wd) (p:Addr):Wd:=⟨w.st,p :: w.hid⟩
noncomputable def At (w:Wd) (H:Hp) (a:Addr) (o:HO):Prop:=H a=some o∧w.no a
noncomputable def KTup (K:PySem.W.Frag) (a:Addr) (vs:List V):Prop:=
 ∃ (o:Obj) (its:Array Value) (n:Nat),K.lookup a=some o∧o.cls=.type "tuple"∧o.data=.seq its n∧its.size≤sizeLine∧Vals vs its.toList
noncomputable def KLst (K:PySem.W.Frag) (a:Addr) (vs:List V):Prop:=
 ∃ (o:Obj) (its:Array Value) (n:Nat),K.lookup a=some o∧o.cls=.type "list"∧o.dict=none∧o.data=.seq its n∧its.size≤sizeLine∧Vals vs its.toList
noncomputable def FzAt (K:PySem.W.Frag) (w:Wd) (H:Hp) (a:Addr) (vs:List V):Prop:=(∃ o,At w H a (.frz o (.lst vs))) ∨ KLst K a vs
theorem FzAt.sq {K:PySem.W.Frag} {w:Wd} {H:Hp} {a:Addr} {vs:List V} (h:FzAt K w H a vs):SqL K H a vs:=h.elim (fun ⟨o,z⟩=>.inl (.inr ⟨o,z.1⟩)) .inr
noncomputable def ExcAt (a:Addr) (C:Value):Heap→Prop:=fun h=>∃ o,h.get? a=some o∧o.cls=C
mutual
noncomputable def RD (K:PySem.W.Frag) (w:Wd) (H:Hp):D→V→Prop
 | .non,v=>v=.non
 | .bl b,v=>v=.bl b
 | .int i,v=>v=.int i
 | .str x,v=>v=.str x
 | .tup ds,v=>∃ a vs,v=.ref a∧(At w H a (.tup vs) ∨ KTup K a vs)∧RDs K w H ds vs
 | .lst ds,v=>∃ a vs,v=.ref a∧At w H a (.lst vs)∧RDs K w H ds vs
 | .fz ds,v=>∃ a vs,v=.ref a∧FzAt K w H a vs∧RDs K w H ds vs
 | .dic kvs,v=>∃ a us,v=.ref a∧At w H a (.dK us)∧RDk K w H kvs us
 | .ref n,v=>∃ a,v=.ref a∧w.st[n]?=some a
 | .ty n,v=>v=.ty n
 | .exc c,v=>∃ a C o,v=.ref a∧PySem.W.nsIn K mainGlobals c=some (some C)∧At w H a (.frz o (.ext (ExcAt a C)))
 | .cls c,v=>∃ C,PySem.W.nsIn K mainGlobals c=some (some (.ref C))∧v=.ref C
noncomputable def RDs (K:PySem.W.Frag) (w:Wd) (H:Hp):List D→List V→Prop
 | [],vs=>vs=[]
 | d :: ds,vs=>∃ v r,vs=v :: r∧RD K w H d v∧RDs K w H ds r
noncomputable def RDk (K:PySem.W.Frag) (w:Wd) (H:Hp):List (Sum Int Str × D)→List (Key × V)→Prop
 | [],us=>us=[]
 | (k,d) :: ds,us=>∃ v r,us=(k,v) :: r∧RD K w H d v∧RDk K w H ds r
end
structure Ext (w:Wd) (H:Hp) (w':Wd) (H':Hp):Prop where
 keep:∀ a o,H a=some o→a ∉ w.st→H' a=some o
 sub:∃ l,w'.st=w.st ++ l∧∀ a ∈ l,H a=none
 hid:∀ a,a ∈ w.hid→a ∈ w'.hid
 hnew:∀ a,a ∈ w'.hid→a ∈ w.hid ∨ H a=none
 frz:∀ a o u,H a=some (.frz o u)→H' a=some (.frz o u)
theorem Ext.refl (w:Wd) (H:Hp):Ext w H w H:=⟨fun _ _ h _=>h,⟨[],by simp,fun _ h=>nomatch h⟩,fun _ h=>h,fun _ h=>.inl h,fun _ _ _ h=>h⟩
theorem Ext.out {w w':Wd} {H H':Hp} (x:Ext w H w' H') {a:Addr} {o:HO} (h:H a=some o) (n:a ∉ w.st):a ∉ w'.st:=by
 obtain ⟨l,e,f⟩:=x.sub
 rw [e]
 intro z
 rcases List.mem_append.mp z with z | z
 ·exact n z
 ·rw [f a z] at h; cases h
theorem Ext.at {w w':Wd} {H H':Hp} (x:Ext w H w' H') {a:Addr} {o:HO} (h:At w H a o):At w' H' a o:=⟨x.keep a o h.1 h.2.1,x.out h.1 h.2.1,fun z=>(x.hnew a z).elim h.2.2 fun e=>by rw [h.1] at e; cases e⟩
theorem Ext.get {w w':Wd} {H H':Hp} (x:Ext w H w' H') {n:Nat} {a:Addr} (h:w.st[n]?=some a):w'.st[n]?=some a:=by
 obtain ⟨l,e,f⟩:=x.sub
 rw [e,List.getElem?_append_left (List.getElem?_eq_some_iff.mp h).1]
 exact h
theorem Ext.trans {w w1 w2:Wd} {H H1 H2:Hp} (x:Ext w H w1 H1) (y:Ext w1 H1 w2 H2) (fr:∀ a ∈ w.st,∃ o,H a=some o∧∃ o',H1 a=some o'):Ext w H w2 H2:=by
 have hno:∀ a,H1 a=none→H a=none:=fun a z=>by
  cases e:H a with
  | none=>rfl
  | some o=>
   by_cases hw:a ∈ w.st
   ·obtain ⟨_,_,o',e'⟩:=fr a hw
    rw [z] at e'; cases e'
   ·have:=x.keep a o e hw
    rw [z] at this; cases this
 refine ⟨fun a o h n=>y.keep a o (x.keep a o h n) (x.out h n),?_,fun a h=>y.hid a (x.hid a h),fun a h=>(y.hnew a h).elim (x.hnew a) fun z=>.inr (hno a z),fun a o u h=>y.frz a o u (x.frz a o u h)⟩
 obtain ⟨l,e1,f⟩:=x.sub
 obtain ⟨l2,e2,f2⟩:=y.sub
 refine ⟨l ++ l2,by rw [e2,e1]; simp,fun a ha=>?_⟩
 rcases List.mem_append.mp ha with z | z
 ·exact f a z
 ·exact hno a (f2 a z)
section
variable {K:PySem.W.Frag} {w w':Wd} {H H':Hp}
mutual
theorem RD.ext (x:Ext w H w' H'):∀ (d:D) (v:V),RD K w H d v→RD K w' H' d v
 | .non,_,h=>h
 | .bl _,_,h=>h
 | .int _,_,h=>h
 | .str _,_,h=>h
 | .tup ds,v,h=>by
  unfold RD at h ⊢
  obtain ⟨a,vs,e,p,r⟩:=h
  exact ⟨a,vs,e,p.imp x.at id,RDs.ext x ds vs r⟩
 | .lst ds,v,h=>by
  unfold RD at h ⊢
  obtain ⟨a,vs,e,p,r⟩:=h
  exact ⟨a,vs,e,x.at p,RDs.ext x ds vs r⟩
 | .fz ds,v,h=>by
  unfold RD at h ⊢
  obtain ⟨a,vs,e,p,r⟩:=h
  exact ⟨a,vs,e,p.imp (fun ⟨o,z⟩=>⟨o,x.at z⟩) id,RDs.ext x ds vs r⟩
 | .dic kvs,v,h=>by
  unfold RD at h ⊢
  obtain ⟨a,us,e,p,r⟩:=h
  exact ⟨a,us,e,x.at p,RDk.ext x kvs us r⟩
 | .ref n,v,h=>by
  unfold RD at h ⊢
  obtain ⟨a,e,p⟩:=h
  exact ⟨a,e,x.get p⟩
 | .ty _,_,h=>h
 | .exc c,v,h=>by
  unfold RD at h ⊢
  obtain ⟨a,C,o,e,q,p⟩:=h
  exact ⟨a,C,o,e,q,x.at p⟩
 | .cls _,_,h=>h
theorem RDs.ext (x:Ext w H w' H'):∀ (ds:List D) (vs:List V),RDs K w H ds vs→RDs K w' H' ds vs
 | [],_,h=>h
 | d :: ds,vs,h=>by
  unfold RDs at h ⊢
  obtain ⟨v,r,e,p,q⟩:=h
  exact ⟨v,r,e,RD.ext x d v p,RDs.ext x ds r q⟩
theorem RDk.ext (x:Ext w H w' H'):∀ (ds:List (Sum Int Str × D)) (vs:List (Key × V)),RDk K w H ds vs→RDk K w' H' ds vs
 | [],_,h=>h
 | (k,d) :: ds,vs,h=>by
  unfold RDk at h ⊢
  obtain ⟨v,r,e,p,q⟩:=h
  exact ⟨v,r,e,RD.ext x d v p,RDk.ext x ds r q⟩
end
end
noncomputable def RDf (K:PySem.W.Frag) (w:Wd) (H:Hp) (fs:List (Str × D)) (us:List (Str × V)):Prop:=fs.map (·.1)=us.map (·.1)∧RDs K w H (fs.map (·.2)) (us.map (·.2))
noncomputable def RO (K:PySem.W.Frag) (w:Wd) (H:Hp) (a:Addr):SO→Prop
 | .lst ds=>∃ vs,H a=some (.lst vs)∧RDs K w H ds vs
 | .dic kvs=>∃ us,H a=some (.dK us)∧RDk K w H kvs us
 | .fdic kvs=>∃ o us,H a=some (.frz o (.dK us))∧RDk K w H kvs us
 | .ins c fs=>∃ C dx us,PySem.W.nsIn K mainGlobals c=some (some (.ref C))∧H a=some (.ins C dx us)∧RDf K w H fs us
 | .flst ds=>∃ o vs,H a=some (.frz o (.lst vs))∧RDs K w H ds vs
structure RS (K:PySem.W.Frag) (w:Wd) (H:Hp) (S:Sto):Prop where
 nd:w.st.Nodup
 len:w.st.length=S.length
 obj:∀ (n:Nat) (o:SO),S[n]?=some o→∃ a:Addr,w.st[n]?=some a∧RO K w H a o
 hid:∀ a ∈ w.hid,a ∉ w.st∧∃ o,H a=some o
section
variable {K:PySem.W.Frag} {w w':Wd} {H H':Hp} {S:Sto}
theorem RS.there (s:RS K w H S) {a:Addr} (ha:a ∈ w.st):∃ o,H a=some o:=by
 obtain ⟨n,hn⟩:=List.mem_iff_getElem?.mp ha
 have hl:n < S.length:=by rw [← s.len]; exact (List.getElem?_eq_some_iff.mp hn).1
 obtain ⟨b,hb,r⟩:=s.obj n S[n] (List.getElem?_eq_getElem hl)
 rw [hn] at hb; cases hb
 revert r
 cases S[n] with
 | lst ds=>rintro ⟨vs,e,_⟩; exact ⟨_,e⟩
 | dic kvs=>rintro ⟨vs,e,_⟩; exact ⟨_,e⟩
 | fdic kvs=>rintro ⟨o,vs,e,_⟩; exact ⟨_,e⟩
 | ins c fs=>rintro ⟨C,dx,us,_,e,_⟩; exact ⟨_,e⟩
 | flst ds=>rintro ⟨o,vs,e,_⟩; exact ⟨_,e⟩
theorem RS.freshS (s:RS K w H S) {a:Addr} (h:H a=none):a ∉ w.st:=fun z=>by
 obtain ⟨o,e⟩:=s.there z
 rw [h] at e; cases e
theorem RS.fresh (s:RS K w H S) {a:Addr} (h:H a=none):w.no a:=⟨s.freshS h,fun z=>by
 obtain ⟨_,o,e⟩:=s.hid a z
 rw [h] at e; cases e⟩
theorem Ext.trans' {w1 w2:Wd} {H1 H2:Hp} {S1:Sto} (x:Ext w H w1 H1) (y:Ext w1 H1 w2 H2) (s:RS K w H S) (s1:RS K w1 H1 S1):Ext w H w2 H2:=
 x.trans y fun a ha=>by
  obtain ⟨o,e⟩:=s.there ha
  obtain ⟨l,el,_⟩:=x.sub
  obtain ⟨o',e'⟩:=s1.there (a:=a) (by rw [el]; exact List.mem_append_left _ ha)
  exact ⟨o,e,o',e'⟩
theorem Ext.new {p:Addr} {o:HO} (hp:H p=none):Ext w H w (upd H p o):=
 ⟨fun a u e _=>by rw [upd_ne (ne_of_none e hp)]; exact e,⟨[],by simp,fun _ z=>nomatch z⟩,fun _ h=>h,fun _ h=>.inl h,fun a o u e=>by rw [upd_ne (ne_of_none e hp)]; exact e⟩
theorem RO.ext (x:Ext w H w' H') {a:Addr} {o:SO} (hk:∀ u,H a=some u→H' a=some u) (r:RO K w H a o):RO K w' H' a o:=by
 cases o with
 | lst ds=>obtain ⟨vs,e,q⟩:=r; exact ⟨vs,hk _ e,RDs.ext x _ _ q⟩
 | dic kvs=>obtain ⟨vs,e,q⟩:=r; exact ⟨vs,hk _ e,RDk.ext x _ _ q⟩
 | fdic kvs=>obtain ⟨o,vs,e,q⟩:=r; exact ⟨o,vs,hk _ e,RDk.ext x _ _ q⟩
 | ins c fs=>obtain ⟨C,dx,us,n,e,q1,q2⟩:=r; exact ⟨C,dx,us,n,hk _ e,q1,RDs.ext x _ _ q2⟩
 | flst ds=>obtain ⟨o,vs,e,q⟩:=r; exact ⟨o,vs,hk _ e,RDs.ext x _ _ q⟩
theorem RS.new {p:Addr} {o:HO} (s:RS K w H S) (hp:H p=none):RS K w (upd H p o) S:=
  ⟨s.nd,s.len,fun n so e=>by
    obtain ⟨a,ha,r⟩:=s.obj n so e
    exact ⟨a,ha,r.ext (Ext.new hp) fun u q=>by rw [upd_ne (ne_of_none q hp)]; exact q⟩,
   fun a ha=>by
    obtain ⟨h1,u,e⟩:=s.hid a ha
    exact ⟨h1,u,by rw [upd_ne (ne_of_none e hp)]; exact e⟩⟩
theorem Ext.alloc {p:Addr} {o:HO} (hp:H p=none):Ext w H (w.add p) (upd H p o):=
 ⟨fun a u e _=>by rw [upd_ne (ne_of_none e hp)]; exact e,⟨[p],rfl,fun a ha=>by
  have:a=p:=by simpa using ha
  subst this; exact hp⟩,fun _ h=>h,fun _ h=>.inl h,fun a o u e=>by rw [upd_ne (ne_of_none e hp)]; exact e⟩
theorem RS.alloc {p:Addr} {o:HO} {so:SO} (s:RS K w H S) (hp:H p=none) (r:RO K (w.add p) (upd H p o) p so):RS K (w.add p) (upd H p o) (S ++ [so]):=by
 have np:=s.freshS hp
 refine ⟨?_,by simp [Wd.add,s.len],fun n so' e=>?_,fun a ha=>?_⟩
 ·show (w.st ++ [p]).Nodup
  rw [List.nodup_append]
  exact ⟨s.nd,by simp,fun a ha b hb=>by
   have:b=p:=by simpa using hb
   subst this
   rintro rfl
   exact np ha⟩
 ·by_cases hn:n < S.length
  ·rw [List.getElem?_append_left hn] at e
   obtain ⟨a,ha,q⟩:=s.obj n so' e
   exact ⟨a,(Ext.alloc (o:=o) hp).get ha,q.ext (Ext.alloc hp) fun u z=>by rw [upd_ne (ne_of_none z hp)]; exact z⟩
  ·have hn':n=S.length:=by
    have:=(List.getElem?_eq_some_iff.mp e).1
    simp at this; omega
   subst hn'
   simp at e; subst e
   exact ⟨p,by show (w.st ++ [p])[S.length]?=some p; rw [← s.len]; simp,r⟩
 ·obtain ⟨h1,u,e⟩:=s.hid a ha
  refine ⟨?_,u,by rw [upd_ne (ne_of_none e hp)]; exact e⟩
  show a ∉ w.st ++ [p]
  intro z
  rcases List.mem_append.mp z with z | z
  ·exact h1 z
  ·have:a=p:=by simpa using z
   subst this
   rw [hp] at e; cases e
theorem Ext.mut {p:Addr} {o u0:HO} (hp:p ∈ w.st) (h0:H p=some u0) (hu:autoParam (∀ o u,u0 ≠ .frz o u) Au.h8._auto_1):Ext w H w (upd H p o):=
 ⟨fun a u e n=>by rw [upd_ne (fun z:a=p=>n (z ▸ hp))]; exact e,⟨[],by simp,fun _ z=>nomatch z⟩,fun _ h=>h,fun _ h=>.inl h,fun a o u e=>by
  rw [upd_ne (fun z:a=p=>by rw [z,h0] at e; exact hu o u (Option.some.inj e))]; exact e⟩
theorem RS.mut {p:Addr} {o:HO} {so:SO} {n:Nat} (s:RS K w H S) (hp:w.st[n]?=some p) {u0:HO} (h0:H p=some u0) (r:RO K w (upd H p o) p so) (hu:autoParam (∀ o u,u0 ≠ .frz o u) Au.h8._auto_1):RS K w (upd H p o) (S.set n so):=by
 have hm:p ∈ w.st:=List.mem_of_getElem? hp
 refine ⟨s.nd,by simp [s.len],fun m so' e=>?_,fun a ha=>?_⟩
 ·by_cases hn:m=n
  ·subst hn
   have hl:m < S.length:=by rw [← s.len]; exact (List.getElem?_eq_some_iff.mp hp).1
   rw [List.getElem?_set_self hl] at e
   cases e
   exact ⟨p,hp,r⟩
  ·rw [List.getElem?_set_ne (Ne.symm hn)] at e
   obtain ⟨a,ha,q⟩:=s.obj m so' e
   refine ⟨a,ha,q.ext (Ext.mut hm h0 hu) fun u z=>?_⟩
   have:a ≠ p:=fun z=>by
    subst z
    obtain ⟨h1,e1⟩:=List.getElem?_eq_some_iff.mp ha
    obtain ⟨h2,e2⟩:=List.getElem?_eq_some_iff.mp hp
    exact hn ((List.getElem_inj s.nd).mp (e1.trans e2.symm))
   rw [upd_ne this]; exact z
 ·obtain ⟨h1,u,e⟩:=s.hid a ha
  exact ⟨h1,u,by rw [upd_ne (fun z:a=p=>h1 (z ▸ hm))]; exact e⟩
end
noncomputable def RSt (K:PySem.W.Frag) (w:Wd) (H:Hp) (r:Rho) (s:L2.St):Prop:=
 s.length=r.length∧∀ (i:Nat) (d:D),r[i]?=some (some d)→∃ v,s[i]?=some (some v)∧RD K w H d v
theorem RSt.ext {K:PySem.W.Frag} {w w':Wd} {H H':Hp} {r:Rho} {s:L2.St} (h:RSt K w H r s) (x:Ext w H w' H'):RSt K w' H' r s:=
 ⟨h.1,fun i d e=>let ⟨v,e1,q⟩:=h.2 i d e; ⟨v,e1,RD.ext x d v q⟩⟩
theorem RSt.set {K:PySem.W.Frag} {w:Wd} {H:Hp} {r:Rho} {s:L2.St} (h:RSt K w H r s) (i:Nat) {d:D} {v:V} (q:RD K w H d v):RSt K w H (r.set i (some d)) (s.set i (some v)):=by
 refine ⟨by simp [h.1],fun j d' e=>?_⟩
 by_cases hj:j=i
 ·subst hj
  have hl:j < r.length:=by
   have:=(List.getElem?_eq_some_iff.mp e).1
   simpa using this
  rw [List.getElem?_set_self hl] at e
  cases e
  exact ⟨v,List.getElem?_set_self (by rw [h.1]; exact hl),q⟩
 ·rw [List.getElem?_set_ne (Ne.symm hj)] at e
  obtain ⟨v',e',q'⟩:=h.2 j d' e
  exact ⟨v',by rw [List.getElem?_set_ne (Ne.symm hj)]; exact e',q'⟩
section
variable {K:PySem.W.Frag} {w:Wd} {H:Hp}
theorem RDs.nil:RDs K w H [] []:=by unfold RDs; rfl
theorem RDs.cons {d:D} {v:V} {ds:List D} {vs:List V} (r:RD K w H d v) (q:RDs K w H ds vs):RDs K w H (d :: ds) (v :: vs):=by unfold RDs; exact ⟨v,vs,rfl,r,q⟩
theorem RDs.nil_inv {vs:List V} (h:RDs K w H [] vs):vs=[]:=by unfold RDs at h; exact h
theorem RDs.cons_inv {d:D} {ds:List D} {vs:List V} (h:RDs K w H (d :: ds) vs):∃ v r,vs=v :: r∧RD K w H d v∧RDs K w H ds r:=by unfold RDs at h; exact h
theorem RDs.one_inv {d:D} {vs:List V} (h:RDs K w H [d] vs):∃ v,vs=[v]∧RD K w H d v:=by
 obtain ⟨v,r,rfl,h1,h2⟩:=h.cons_inv
 rw [h2.nil_inv]
 exact ⟨v,rfl,h1⟩
theorem RDs.two_inv {d e:D} {vs:List V} (h:RDs K w H [d,e] vs):∃ v u,vs=[v,u]∧RD K w H d v∧RD K w H e u:=by
 obtain ⟨v,r,rfl,h1,h2⟩:=h.cons_inv
 obtain ⟨u,rfl,h3⟩:=h2.one_inv
 exact ⟨v,u,rfl,h1,h3⟩
theorem RDs.length:∀ {ds:List D} {vs:List V},RDs K w H ds vs→vs.length=ds.length
 | [],_,h=>by rw [h.nil_inv]; rfl
 | _ :: _,_,h=>by
  obtain ⟨v,r,rfl,_,q⟩:=h.cons_inv
  simp [q.length]
theorem RDs.get:∀ {ds:List D} {vs:List V} {i:Nat} {d:D},RDs K w H ds vs→ds[i]?=some d→∃ v,vs[i]?=some v∧RD K w H d v
 | [],_,_,_,_,e=>by simp at e
 | _ :: _,_,0,_,h,e=>by
  obtain ⟨v,r,rfl,p,_⟩:=h.cons_inv
  simp at e; subst e
  exact ⟨v,rfl,p⟩
 | _ :: ds,_,i + 1,d,h,e=>by
  obtain ⟨v,r,rfl,_,q⟩:=h.cons_inv
  obtain ⟨u,e1,q1⟩:=q.get (i:=i) (d:=d) (by simpa using e)
  exact ⟨u,by simpa using e1,q1⟩
theorem RDs.append:∀ {ds es:List D} {vs us:List V},RDs K w H ds vs→RDs K w H es us→RDs K w H (ds ++ es) (vs ++ us)
 | [],_,_,_,h,q=>by rw [h.nil_inv]; exact q
 | _ :: _,_,_,_,h,q=>by
  obtain ⟨v,r,rfl,p,t⟩:=h.cons_inv
  exact .cons p (t.append q)
theorem RDs.set {d:D} {v:V} (r:RD K w H d v):∀ {ds:List D} {vs:List V} (i:Nat),RDs K w H ds vs→RDs K w H (ds.set i d) (vs.set i v)
 | [],_,_,h=>by rw [h.nil_inv]; exact .nil
 | _ :: _,_,0,h=>by
  obtain ⟨_,_,rfl,_,t⟩:=h.cons_inv
  exact .cons r t
 | _ :: _,_,i + 1,h=>by
  obtain ⟨_,_,rfl,p,t⟩:=h.cons_inv
  exact .cons p (RDs.set r i t)
end
end PD
namespace PD
open PySem PySem.Spec PyProof.Rows L2
noncomputable def RX (K:PySem.W.Frag) (w:Wd) (H:Hp) (x:XD) (c:Value) (da:Option Addr):Prop:=PySem.W.nsIn K mainGlobals x.cls=some (some c)
noncomputable def Post {A B:Type} (K:PySem.W.Frag) (E:XK) (rel:Wd→Hp→A→B→Prop) (w:Wd) (H:Hp) (r:R A) (Q:B→Hp→Prop):Prop:=match r with
 | .ok a S'=>∀ w' H' b,Ext w H w' H'→rel w' H' a b→RS K w' H' S'→Q b H'
 | .err x S'=>∀ w' H' c da,Ext w H w' H'→RS K w' H' S'→RX K w' H' x c da→E c da H'
 | .bad=>False
section
variable {A B A2 B2:Type} {K:PySem.W.Frag} {E:XK} {rel:Wd→Hp→A→B→Prop} {rel2:Wd→Hp→A2→B2→Prop} {w w1:Wd} {H H1:Hp} {S S1:Sto}
theorem Post.ext {r:R A} {Q:B→Hp→Prop} (h:Post K E rel w H r Q) (x:Ext w H w1 H1) (s:RS K w H S) (s1:RS K w1 H1 S1):Post K E rel w1 H1 r Q:=by
 cases r with
 | ok a S'=>exact fun w' H' b y q t=>h w' H' b (x.trans' y s s1) q t
 | err e S'=>exact fun w' H' c da y t q=>h w' H' c da (x.trans' y s s1) t q
 | bad=>exact h
theorem Post.bind {r:R A} {f:A→Sto→R A2} {Q':B→Hp→Prop} {Q:B2→Hp→Prop} (h:Post K E rel2 w H (r.bind f) Q) (s:RS K w H S)
  (k:∀ a S1 w1 H1 b,Ext w H w1 H1→rel w1 H1 a b→RS K w1 H1 S1→Post K E rel2 w1 H1 (f a S1) Q→Q' b H1):Post K E rel w H r Q':=by
 cases r with
 | ok a S'=>exact fun w1 H1 b x q s1=>k a S' w1 H1 b x q s1 (Post.ext (r:=f a S') h x s s1)
 | err e S'=>exact h
 | bad=>exact h
theorem Post.bindAt {w0:Wd} {H0:Hp} {S0:Sto} {r:R A} {f:A→Sto→R A2} {Q':B→Hp→Prop} {Q:B2→Hp→Prop} (h:Post K E rel2 w0 H0 (r.bind f) Q) (x:Ext w0 H0 w H) (s0:RS K w0 H0 S0) (s:RS K w H S)
  (k:∀ a S1 w1 H1 b,Ext w H w1 H1→rel w1 H1 a b→RS K w1 H1 S1→Post K E rel2 w0 H0 (f a S1) Q→Q' b H1):Post K E rel w H r Q':=by
 cases r with
 | ok a S'=>exact fun w1 H1 b y q s1=>k a S' w1 H1 b y q s1 h
 | err e S'=>exact fun w' H' c da y t q=>h w' H' c da (x.trans' y s0 s) t q
 | bad=>exact h
theorem Post.ret {a:A} {b:B} {Q:B→Hp→Prop} (h:Post K E rel w H (.ok a S) Q) (q:rel w H a b) (s:RS K w H S):Q b H:=h w H b (Ext.refl w H) q s
theorem Post.at {a:A} {b:B} {Q:B→Hp→Prop} (h:Post K E rel w H (.ok a S) Q) (x:Ext w H w1 H1) (q:rel w1 H1 a b) (s:RS K w1 H1 S):Q b H1:=h w1 H1 b x q s
theorem Post.of {o:Option A} {Q:B→Hp→Prop} (h:Post K E rel w H (R.of S o) Q):∃ a,o=some a∧Post K E rel w H (.ok a S) Q:=by
 cases o with
 | some a=>exact ⟨a,rfl,h⟩
 | none=>exact h.elim
end
set_option genInjectivity false in
inductive FV where
 | nx (s:L2.St) | rt (v:V) | bk (s:L2.St) | ct (s:L2.St)
noncomputable def FV.to (D:Ends):FV→Hp→Prop
 | .nx s,H=>D.nx s H
 | .rt v,H=>D.rt v H
 | .bk s,H=>D.bk s H
 | .ct s,H=>D.ct s H
noncomputable def RF (K:PySem.W.Frag) (w:Wd) (H:Hp):F→FV→Prop
 | .nx r,f=>∃ s,f=.nx s∧RSt K w H r s
 | .rt d,f=>∃ v,f=.rt v∧RD K w H d v
 | .bk r,f=>∃ s,f=.bk s∧RSt K w H r s
 | .ct r,f=>∃ s,f=.ct s∧RSt K w H r s
noncomputable def RB (w:Wd) (H:Hp) (a b:Bool):Prop:=b=a
noncomputable def uE (K:PySem.W.Frag) (E:XK) (m:EM):TE:=fun s H Q=>∃ w r S,RSt K w H r s∧RS K w H S∧Post K E (RD K) w H (m r S) Q
noncomputable def uT (K:PySem.W.Frag) (E:XK) (m:TM):TT:=fun s H Q=>∃ w r S,RSt K w H r s∧RS K w H S∧Post K E RB w H (m r S) Q
noncomputable def uA (K:PySem.W.Frag) (E:XK) (m:AM):TA:=fun s H Q=>∃ w r S,RSt K w H r s∧RS K w H S∧Post K E (RDs K) w H (m r S) Q
noncomputable def uS (K:PySem.W.Frag) (E:XK) (m:SM):TS:=fun D s H=>∃ w r S,RSt K w H r s∧RS K w H S∧Post K E (RF K) w H (m r S) (FV.to D)
theorem ex6 {K:PySem.W.Frag} {H:Hp} {s:L2.St} {c:Wd→Rho→Sto→Prop} {P:Prop} (z:∃ w r S,RSt K w H r s∧RS K w H S∧c w r S) (f:∀ w r S,RSt K w H r s→RS K w H S→c w r S→P):P:=by
 obtain ⟨w,r,S,x,y,z⟩:=z
 exact f w r S x y z
theorem ex8.{u} {α:Type u} {a:Wd→Rho→Prop} {b:Wd→Rho→α→Rho→Prop} {c:Wd→Rho→α→Rho→Prop} {d:Wd→Rho→α→Rho→Prop} {P:Prop} (z:∃ w r e r',a w r∧b w r e r'∧c w r e r'∧d w r e r') (f:∀ w r e r',a w r→b w r e r'→c w r e r'→d w r e r'→P):P:=by
 obtain ⟨w,r,e,r',x,y,z,t⟩:=z
 exact f w r e r' x y z t
structure Bx (p:Prop):Prop where
 out:p
noncomputable abbrev SE (X:Cx) (E:XK) (e:Expr) (m:EM):Prop:=Bx (PE X e (uE X.K E m))
noncomputable abbrev ST (X:Cx) (E:XK) (e:Expr) (m:TM):Prop:=Bx (PT X e (uT X.K E m))
noncomputable abbrev SW (X:Cx) (E:XK) (e:Expr) (m:TM):Prop:=Bx (PW X e (uT X.K E m))
noncomputable abbrev SA (X:Cx) (E:XK) (es:List Expr) (m:AM):Prop:=Bx (PA X es (uA X.K E m))
noncomputable abbrev SS (X:Cx) (E:XK) (st:Stmt) (m:SM):Prop:=Bx (PS X st (uS X.K E m))
noncomputable abbrev SSs (X:Cx) (E:XK) (st:List Stmt) (m:SM):Prop:=Bx (PSs X st (uS X.K E m))
theorem pe_weak {X:Cx} {e:Expr} {t t':TE} (h:PE X e t) (k:∀ s H Q,t' s H Q→t s H Q):PE X e t':=fun pins s σ H Q I q=>h pins s σ H Q I (k σ H Q q)
theorem pt_weak {X:Cx} {e:Expr} {t t':TT} (h:PT X e t) (k:∀ s H Q,t' s H Q→t s H Q):PT X e t':=fun pins s σ H Q I q=>h pins s σ H Q I (k σ H Q q)
theorem pw_weak {X:Cx} {e:Expr} {t t':TT} (h:PW X e t) (k:∀ s H Q,t' s H Q→t s H Q):PW X e t':=fun wh pins s σ H Q I q=>h wh pins s σ H Q I (k σ H Q q)
theorem pa_weak {X:Cx} {e:List Expr} {t t':TA} (h:PA X e t) (k:∀ s H Q,t' s H Q→t s H Q):PA X e t':=fun p pins s σ H Q I q=>h p pins s σ H Q I (k σ H Q q)
theorem ps_weak {X:Cx} {e:Stmt} {t t':TS} (h:PS X e t) (k:∀ D s H,t' D s H→t D s H):PS X e t':=fun pins s σ H Q I q=>h pins s σ H Q I (k Q σ H q)
theorem pss_weak {X:Cx} {e:List Stmt} {t t':TS} (h:PSs X e t) (k:∀ D s H,t' D s H→t D s H):PSs X e t':=fun pins s σ H Q I q=>h pins s σ H Q I (k Q σ H q)
section
variable {X:Cx} {E:XK} {a b c:Expr} {ma mb mc:EM} {pos:Pos}
theorem se_var (i:Nat) {x:Str} {pos:Pos} (hN:autoParam (X.N[i]?=some x) Au.h0._auto_1) (hv:Vis X.env.scope x) (hd:autoParam ((x == ("__debug__":Str))=false) Au.h3._auto_1)
  (hcd:autoParam ((x == ("__classdict__":Str))=false) Au.h3._auto_1):SE X E (.Name x pos) (eVar i):=⟨
 pe_weak (pv i hN hv hd hcd) fun s H Q zq=>ex6 zq fun w r S hr hS hp=>by
  unfold eVar at hp
  split at hp
  ·rename_i d e
   obtain ⟨v,e',q⟩:=hr.2 i d e
   exact ⟨v,e',hp.ret q hS⟩
  ·exact hp.elim⟩
theorem se_c {e:Expr} {v:V} {d:D} (h:PE X e (tC v)) (q:∀ w H,RD X.K w H d v):SE X E e (eC d):=⟨
 pe_weak h fun s H Q zq=>ex6 zq fun w r S hr hS hp=>hp.ret (q w H) hS⟩
theorem se_int {i j pos}:SE X E (.Constant (.int i) j pos) (eC (.int i)):=se_c pe_int fun _ _=>by unfold RD; rfl
theorem se_bl {i j pos}:SE X E (.Constant (.bool i) j pos) (eC (.bl i)):=se_c pe_bl fun _ _=>by unfold RD; rfl
theorem se_non {j pos}:SE X E (.Constant .none j pos) (eC .non):=se_c pe_non fun _ _=>by unfold RD; rfl
theorem se_str {i j pos}:SE X E (.Constant (.str i) j pos) (eC (.str i)):=se_c pe_str fun _ _=>by unfold RD; rfl
theorem se_gint {x:Str} {i:Int} {t:Tok} {pos:Pos} (hg:Gl X x) (hm:X.mg x=some (.int i t)) (hd:autoParam ((x == ("__debug__":Str))=false) Au.h3._auto_1):SE X E (.Name x pos) (eC (.int i)):=
 se_c (pe_glob hg hm (v:=.int i) ⟨t,rfl⟩ hd) fun _ _=>by unfold RD; rfl
theorem se_ty {x:Str} {T:String} {pos:Pos} (hg:Gl X x) (hm:X.mg x=none) (hv:bootBuiltins x=some (.type T)) (hn:autoParam (x ≠ "__name__") Au.h3._auto_1) (hd:autoParam ((x == ("__debug__":Str))=false) Au.h3._auto_1):SE X E (.Name x pos) (eC (.ty T)):=
 se_c (pe_bltn hg hm hv (v:=.ty T) rfl hn hd) fun _ _=>by unfold RD; rfl
noncomputable def xO (K:PySem.W.Frag) (E:XK) (f:Sto→D→D→Option D):R2:=fun x y H Q=>∃ w S d e,RS K w H S∧RD K w H d x∧RD K w H e y∧Post K E (RD K) w H (R.of S (f S d e)) Q
noncomputable def xU (K:PySem.W.Frag) (E:XK) (f:Sto→D→Option D):V→Hp→VK→Prop:=fun x H Q=>∃ w S d,RS K w H S∧RD K w H d x∧Post K E (RD K) w H (R.of S (f S d)) Q
noncomputable def xC (K:PySem.W.Frag) (E:XK) (f:Sto→List D→Option D):List V→Hp→VK→Prop:=fun xs H Q=>∃ w S ds,RS K w H S∧RDs K w H ds xs∧Post K E (RD K) w H (R.of S (f S ds)) Q
theorem se_op {op:Operator} {f:Sto→D→D→Option D} (ho:OpR X (binaryOp op) (xO X.K E f)) (ha:SE X E a ma) (hb:SE X E b mb):SE X E (.BinOp a op b pos) (eOp f ma mb):=⟨
 pe_weak (pe_op ho ha.out hb.out) fun s H Q zq=>ex6 zq fun w r S hr hS hp=>⟨w,r,S,hr,hS,hp.bind hS fun d S1 w1 H1 v x1 q1 s1 p1=>
  ⟨w1,r,S1,hr.ext x1,s1,p1.bind s1 fun e S2 w2 H2 u x2 q2 s2 p2=>⟨w2,S2,d,e,s2,RD.ext x2 d v q1,q2,p2⟩⟩⟩⟩
theorem se_un {op:UnaryOp} {f:Sto→D→Option D} (ho:UnR X (unaryOp op) (xU X.K E f)) (ha:SE X E a ma):SE X E (.UnaryOp op a pos) (eUn f ma):=⟨
 pe_weak (pe_un ho ha.out) fun s H Q zq=>ex6 zq fun w r S hr hS hp=>⟨w,r,S,hr,hS,hp.bind hS fun d S1 w1 H1 v x1 q1 s1 p1=>⟨w1,S1,d,s1,q1,p1⟩⟩⟩
theorem se_cmp {op:CmpOp} {f:Sto→D→D→Option D} (ho:OpR X (compareOp op) (xO X.K E f)) (ha:SE X E a ma) (hb:SE X E b mb) (hm:autoParam (behindInMarks op b=false) Au.h9._auto_1):
  SE X E (.Compare a [op] [b] pos) (eOp f ma mb):=⟨
 pe_weak (pe_cmpR ho ha.out hb.out hm) fun s H Q zq=>ex6 zq fun w r S hr hS hp=>⟨w,r,S,hr,hS,hp.bind hS fun d S1 w1 H1 v x1 q1 s1 p1=>
  ⟨w1,r,S1,hr.ext x1,s1,p1.bind s1 fun e S2 w2 H2 u x2 q2 s2 p2=>⟨w2,S2,d,e,s2,RD.ext x2 d v q1,q2,p2⟩⟩⟩⟩
theorem se_one {op} (h:SE X E a ma):SE X E (.BoolOp op [a] pos) ma:=⟨pe_one h.out⟩
theorem se_and {rest:List Expr} (ha:SE X E a ma) (hb:SE X E (.BoolOp .And (b :: rest) pos) mb):SE X E (.BoolOp .And (a :: b :: rest) pos) (eAnd ma mb):=⟨
 pe_weak (pe_and ha.out hb.out) fun s H Q zq=>ex6 zq fun w r S hr hS hp=>⟨w,r,S,hr,hS,hp.bind hS fun d S1 w1 H1 v x1 q1 s1 p1=>by
  cases d with
  | bl k=>
   unfold RD at q1
   subst q1
   refine ⟨k,rfl,?_⟩
   cases k with
   | true=>exact iteT ⟨w1,r,S1,hr.ext x1,s1,p1⟩
   | false=>exact iteF (Post.ret p1 (by unfold RD; rfl) s1)
  | _=>exact p1.elim⟩⟩
theorem se_not (ha:SE X E a ma):SE X E (.UnaryOp .Not a pos) (eNot ma):=⟨
 pe_weak (pe_not ha.out) fun s H Q zq=>ex6 zq fun w r S hr hS hp=>⟨w,r,S,hr,hS,hp.bind hS fun d S1 w1 H1 v x1 q1 s1 p1=>by
  cases d with
  | bl k=>
   unfold RD at q1
   subst q1
   exact ⟨k,rfl,Post.ret p1 (by unfold RD; rfl) s1⟩
  | _=>exact p1.elim⟩⟩
theorem uT_of {s:L2.St} {H:Hp} {Q:Bool→Hp→Prop} (h:uT X.K E (tV ma) s H Q):uE X.K E ma s H fun x H1=>∃ k,x=.bl k∧Q k H1:=by
 obtain ⟨w,r,S,hr,hS,hp⟩:=h
 exact ⟨w,r,S,hr,hS,hp.bind hS fun d S1 w1 H1 v x1 q1 s1 p1=>by
  cases d with
  | bl k=>
   unfold RD at q1
   exact ⟨k,q1,Post.ret p1 rfl s1⟩
  | _=>exact p1.elim⟩
theorem st_val (h:SE X E a ma) (he:autoParam (∀ whole,isTrue a X.env whole=(do let v ← whole; standAt a.pos; holding [v] (truthy v))) Au.h4._auto_1):ST X E a (tV ma):=⟨
 pt_weak (pt_val h.out he) fun s H Q q=>uT_of q⟩
theorem st_cmp {op:CmpOp} {f:Sto→D→D→Option D} (ho:OpR X (compareOp op) (xO X.K E f)) (ha:SE X E a ma) (hb:SE X E b mb) (hm:autoParam (behindInMarks op b=false) Au.h9._auto_1):
  ST X E (.Compare a [op] [b] pos) (tV (eOp f ma mb)):=⟨
 pt_weak (pt_cmpR ho ha.out hb.out hm) fun s H Q q=>by
  obtain ⟨w,r,S,hr,hS,hp⟩:=uT_of q
  exact ⟨w,r,S,hr,hS,hp.bind hS fun d S1 w1 H1 v x1 q1 s1 p1=>
   ⟨w1,r,S1,hr.ext x1,s1,p1.bind s1 fun e S2 w2 H2 u x2 q2 s2 p2=>⟨w2,S2,d,e,s2,RD.ext x2 d v q1,q2,p2⟩⟩⟩⟩
theorem sw_or1 {mt:TM} (ha:ST X E a mt):SW X E (.BoolOp .Or [a] pos) mt:=⟨pw_or1 ha.out⟩
theorem sw_or {mt mu:TM} {rest:List Expr} (ha:ST X E a mt) (hb:SW X E (.BoolOp .Or (b :: rest) pos) mu):SW X E (.BoolOp .Or (a :: b :: rest) pos) (PD.tOr mt mu):=⟨
 pw_weak (pw_or ha.out hb.out) fun s H Q zq=>ex6 zq fun w r S hr hS hp=>⟨w,r,S,hr,hS,hp.bind hS fun k S1 w1 H1 v x1 q1 s1 p1=>by
  have e:v=k:=q1
  subst e
  cases v with
  | false=>exact iteF ⟨w1,r,S1,hr.ext x1,s1,p1⟩
  | true=>exact iteT (Post.ret p1 rfl s1)⟩⟩
theorem sw_st {mt:TM} (h:SW X E a mt):ST X E a mt:=⟨PW.pt h.out⟩
theorem st_not {mt:TM} (ha:ST X E a mt):ST X E (.UnaryOp .Not a pos) (PD.tNot mt):=⟨
 pt_weak (pt_not ha.out) fun s H Q zq=>ex6 zq fun w r S hr hS hp=>⟨w,r,S,hr,hS,hp.bind hS fun k S1 w1 H1 v x1 q1 s1 p1=>by
  have e:v=k:=q1
  subst e
  exact Post.ret p1 rfl s1⟩⟩
theorem sa_nil:SA X E [] aNil:=⟨pa_weak pa_nil fun s H Q zq=>ex6 zq fun w r S hr hS hp=>Post.ret hp RDs.nil hS⟩
theorem sa_cons {es:List Expr} {ms:AM} (ha:SE X E a ma) (hrr:SA X E es ms) (hs:autoParam (starEach (a :: es) X.env=(false,eval a X.env) :: starEach es X.env) Au.h0._auto_1):SA X E (a :: es) (aCons ma ms):=⟨
 pa_weak (pa_cons ha.out hrr.out hs) fun s H Q zq=>ex6 zq fun w r S hr hS hp=>⟨w,r,S,hr,hS,hp.bind hS fun d S1 w1 H1 v x1 q1 s1 p1=>
  ⟨w1,r,S1,hr.ext x1,s1,p1.bind s1 fun e S2 w2 H2 u x2 q2 s2 p2=>Post.ret p2 (RDs.cons (RD.ext x2 d v q1) q2) s2⟩⟩⟩
theorem se_tup {es:List Expr} {ms:AM} {k} (h:SA X E es ms):SE X E (.Tuple es k pos) (eTup ms):=⟨
 pe_weak (pe_tup h.out) fun s H Q zq=>ex6 zq fun w r S hr hS hp=>⟨w,r,S,hr,hS,hp.bind hS fun ds S1 w1 H1 vs x1 q1 s1 p1=>by
  by_cases hl:ds.length≤sizeLine
  ·rw [if_pos hl] at p1
   refine ⟨by rw [q1.length]; exact hl,fun p hp=>?_⟩
   exact Post.at p1 (Ext.new hp) (by unfold RD; exact ⟨p,vs,rfl,.inl ⟨upd_same,s1.fresh hp⟩,RDs.ext (Ext.new hp) _ _ q1⟩) (s1.new hp)
  ·rw [if_neg hl] at p1; exact p1.elim⟩⟩
theorem se_lst {es:List Expr} {ms:AM} (h:SA X E es ms):SE X E (.List es pos) (eLst ms):=⟨
 pe_weak (pe_lst h.out) fun s H Q zq=>ex6 zq fun w r S hr hS hp=>⟨w,r,S,hr,hS,hp.bind hS fun ds S1 w1 H1 vs x1 q1 s1 p1=>by
  by_cases hl:ds.length≤sizeLine
  ·rw [if_pos hl] at p1
   refine ⟨by rw [q1.length]; exact hl,fun p hp=>?_⟩
   exact Post.at p1 (Ext.new hp) (by unfold RD; exact ⟨p,vs,rfl,⟨upd_same,s1.fresh hp⟩,RDs.ext (Ext.new hp) _ _ q1⟩) (s1.new hp)
  ·rw [if_neg hl] at p1; exact p1.elim⟩⟩
theorem RS.lastRef {K:PySem.W.Frag} {w:Wd} {H:Hp} {S:Sto} (s:RS K w H S) {p:Addr} {H':Hp}:RD K (w.add p) H' (.ref S.length) (.ref p):=by
 unfold RD
 exact ⟨p,rfl,by show (w.st ++ [p])[S.length]?=some p; rw [← s.len]; simp⟩
theorem se_new {es:List Expr} {ms:AM} (h:SA X E es ms):SE X E (.List es pos) (eNew ms):=⟨
 pe_weak (pe_lst h.out) fun s H Q zq=>ex6 zq fun w r S hr hS hp=>⟨w,r,S,hr,hS,hp.bind hS fun ds S1 w1 H1 vs x1 q1 s1 p1=>by
  by_cases hl:ds.length≤sizeLine
  ·rw [if_pos hl] at p1
   refine ⟨by rw [q1.length]; exact hl,fun p hp=>?_⟩
   exact Post.at p1 (Ext.alloc hp) s1.lastRef (s1.alloc hp ⟨vs,upd_same,RDs.ext (Ext.alloc hp) _ _ q1⟩)
  ·rw [if_neg hl] at p1; exact p1.elim⟩⟩
noncomputable def spM (K:PySem.W.Frag) (n:Nat) (f:FM):Sp:=fun vs H Q E=>vs.length=n∧∃ w S ds,RS K w H S∧RDs K w H ds vs∧Post K E (RD K) w H (f ds S) Q
variable {CX:CXT} {k n:Nat} {fa:Addr} {fd:FuncData} {ps:List Str} {f:FM} {x:Str} {p:Pos} {es:List Expr} {ms:AM}
theorem se_call (F:FnOk X.prog X.w X.K X.mg X.base CX k fa fd ps (spM X.K n f)) (hr:Room k X.A) (hg:Gl X x) (hm:X.mg x=some (.ref fa)) (hk:PySem.W.keepIn X.K (.ref fa)=true) (hb:Binds X.K fd ps []) (hx:Passes CX X E)
  (ha:SA X E (a :: es) ms) (hn:∀ r S ds S',ms r S=.ok ds S'→ds.length=n) (hdb:autoParam ((x == ("__debug__":Str))=false) Au.h3._auto_1) (he:autoParam (starEach (a :: es) X.env=(false,eval a X.env) :: starEach es X.env) Au.h0._auto_1) (hpl:autoParam ((backTo pos (starEach es X.env)).any (·.1)=false) Au.h0._auto_1):
  SE X E (.Call (.Name x p) (a :: es) [] pos) (eCall f ms):=⟨
 pe_weak (pe_call F hr hg hm hk hb (dvs:=[]) .nil hx ha.out hdb he hpl) fun s H Q zq=>ex6 zq fun w r S hr hS hp=>by
  refine ⟨w,r,S,hr,hS,?_⟩
  have hp':Post X.K E (RD X.K) w H ((ms r S).bind fun xs S1=>f xs S1) Q:=hp
  cases e:ms r S with
  | bad=>rw [e] at hp'; exact hp'.elim
  | err y S'=>rw [e] at hp'; exact hp'
  | ok ds S'=>
   rw [e] at hp'
   intro w1 H1 vs x1 q1 s1
   rw [List.append_nil]
   exact ⟨by rw [q1.length]; exact hn r S ds S' e,w1,S',ds,s1,q1,Post.ext (r:=f ds S') hp' x1 hS s1⟩⟩
theorem se_callB {id:String} {f:Sto→List D→Option D} (hc:CallR X (.builtin id) (xC X.K E f)) (hg:Gl X x) (hm:X.mg x=none) (hv:bootBuiltins x=some (.builtin id)) (ha:SA X E (a :: es) ms) (hn:autoParam (x ≠ "__name__") Au.h3._auto_1) (hdb:autoParam ((x == ("__debug__":Str))=false) Au.h3._auto_1)
  (he:autoParam (starEach (a :: es) X.env=(false,eval a X.env) :: starEach es X.env) Au.h0._auto_1) (hpl:autoParam ((backTo pos (starEach es X.env)).any (·.1)=false) Au.h0._auto_1):SE X E (.Call (.Name x p) (a :: es) [] pos) (eB f ms):=⟨
 pe_weak (pe_callB hc hg hm hv ha.out hn hdb he hpl) fun s H Q zq=>ex6 zq fun w r S hr hS hp=>⟨w,r,S,hr,hS,hp.bind hS fun ds S1 w1 H1 vs x1 q1 s1 p1=>⟨w1,S1,ds,s1,q1,p1⟩⟩⟩
theorem se_callTy {T:String} {f:Sto→List D→Option D} (hc:CallR X (.type T) (xC X.K E f)) (hg:Gl X x) (hm:X.mg x=none) (hv:bootBuiltins x=some (.type T)) (ha:SA X E (a :: es) ms) (hn:autoParam (x ≠ "__name__") Au.h3._auto_1) (hdb:autoParam ((x == ("__debug__":Str))=false) Au.h3._auto_1)
  (he:autoParam (starEach (a :: es) X.env=(false,eval a X.env) :: starEach es X.env) Au.h0._auto_1) (hpl:autoParam ((backTo pos (starEach es X.env)).any (·.1)=false) Au.h0._auto_1):SE X E (.Call (.Name x p) (a :: es) [] pos) (eB f ms):=⟨
 pe_weak (pe_callTy hc hg hm hv ha.out hn hdb he hpl) fun s H Q zq=>ex6 zq fun w r S hr hS hp=>⟨w,r,S,hr,hS,hp.bind hS fun ds S1 w1 H1 vs x1 q1 s1 p1=>⟨w1,S1,ds,s1,q1,p1⟩⟩⟩
variable {st:Stmt} {rest:List Stmt} {m m':SM}
theorem ss_nil:SSs X E [] sSkip:=⟨pss_weak pss_nil fun D s H zq=>ex6 zq fun w r S hr hS hp=>Post.ret (b:=FV.nx s) hp ⟨s,rfl,hr⟩ hS⟩
theorem ss_cons (h1:SS X E st m) (h2:SSs X E rest m'):SSs X E (st :: rest) (sSeq m m'):=⟨
 pss_weak (pss_cons h1.out h2.out) fun D s H zq=>ex6 zq fun w r S hr hS hp=>⟨w,r,S,hr,hS,hp.bind hS fun f S1 w1 H1 fv x1 q1 s1 p1=>by
  cases f with
  | nx r1=>obtain ⟨s',rfl,q⟩:=q1; exact ⟨w1,r1,S1,q,s1,p1⟩
  | rt d=>obtain ⟨v,rfl,q⟩:=q1; have z:=Post.ret (Q:=FV.to D) (rel:=RF X.K) (a:=F.rt d) (b:=FV.rt v) p1 ⟨v,rfl,q⟩ s1; exact z
  | bk r1=>obtain ⟨s',rfl,q⟩:=q1; have z:=Post.ret (Q:=FV.to D) (rel:=RF X.K) (a:=F.bk r1) (b:=FV.bk s') p1 ⟨s',rfl,q⟩ s1; exact z
  | ct r1=>obtain ⟨s',rfl,q⟩:=q1; have z:=Post.ret (Q:=FV.to D) (rel:=RF X.K) (a:=F.ct r1) (b:=FV.ct s') p1 ⟨s',rfl,q⟩ s1; exact z⟩⟩
theorem ss_one (h1:SS X E st m):SSs X E [st] m:=⟨pss_one h1.out⟩
theorem ss_expr (ha:SE X E a ma) (hs:autoParam (swapsWith a none pos.line X.env=pure false) Au.h0._auto_1):SS X E (.Expr a pos) (sDrop ma):=⟨
 ps_weak (ps_expr ha.out hs) fun D s H zq=>ex6 zq fun w r S hr hS hp=>⟨w,r,S,hr,hS,hp.bind hS fun d S1 w1 H1 v x1 q1 s1 p1=>Post.ret (b:=FV.nx s) p1 ⟨s,rfl,hr.ext x1⟩ s1⟩⟩
theorem ss_ret (ha:SE X E a ma):SS X E (.Return (some a) pos) (sRet ma):=⟨
 ps_weak (ps_ret ha.out) fun D s H zq=>ex6 zq fun w r S hr hS hp=>⟨w,r,S,hr,hS,hp.bind hS fun d S1 w1 H1 v x1 q1 s1 p1=>Post.ret (b:=FV.rt v) p1 ⟨v,rfl,q1⟩ s1⟩⟩
theorem ss_if {mt:TM} {sa sb:List Stmt} (hc:ST X E c mt) (ha:SSs X E sa m) (hb:SSs X E sb m'):SS X E (.If c sa sb pos) (sIf mt m m'):=⟨
 ps_weak (ps_if hc.out ha.out hb.out) fun D s H zq=>ex6 zq fun w r S hr hS hp=>⟨w,r,S,hr,hS,hp.bind hS fun k S1 w1 H1 v x1 q1 s1 p1=>by
  have e:v=k:=q1
  subst e
  cases v with
  | true=>exact iteT ⟨w1,r,S1,hr.ext x1,s1,p1⟩
  | false=>exact iteF ⟨w1,r,S1,hr.ext x1,s1,p1⟩⟩⟩
theorem ss_set {i:Nat} {x:Str} {pos':Pos} (hN:X.N.Nodup) (hi:X.N[i]?=some x) (hx:Loc X.env.scope x) (ha:SE X E a ma) (hs:autoParam (swapsWith a (some (.Name x pos')) pos.line X.env=pure false) Au.h0._auto_1) (hf:autoParam (X.fn x=true ∨ X.env.scope.names.lookup x=some .local) Au.h7._auto_1):
  SS X E (.Assign [.Name x pos'] a pos) (sSet i ma):=⟨
 ps_weak (ps_set hN hi hx ha.out hs hf) fun D s H zq=>ex6 zq fun w r S hr hS hp=>⟨w,r,S,hr,hS,hp.bind hS fun d S1 w1 H1 v x1 q1 s1 p1=>
  Post.ret (b:=FV.nx (s.set i (some v))) p1 ⟨_,rfl,(hr.ext x1).set i q1⟩ s1⟩⟩
end
end PD
namespace PD
open PySem PySem.Spec PyProof.Rows L2
noncomputable def uG (K:PySem.W.Frag) (g:G):TG:=fun v s H Q=>∃ w r d r',RSt K w H r s∧RD K w H d v∧g.put d r=some r'∧∀ s',RSt K w H r' s'→Q s' H
noncomputable def uGs (K:PySem.W.Frag) (gs:List G):TGs:=fun vs s H Q=>∃ w r ds r',RSt K w H r s∧RDs K w H ds vs∧G.puts gs ds r=some r'∧∀ s',RSt K w H r' s'→Q s' H
noncomputable abbrev SG (X:Cx) (e:Expr) (g:G):Prop:=Bx (PG X e (uG X.K g))
noncomputable abbrev SGs (X:Cx) (es:List Expr) (gs:List G):Prop:=Bx (PGs X es (uGs X.K gs))
theorem pg_weak {X:Cx} {e:Expr} {t t':TG} (h:PG X e t) (k:∀ v s H Q,t' v s H Q→t v s H Q):PG X e t':=fun pins s σ H v u Q I r q=>h pins s σ H v u Q I r (k v σ H Q q)
theorem pgs_weak {X:Cx} {e:List Expr} {t t':TGs} (h:PGs X e t) (k:∀ v s H Q,t' v s H Q→t v s H Q):PGs X e t':=fun pins s σ H v u Q I r q=>h pins s σ H v u Q I r (k v σ H Q q)
theorem puts_len:∀ {gs:List G} {ds:List D} {r r':Rho},G.puts gs ds r=some r'→ds.length=gs.length
 | [],[],_,_,_=>rfl
 | [],_ :: _,_,_,h=>by simp [G.puts] at h
 | _ :: _,[],_,_,h=>by simp [G.puts] at h
 | g :: gs,d :: ds,r,r',h=>by
  unfold G.puts at h
  cases e:G.put g d r with
  | none=>rw [e] at h; cases h
  | some r1=>
   rw [e] at h
   have:=puts_len h
   simp [this]
section
variable {X:Cx} {E:XK} {a b c:Expr} {ma mb mc:EM} {pos:Pos}
theorem sg_name {i:Nat} {x:Str} (hN:X.N.Nodup) (hi:X.N[i]?=some x) (hx:Loc X.env.scope x) (hf:autoParam (X.fn x=true ∨ X.env.scope.names.lookup x=some .local) Au.h7._auto_1):SG X (.Name x pos) (.nm i):=⟨
 pg_weak (pg_name hN hi hx hf) fun v s H Q zq=>ex8 zq fun w r d r' hr q e k=>by
  unfold G.put at e
  cases e
  exact k _ (hr.set i q)⟩
theorem sgs_nil:SGs X [] []:=⟨
 pgs_weak pgs_nil fun v s H Q zq=>ex8 zq fun w r ds r' hr q e k=>by
  cases ds with
  | nil=>
   unfold G.puts at e
   cases e
   exact ⟨q.nil_inv,k s hr⟩
  | cons d ds=>simp [G.puts] at e⟩
theorem sgs_cons {e:Expr} {es:List Expr} {g:G} {gs:List G} (h1:SG X e g) (h2:SGs X es gs)
  (hs:autoParam ((assignEach (e :: es) X.env).map (·.2)=assign e X.env :: (assignEach es X.env).map (·.2)) Au.h0._auto_1):SGs X (e :: es) (g :: gs):=⟨
 pgs_weak (pgs_cons h1.out h2.out hs) fun v s H Q zq=>ex8 zq fun w r ds r' hr q e k=>by
  cases ds with
  | nil=>simp [G.puts] at e
  | cons d ds=>
   obtain ⟨v1,vs,rfl,q1,q2⟩:=q.cons_inv
   unfold G.puts at e
   cases e1:G.put g d r with
   | none=>rw [e1] at e; cases e
   | some r1=>
    rw [e1] at e
    exact ⟨v1,vs,rfl,w,r,d,r1,hr,q1,e1,fun s' hs'=>⟨w,r1,ds,r',hs',q2,e,k⟩⟩⟩
theorem SqT_of {K:PySem.W.Frag} {w:Wd} {H:Hp} {p:Addr} {vs:List V} (h:At w H p (.tup vs) ∨ KTup K p vs):SqT K H p vs:=h.elim (fun z=>SqT.of z.1) .inr
theorem sg_tup {es:List Expr} {k:Nat} {gs:List G} (hc:X.calm=true) (h:SGs X es gs)
  (hn:autoParam ((assignEach es X.env).length=gs.length) Au.h0._auto_1) (hst:autoParam ((assignEach es X.env).findIdx? (·.1)=none) Au.h0._auto_1):SG X (.Tuple es k pos) (.tp gs):=⟨
 pg_weak (pg_tup hc h.out hn hst) fun v s H Q zq=>ex8 zq fun w r d r' hr q e k=>by
  cases d with
  | tup ds=>
   unfold RD at q
   obtain ⟨p,vs,rfl,h1,q1⟩:=q
   unfold G.put at e
   exact ⟨p,vs,rfl,SqT_of h1,by rw [q1.length]; exact puts_len e,w,r,ds,r',hr,q1,e,k⟩
  | _=>simp [G.put] at e⟩
theorem ss_asg {tg:Expr} {g:G} (ha:SE X E a ma) (hg:SG X tg g) (hs:autoParam (swapsWithSole [tg] a pos.line X.env=pure false) Au.h0._auto_1) (hw:autoParam (swappedStores [tg] a X.env=pure none) Au.h0._auto_1)
  (h1:autoParam ((assignEach [tg] X.env).map (·.2)=[assign tg X.env]) Au.h0._auto_1):SS X E (.Assign [tg] a pos) (sAsg g ma):=⟨
 ps_weak (ps_asg ha.out hg.out hs hw h1) fun D s H zq=>ex6 zq fun w r S hr hS hp=>⟨w,r,S,hr,hS,hp.bind hS fun d S1 w1 H1 v x1 q1 s1 p1=>by
  cases e:g.put d r with
  | none=>rw [e] at p1; exact p1.elim
  | some r'=>
   rw [e] at p1
   exact ⟨w1,r,d,r',hr.ext x1,q1,e,fun s' hs'=>Post.ret (b:=FV.nx s') p1 ⟨s',rfl,hs'⟩ s1⟩⟩⟩
noncomputable def xS (K:PySem.W.Frag) (f:Sto→D→D→D→Option Sto):TSet:=fun o i v H Q=>∃ w S x y z S',RS K w H S∧RD K w H x o∧RD K w H y i∧RD K w H z v∧f S x y z=some S'∧∀ w' H',Ext w H w' H'→RS K w' H' S'→Q H'
theorem ss_put {f:Sto→D→D→D→Option Sto} {tpos:Pos} (hf:PSet X (xS X.K f)) (ha:SE X E a ma) (ho:SE X E b mb) (hi:SE X E c mc) (hs:autoParam (swapsWithSole [.Subscript b c tpos] a pos.line X.env=pure false) Au.h0._auto_1) (hw:autoParam (swappedStores [.Subscript b c tpos] a X.env=pure none) Au.h0._auto_1)
  (h1:autoParam ((assignEach [.Subscript b c tpos] X.env).map (·.2)=[assign (.Subscript b c tpos) X.env]) Au.h0._auto_1)
  (hz:autoParam (∀ v,assign (.Subscript b c tpos) X.env v=(do
   let ov ← holding [v] (eval b X.env)
   let iv ← holding [v,ov] (eval c X.env)
   standAt tpos
   holding [v,ov,iv] (setItem ov iv v)
   release [v,ov,iv] [])) Au.h4._auto_1):SS X E (.Assign [.Subscript b c tpos] a pos) (sPut f ma mb mc):=⟨
 ps_weak (ps_asg ha.out (pg_sub ho.out hi.out hf hz) hs hw h1) fun D s H zq=>ex6 zq fun w r S hr hS hp=>⟨w,r,S,hr,hS,hp.bind hS fun d S1 w1 H1 v x1 q1 s1 p1=>
  ⟨w1,r,S1,hr.ext x1,s1,p1.bind s1 fun e S2 w2 H2 u x2 q2 s2 p2=>⟨w2,r,S2,(hr.ext x1).ext x2,s2,p2.bind s2 fun t S3 w3 H3 y x3 q3 s3 p3=>by
   cases hf:f S3 e t d with
   | none=>rw [hf] at p3; exact p3.elim
   | some S4=>
    rw [hf] at p3
    exact ⟨w3,S3,e,t,d,S4,s3,RD.ext x3 _ _ q2,q3,RD.ext x3 _ _ (RD.ext x2 _ _ q1),hf,fun w' H' x4 s4=>Post.at (b:=FV.nx s) p3 x4 ⟨s,rfl,(((hr.ext x1).ext x2).ext x3).ext x4⟩ s4⟩⟩⟩⟩⟩
noncomputable def RI (K:PySem.W.Frag) (w:Wd) (H:Hp) (ds:List D) (J:It):Prop:=∀ (i:Nat) (w':Wd) (H':Hp),Ext w H w' H'→
 (i < ds.length→J.go i H'∧∀ x H'',J.yld i H' x H''→(H''=H' ∨ ∃ p o,H' p=none∧H''=upd H' p o)∧∀ S,RS K w' H' S→∃ d,ds[i]?=some d∧RD K w' H'' d x)∧(ds.length≤i→J.stop i H')
noncomputable def uI (K:PySem.W.Frag) (E:XK) (m:AM):TI:=fun s H Q=>∃ w r S,RSt K w H r s∧RS K w H S∧Post K E (RI K) w H (m r S) Q
noncomputable abbrev SIb (qb:Bool) (X:Cx) (E:XK) (tg iter:Expr) (m:AM):Prop:=Bx (PIb qb X tg iter (uI X.K E m))
noncomputable abbrev SI (X:Cx) (E:XK) (tg iter:Expr) (m:AM):Prop:=Bx (PI X tg iter (uI X.K E m))
theorem grown_ok {K:PySem.W.Frag} {w:Wd} {H H':Hp} {S:Sto} (h:H'=H ∨ ∃ p o,H p=none∧H'=upd H p o) (s:RS K w H S):Ext w H w H'∧RS K w H' S:=by
 rcases h with rfl | ⟨p,o,hp,rfl⟩
 ·exact ⟨Ext.refl _ _,s⟩
 ·exact ⟨Ext.new hp,s.new hp⟩
theorem ss_for {tg iter:Expr} {body:List Stmt} {it:AM} {g:G} {m:SM} (hp:PassesOwn (model X.prog X.w) X.A X.env X.xe) (hc:X.calm=true) (hi:SI X E tg iter it) (hg:SG X tg g) (hb:SSs X E body m)
  (hs:autoParam (∀ x,foldedSetIterable iter X.env x=pure x) Au.h4._auto_1):SS X E (.For tg iter body [] pos) (sFor it g m):=⟨
 ps_weak (ps_for hp hc hi.out hg.out hb.out hs) fun D s H zq=>ex6 zq fun w r S hr hS hp=>⟨w,r,S,hr,hS,hp.bind hS fun ds S1 w1 H1 J x1 q1 s1 p1=>by
  refine ⟨fun i n s' H'=>n=ds.length - i∧i≤ds.length∧∃ w' r' S',Ext w1 H1 w' H'∧RSt X.K w' H' r' s'∧RS X.K w' H' S'∧Post X.K E (RF X.K) w' H' (forL g m (ds.drop i) r' S') (FV.to D),
   ⟨ds.length,by simp,Nat.zero_le _,w1,r,S1,Ext.refl _ _,hr.ext x1,s1,p1⟩,?_⟩
  rintro i n s2 H2 ⟨rfl,hi.out,w2,r2,S2,x2,hr2,hS2,hp2⟩
  by_cases hlt:i < ds.length
  ·obtain ⟨go,yld⟩:=(q1 i w2 H2 x2).1 hlt
   refine .inr ⟨go,fun s' H'=>∃ w' r' S',Ext w1 H1 w' H'∧RSt X.K w' H' r' s'∧RS X.K w' H' S'∧Post X.K E (RF X.K) w' H' (forL g m (ds.drop (i + 1)) r' S') (FV.to D),
    fun s' H' hN=>⟨ds.length - (i + 1),by omega,rfl,hlt,hN⟩,fun x H3 hy=>?_⟩
   obtain ⟨gr,rd⟩:=yld x H3 hy
   obtain ⟨d,ed,qd⟩:=rd S2 hS2
   obtain ⟨x3,s3⟩:=grown_ok gr hS2
   have x13:Ext w1 H1 w2 H3:=x2.trans' x3 s1 hS2
   have hdrop:ds.drop i=d :: ds.drop (i + 1):=by
    rw [List.drop_eq_getElem_cons hlt]
    rw [List.getElem?_eq_getElem hlt] at ed
    cases ed; rfl
   rw [hdrop] at hp2
   have hp3:=Post.ext hp2 x3 hS2 s3
   unfold forL at hp3
   cases e:g.put d r2 with
   | none=>rw [e] at hp3; exact hp3.elim
   | some r3=>
    rw [e] at hp3
    refine ⟨w2,r2,d,r3,hr2.ext x3,qd,e,fun s4 hr4=>⟨w2,r3,S2,hr4,s3,?_⟩⟩
    refine Post.bind (rel:=RF X.K) hp3 s3 fun f S5 w5 H5 fv x5 q5 s5 p5=>?_
    cases f with
    | nx r6=>obtain ⟨s6,rfl,q6⟩:=q5; exact ⟨w5,r6,S5,x13.trans' x5 s1 s3,q6,s5,p5⟩
    | ct r6=>obtain ⟨s6,rfl,q6⟩:=q5; exact ⟨w5,r6,S5,x13.trans' x5 s1 s3,q6,s5,p5⟩
    | bk r6=>obtain ⟨s6,rfl,q6⟩:=q5; have z:=Post.ret (Q:=FV.to D) (rel:=RF X.K) (a:=F.nx r6) (b:=FV.nx s6) p5 ⟨s6,rfl,q6⟩ s5; exact z
    | rt d6=>obtain ⟨v6,rfl,q6⟩:=q5; have z:=Post.ret (Q:=FV.to D) (rel:=RF X.K) (a:=F.rt d6) (b:=FV.rt v6) p5 ⟨v6,rfl,q6⟩ s5; exact z
  ·have e:i=ds.length:=by omega
   subst e
   rw [List.drop_length] at hp2
   exact .inl ⟨(q1 _ w2 H2 x2).2 (Nat.le_refl _),Post.ret (b:=FV.nx s2) hp2 ⟨s2,rfl,hr2⟩ hS2⟩⟩⟩
noncomputable def aSeq (m:EM) (f:Sto→D→Option (List D)):AM:=fun r S=>(m r S).bind fun d S1=>R.of S1 (f S1 d)
noncomputable def itTup:Sto→D→Option (List D)
 | _,.tup ds=>some ds
 | _,_=>none
noncomputable def itLst:Sto→D→Option (List D)
 | _,.lst ds=>some ds
 | _,.fz ds=>some ds
 | _,_=>none
noncomputable def aRange1 (t:AM):AM:=fun r S=>(t r S).bind fun xs S1=>match xs with
 | [.int n]=>if n < 2 ^ 62∧-(2 ^ 62)≤n then .ok ((List.range n.toNat).map fun (i:Nat)=>D.int i) S1 else .bad
 | _=>.bad
theorem pi_weak {qb:Bool} {X:Cx} {tg e:Expr} {t t':TI} (h:PIb qb X tg e t) (k:∀ s H Q,t' s H Q→t s H Q):PIb qb X tg e t':=fun pins s σ H Q I q=>h pins s σ H Q I (k σ H Q q)
theorem si_tup {tg:Expr} (ha:SE X E a ma):SI X E tg a (aSeq ma itTup):=⟨
 pi_weak (pi_tup ha.out) fun s H Q zq=>ex6 zq fun w r S hr hS hp=>⟨w,r,S,hr,hS,hp.bind hS fun d S1 w1 H1 v x1 q1 s1 p1=>by
  cases d with
  | tup ds=>
   unfold RD at q1
   obtain ⟨p,vs,rfl,h1,q⟩:=q1
   refine ⟨p,rfl,⟨vs,SqT_of h1⟩,Post.ret p1 ?_ s1⟩
   intro i w' H' x'
   have h1':At w' H' p (.tup vs) ∨ KTup X.K p vs:=h1.imp x'.at id
   have q':=RDs.ext x' _ _ q
   refine ⟨fun hi=>⟨⟨vs,vs[i]'(by rw [q.length]; exact hi),SqT_of h1',List.getElem?_eq_getElem _⟩,fun x H'' y=>?_⟩,fun hi=>⟨vs,SqT_of h1',by rw [q.length]; exact hi⟩⟩
   obtain ⟨rfl,y⟩:=y
   refine ⟨.inl rfl,fun S _=>⟨ds[i],List.getElem?_eq_getElem hi,?_⟩⟩
   obtain ⟨v,e,rv⟩:=q'.get (List.getElem?_eq_getElem hi)
   rw [y vs (SqT_of h1')] at e
   cases e
   exact rv
  | _=>exact p1.elim⟩⟩
theorem si_lst {tg:Expr} (ha:SE X E a ma):SI X E tg a (aSeq ma itLst):=⟨
 pi_weak (pi_list ha.out) fun s H Q zq=>ex6 zq fun w r S hr hS hp=>⟨w,r,S,hr,hS,hp.bind hS fun d S1 w1 H1 v x1 q1 s1 p1=>by
  have main:∀ (ds:List D) (p:Addr) (vs:List V),RDs X.K w1 H1 ds vs→(∀ w' H',Ext w1 H1 w' H'→SqL X.K H' p vs)→RI X.K w1 H1 ds (Itl X.K p):=by
   intro ds p vs q sq i w' H' x'
   have q':=RDs.ext x' _ _ q
   refine ⟨fun hi=>⟨⟨vs,vs[i]'(by rw [q.length]; exact hi),sq _ _ x',List.getElem?_eq_getElem _⟩,fun x H'' y=>?_⟩,fun hi=>⟨vs,sq _ _ x',by rw [q.length]; exact hi⟩⟩
   obtain ⟨rfl,y⟩:=y
   refine ⟨.inl rfl,fun S _=>⟨ds[i],List.getElem?_eq_getElem hi,?_⟩⟩
   obtain ⟨v,e,rv⟩:=q'.get (List.getElem?_eq_getElem hi)
   rw [y vs (sq _ _ x')] at e
   cases e
   exact rv
  cases d with
  | lst ds=>
   unfold RD at q1
   obtain ⟨p,vs,rfl,h1,q⟩:=q1
   exact ⟨p,rfl,⟨vs,SqL.of h1.1⟩,Post.ret p1 (main ds p vs q fun w' H' x'=>SqL.of (x'.at h1).1) s1⟩
  | fz ds=>
   unfold RD at q1
   obtain ⟨p,vs,rfl,h1,q⟩:=q1
   exact ⟨p,rfl,⟨vs,h1.sq⟩,Post.ret p1 (main ds p vs q fun w' H' x'=>FzAt.sq (w:=w') (h1.imp (fun ⟨o,z⟩=>⟨o,x'.at z⟩) id)) s1⟩
  | _=>exact p1.elim⟩⟩
noncomputable def itSeq:Sto→D→Option (List D)
 | _,.tup ds=>some ds
 | _,.lst ds=>some ds
 | _,.fz ds=>some ds
 | _,_=>none
theorem pi_or {tg e:Expr} {t u:TI} (h1:PI X tg e t) (h2:PI X tg e u):PI X tg e (fun s H Q=>t s H Q ∨ u s H Q):=fun pins s σ H Q I q=>q.elim (h1 pins s σ H Q I) (h2 pins s σ H Q I)
theorem si_seq {tg:Expr} (ha:SE X E a ma):SI X E tg a (aSeq ma itSeq):=⟨
 pi_weak (pi_or (si_tup ha).out (si_lst ha).out) fun s H Q zq=>ex6 zq fun w r S hr hS hp=>by
  unfold aSeq at hp
  cases e:ma r S with
  | bad=>rw [e] at hp; exact hp.elim
  | err y S'=>rw [e] at hp; exact .inl ⟨w,r,S,hr,hS,by unfold aSeq; rw [e]; exact hp⟩
  | ok d S'=>
   rw [e] at hp
   cases d with
   | tup ds=>exact .inl ⟨w,r,S,hr,hS,by unfold aSeq; rw [e]; exact hp⟩
   | lst ds=>exact .inr ⟨w,r,S,hr,hS,by unfold aSeq; rw [e]; exact hp⟩
   | fz ds=>exact .inr ⟨w,r,S,hr,hS,by unfold aSeq; rw [e]; exact hp⟩
   | _=>exact hp.elim⟩
theorem si_range1 {qb:Bool} {tg:Expr} {ms:AM} {p:Pos} (hg:Gl X "range") (hm:X.mg "range" = none) (ha:SA X E [a] ms) (hs:autoParam (starEach [a] X.env=[(false,eval a X.env)]) Au.h0._auto_1):SIb qb X E tg (.Call (.Name "range" p) [a] [] pos) (aRange1 ms):=⟨
 pi_weak (pi_range1 hg hm ha.out hs) fun s H Q zq=>ex6 zq fun w r S hr hS hp=>⟨w,r,S,hr,hS,hp.bind hS fun ds S1 w1 H1 vs x1 q1 s1 p1=>by
  rcases ds with _ | ⟨d,_ | ⟨d',ds⟩⟩
  ·exact p1.elim
  ·cases d with
   | int n=>
    obtain ⟨v,rfl,q2⟩:=q1.one_inv
    unfold RD at q2
    subst q2
    by_cases hn:n < 2 ^ 62∧-(2 ^ 62)≤n
    ·have p2:Post X.K E (RI X.K) w1 H1 (if n < 2 ^ 62∧-(2 ^ 62)≤n then R.ok ((List.range n.toNat).map fun (i:Nat)=>D.int i) S1 else R.bad) Q:=p1
     rw [if_pos hn] at p2
     refine ⟨n,rfl,hn.2,hn.1,Post.ret p2 ?_ s1⟩
     intro i w' H' x'
     refine ⟨fun hi=>⟨show i < n.toNat by simpa using hi,fun x H'' y=>?_⟩,fun hi=>show n.toNat≤i by simpa using hi⟩
     obtain ⟨rfl,rfl⟩:=y
     refine ⟨.inl rfl,fun S _=>⟨.int i,?_,?_⟩⟩
     ·have:i < n.toNat:=by simpa using hi
      simp [this]
     ·unfold RD; simp
    ·have p2:Post X.K E (RI X.K) w1 H1 (if n < 2 ^ 62∧-(2 ^ 62)≤n then R.ok ((List.range n.toNat).map fun (i:Nat)=>D.int i) S1 else R.bad) Q:=p1
     rw [if_neg hn] at p2
     exact p2.elim
   | _=>exact p1.elim
  ·cases d <;> exact p1.elim⟩⟩
end
section
variable {P:Program} {w:World} {K:PySem.W.Frag} {mg:Str→Option Value} {base:Heap}
theorem start_rel {K:PySem.W.Frag} {w:Wd} {H:Hp} {N:List Str} {ds:List D} {vs:List V} (q:RDs K w H ds vs):RSt K w H (ds.map some ++ List.replicate (N.length - ds.length) none) (L2.start N vs):=by
 unfold L2.start
 refine ⟨by simp [q.length],fun i d e=>?_⟩
 by_cases hi:i < ds.length
 ·rw [List.getElem?_append_left (by simpa using hi),List.getElem?_map] at e
  rw [List.getElem?_append_left (by rw [List.length_map,q.length]; exact hi),List.getElem?_map]
  cases e1:ds[i]? with
  | none=>rw [e1] at e; cases e
  | some d'=>
   rw [e1] at e; cases e
   obtain ⟨v,ev,rv⟩:=q.get e1
   exact ⟨v,by rw [ev]; rfl,rv⟩
 ·rw [List.getElem?_append_right (by simpa using hi),List.getElem?_replicate] at e
  split at e <;> cases e
end
end PD
namespace PD
open PySem PySem.Spec PyProof.Rows L2
section
variable {prog:Program} {w:World} {A:Around} {R:Result→Shared→Prop} {s:Shared}
theorem compLoop_all {elt target iter:Expr} {ifs:List Expr} {scope:Scope} {pos:Pos} {it acc:Value} {env:Env} (I:Nat→Shared→Prop)
  (turn:∀ n s,I n s→wpAny (model prog w) A (pyNext it) (fun r s1=>match r with
   | none=>R (.ok .next) s1
   | some v=>wpAny (model prog w) A (letOwnedTupleGo target it v) (fun _ s1'=>wpAny (model prog w) A (assign target env v) (fun _ s2=>
     wpAny (model prog w) A (forIn ifs true fun c r=>if r=true then do let ok ← isTrue c env (eval c env); pure (ForInStep.yield ok) else pure (ForInStep.yield r)) (fun ok s3=>
      if ok=true then wpAny (model prog w) A (eval elt env) (fun x s4=>
       wpAny (model prog w) A (call (.builtin "list.append") [acc,x]) (fun _ s5=>∃ m,m < n∧I m s5) (fun _ _=>False) s4) (fun _ _=>False) s3
      else ∃ m,m < n∧I m s3) (fun _ _=>False) s2) (fun _ _=>False) s1') (fun _ _=>False) s1) (fun _ _=>False) s)
  (n:Nat) (h:I n s):
  codeAny (model prog w) A (.compLoop (.ListComp elt [⟨target,iter,ifs,0⟩] scope pos) 0 it acc env) R s:=by
 refine codeAny_loop rfl I (fun n s hI=>?_) n h
 show wpAny _ A ((compTurn (.ListComp elt [⟨target,iter,ifs,0⟩] scope pos) 0 it acc env).onRaise (fun x=>do noteFrame x env; theTreesLotGoes x)) _ _ s
 refine wpAny_noted ?_
 rw [compTurn_list]
 refine wpAny_bind (wpAny_standAt (wpAny_bind (wpAny_mono (turn n s hI) (fun r s1 h1=>?_) fun _ _ h'=>h'.elim)))
 cases r with
 | none=>exact wpAny_pure h1
 | some v=>
  refine wpAny_bind (wpAny_mono h1 (fun _ s1' h1'=>?_) fun _ _ h'=>h'.elim)
  refine wpAny_bind (wpAny_mono h1' (fun _ s2 h2=>wpAny_bind (wpAny_mono h2 (fun ok s3 h3=>?_) fun _ _ h'=>h'.elim)) fun _ _ h'=>h'.elim)
  cases ok with
  | false=>exact wpAny_pure ⟨rfl,h3⟩
  | true=>
   exact wpAny_bind (wpAny_bind (wpAny_mono h3 (fun x s4 h4=>wpAny_bind (wpAny_mono h4 (fun _ s5 h5=>wpAny_pure (wpAny_pure ⟨rfl,h5⟩)) fun _ _ h'=>h'.elim)) fun _ _ h'=>h'.elim))
end
noncomputable def PIfs (X:Cx) (ifs:List Expr) (t:TT):Prop:=
 ∀ (pins:List (Addr × Obj)) (s:Shared) (σ:L2.St) (H:Hp) (Q:Bool→Hp→Prop),Inv X pins σ H s→t σ H Q→
  wpAny (model X.prog X.w) X.A (forIn ifs true fun c r=>if r=true then do let ok ← isTrue c X.env (eval c X.env); pure (ForInStep.yield ok) else pure (ForInStep.yield r)) (TP X pins σ Q) X.xe s
theorem pifs_nil {X:Cx}:PIfs X [] (fun _ H Q=>Q true H):=fun pins s σ H Q I h=>wpAny_tests_nil ⟨H,I,h⟩
noncomputable def cxC (X:Cx) (N:List Str) (scope:Scope) (cl:List (Str × Addr)) (s0:Shared) (H0:Hp) (ex:List Addr):Cx:=
 { X with N:=N,s₀:=s0,H₀:=H0,env:=compEnvC scope cl s0.heap.objs.size X.env,outer:=X.stack,ex:=ex,fn:=fun _=>false }
noncomputable def capSt (k:Nat) (caps:List Nat) (s:L2.St):L2.St:=List.replicate k none ++ caps.map fun i=>(s[i]?).join
structure CompScope (X:Cx) (N:List Str) (k:Nat) (caps:List Nat) (scope:Scope):Prop where
 kind:scope.kind=.function
 nocell:∀ x ∈ scope.names,x.2 ≠ .cell
 names:∀ x ∈ scope.names,x.2=.local→scope.names.lookup x.1=some .local
 free:∀ x ∈ scope.names,x.2=.free→X.env.kindOf x.1=some .cell ∨ X.env.kindOf x.1=some .free
 len:N.length=k + caps.length
 cap:∀ t i,caps[t]?=some i→∃ x,X.N[i]?=some x∧N[k + t]?=some x∧scope.names.lookup x=some .free
theorem mem_of_lookup' {A B:Type} [BEq A] [LawfulBEq A]:∀ {l:List (A × B)} {x:A} {b:B},l.lookup x=some b→(x,b) ∈ l
 | [],_,_,h=>by simp at h
 | (y,c) :: r,x,b,h=>by
  rw [List.lookup_cons] at h
  cases e:x == y with
  | true=>
   rw [e] at h
   have:=eq_of_beq e
   subst this
   cases h
   exact List.mem_cons_self
  | false=>
   rw [e] at h
   exact List.mem_cons_of_mem _ (mem_of_lookup' h)
theorem closure_ok {env:Env}:∀ (names:List (Str × NameKind)) (cs:List (Str × Addr)),(∀ x ∈ names,x.2=.free→∃ c,env.cells.lookup x.1=some c)→
  ∃ cl,(forIn names cs fun (x:Str × NameKind) (r:List (Str × Addr))=>(if x.2 == NameKind.free then do let a ← cellOf env x.1; pure (ForInStep.yield ((x.1,a) :: r)) else pure (ForInStep.yield r):Sem (ForInStep (List (Str × Addr)))))=pure cl∧
   (∀ p ∈ cl,p ∈ cs ∨ env.cells.lookup p.1=some p.2)∧(∀ p ∈ cs,p ∈ cl)∧∀ x ∈ names,x.2=.free→∃ c,(x.1,c) ∈ cl
 | [],cs,_=>⟨cs,rfl,fun p h=>.inl h,fun p h=>h,fun x h=>nomatch h⟩
 | (n,k) :: r,cs,h=>by
  by_cases hk:k=.free
  ·subst hk
   obtain ⟨c,hc⟩:=h (n,.free) List.mem_cons_self rfl
   obtain ⟨cl,e,h1,h2,h3⟩:=closure_ok r ((n,c) :: cs) fun x hx=>h x (List.mem_cons_of_mem _ hx)
   refine ⟨cl,?_,fun p hp=>?_,fun p hp=>h2 p (List.mem_cons_of_mem _ hp),fun x hx hf=>?_⟩
   ·rw [List.forIn_cons]
    have hco:cellOf env n=pure c:=by unfold cellOf; rw [hc]
    simp only [beq_self_eq_true,if_true,hco,pure_bind]
    exact e
   ·rcases h1 p hp with z | z
    ·rcases List.mem_cons.mp z with z | z
     ·subst z; exact .inr hc
     ·exact .inl z
    ·exact .inr z
   ·rcases List.mem_cons.mp hx with z | z
    ·subst z; exact ⟨c,h2 _ List.mem_cons_self⟩
    ·exact h3 x z hf
  ·obtain ⟨cl,e,h1,h2,h3⟩:=closure_ok r cs fun x hx=>h x (List.mem_cons_of_mem _ hx)
   have hb:(k == NameKind.free)=false:=by simpa using hk
   refine ⟨cl,?_,h1,h2,fun x hx hf=>?_⟩
   ·rw [List.forIn_cons]
    simp only [hb,Bool.false_eq_true,if_false,pure_bind]
    exact e
   ·rcases List.mem_cons.mp hx with z | z
    ·subst z; exact absurd hf hk
    ·exact h3 x z hf
theorem closure_for {scope:Scope} {env:Env} (h:∀ x ∈ scope.names,x.2=.free→∃ c,env.cells.lookup x.1=some c):
  ∃ cl,closureFor scope env=pure cl∧(∀ x c,cl.lookup x=some c→env.cells.lookup x=some c)∧∀ x ∈ scope.names,x.2=.free→∃ c,cl.lookup x.1=some c:=by
 obtain ⟨cl,e,h1,h2,h3⟩:=closure_ok (env:=env) scope.names [] h
 refine ⟨cl,?_,fun x c hx=>?_,fun x hx hf=>?_⟩
 ·unfold closureFor
  show ((forIn scope.names [] fun (x:Str × NameKind) (r:List (Str × Addr))=>(if x.2 == NameKind.free then do let a ← cellOf env x.1; pure (ForInStep.yield ((x.1,a) :: r)) else pure (ForInStep.yield r):Sem (ForInStep (List (Str × Addr))))) >>= fun l=>pure l)=pure cl
  rw [e,pure_bind]
 ·rcases h1 _ (mem_of_lookup' hx) with z | z
  ·exact nomatch z
  ·exact z
 ·obtain ⟨c,hc⟩:=h3 x hx hf
  cases e2:cl.lookup x.1 with
  | some c'=>exact ⟨c',rfl⟩
  | none=>
   rw [List.lookup_eq_none_iff] at e2
   have:=e2 _ hc
   simp at this
theorem relabel_mem {scope:Scope} {env:Env} {x:Str} {k:NameKind} (h:(relabel scope env).names.lookup x=some k):(x,k) ∈ scope.names ∨ (k=.cell∧(x,NameKind.free) ∈ scope.names):=by
 have m:=mem_of_lookup' h
 obtain ⟨⟨n,j⟩,hn,e⟩:=List.mem_map.mp m
 dsimp only at e
 split at e
 ·rename_i hc
  cases e
  have:j=NameKind.free:=by
   have:=(Bool.and_eq_true _ _ |>.mp (Bool.and_eq_true _ _ |>.mp hc).1).1
   simpa using this
  subst this
  exact .inr ⟨rfl,hn⟩
 ·cases e
  exact .inl hn
theorem relabel_free {scope:Scope} {env:Env} {x:Str}:∀ {names:List (Str × NameKind)},names.lookup x=some .free→
  ((names.map fun (n,k)=>if (k == NameKind.free && env.scope.kind == .function && env.kindOf n == some .cell) then (n,NameKind.cell) else (n,k)).lookup x=some .cell) ∨
  ((names.map fun (n,k)=>if (k == NameKind.free && env.scope.kind == .function && env.kindOf n == some .cell) then (n,NameKind.cell) else (n,k)).lookup x=some .free)
 | [],h=>by simp at h
 | (n,k) :: r,h=>by
  have ih:=@relabel_free scope env x r
  simp only [List.map_cons]
  cases hx:x == n with
  | true=>
   simp only [List.lookup_cons,hx] at h
   cases h
   by_cases hc:(NameKind.free == NameKind.free && env.scope.kind == .function && env.kindOf n == some .cell)=true
   ·left; rw [if_pos hc]; simp [List.lookup_cons,hx]
   ·right; rw [if_neg hc]; simp [List.lookup_cons,hx]
  | false=>
   simp only [List.lookup_cons,hx] at h
   by_cases hc:(k == NameKind.free && env.scope.kind == .function && env.kindOf n == some .cell)=true
   ·rw [if_pos hc]; simp only [List.lookup_cons,hx]; exact ih h
   ·rw [if_neg hc]; simp only [List.lookup_cons,hx]; exact ih h
section
variable {X:Cx} {pins:List (Addr × Obj)} {σ:L2.St} {H:Hp} {s:Shared}
theorem comp_start {N:List Str} {k:Nat} {caps:List Nat} {scope:Scope} {cl:List (Str × Addr)} {fp:List Addr} {h':Heap} {m:Str→Option Value} {t:Nat} (I:Inv X pins σ H s) (C:CompScope X N k caps scope)
  (hcl:∀ x c,cl.lookup x=some c→X.env.cells.lookup x=some c) (hcf:∀ x ∈ scope.names,x.2=.free→∃ c,cl.lookup x.1=some c)
  (hfp:∀ b ∈ fp,FpOk X pins H b∧b < s.heap.objs.size) (hn:h'.Ns s.heap.objs.size m) (hk:∀ b o,s.heap.get? b=some o→h'.get? b=some o):
  Inv (cxC X N scope cl s H fp) pins (capSt k caps σ) H { s with heap:=h',toks:=t }:=by
 have hfs:∀ b,b ∈ frs X.stack→b < s.heap.objs.size:=fun b hb=>by
  obtain ⟨_,o,ho,_⟩:=I.stack.mem hb
  exact Heap.lt_size ho
 refine ⟨⟨I.ok.mod,C.kind,I.ok.glob,I.ok.blt,Nat.le_refl _,fun x y c h1 h2=>I.ok.inj x y c (hcl x c h1) (hcl y c h2),fun x hx=>?_,(fun x c h=>nomatch h),I.ok.hd,I.ok.frames,.inl rfl,fun b hb=>?_,fun b o e=>?_,?_,fun b o e hb=>?_,fun b hb=>?_,I.stack,fun b hb=>I.stkFree b hb⟩,
  rfl,I.bare,Un.kept hk,?_,fun x c e=>?_,I.hok.fresh (Nat.le_refl _),fun x c e=>I.freeC x c (hcl x c e),fun p hp=>?_,I.hok.kept hk,?_⟩
 ·-- has
  have key:∀ kk,(kk=NameKind.cell ∨ kk=NameKind.free)→(relabel scope X.env).names.lookup x=some kk→∃ c,cl.lookup x=some c:=fun kk hkk hl=>by
   rcases relabel_mem hl with z | ⟨_,z⟩
   ·rcases hkk with q | q
    ·subst q; exact absurd rfl (C.nocell _ z)
    ·subst q; exact hcf _ z rfl
   ·exact hcf _ z rfl
  rcases hx with z | z
  ·exact key _ (.inl rfl) z
  ·exact key _ (.inr rfl) z
 ·obtain ⟨f,lt⟩:=hfp b hb
  exact ⟨Nat.ne_of_lt lt,fun x c e=>f.2.2.2.2.1 x c (hcl x c e)⟩
 ·exact I.bs b o e
 ·exact Nat.le_trans I.ok.bsz I.sz
 ·obtain ⟨f,lt⟩:=hfp b hb
  rcases f.2.2.2.1 with z | z
  ·exact I.ok.noex b o e z
  ·exact absurd (Nat.lt_of_lt_of_le (Heap.lt_size e) (Nat.le_trans I.ok.bsz z)) (Nat.lt_irrefl _)
 ·obtain ⟨f,lt⟩:=hfp b hb
  intro z
  rcases List.mem_cons.mp (I.stkSub b z) with q | q
  ·exact f.2.1 q
  ·exact f.2.2.1 q
 ·obtain ⟨m0,hn0,hl0⟩:=I.loc
  refine ⟨m,hn,fun i x v e1 e2 e3=>?_⟩
  unfold capSt at e2
  by_cases hi:i < k
  ·rw [List.getElem?_append_left (by simpa using hi),List.getElem?_replicate] at e2
   split at e2 <;> cases e2
  ·rw [List.getElem?_append_right (by simpa using hi),List.getElem?_map,List.length_replicate] at e2
   cases ec:caps[i - k]? with
   | none=>rw [ec] at e2; cases e2
   | some j=>
    rw [ec] at e2
    have e2':(σ[j]?).join=some v:=Option.some.inj e2
    obtain ⟨y,hy1,hy2,hy3⟩:=C.cap _ _ ec
    have e1':N[i]?=some x:=e1
    rw [show k + (i - k)=i by omega] at hy2
    rw [hy2] at e1'
    have exy:y=x:=Option.some.inj e1'
    subst exy
    have hfr:(y,NameKind.free) ∈ scope.names:=mem_of_lookup' hy3
    have hsj:σ[j]?=some (some v):=by
     cases q:σ[j]? with
     | none=>rw [q] at e2'; cases e2'
     | some o=>rw [q] at e2'; rw [show o=some v from e2']
    have kinds:=C.free _ hfr rfl
    have hvis:Vis X.env.scope y:=by
     rcases kinds with z | z
     ·exact .inr (.inl z)
     ·exact .inr (.inr z)
    obtain ⟨u,ru,lk⟩:=hl0 j y v hy1 hsj hvis
    refine ⟨u,ru,?_⟩
    rcases lk with ⟨z,_⟩ | ⟨_,c,hc,hcell⟩
    ·rcases kinds with q | q <;> (rw [q] at z; cases z)
    ·obtain ⟨c',hc'⟩:=hcf _ hfr rfl
     have:=hcl _ _ hc'
     rw [hc] at this
     cases this
     refine .inr ⟨?_,c,hc',hcell.keeps hk⟩
     exact relabel_free (scope:=scope) (env:=X.env) hy3
 ·obtain ⟨v,z⟩:=I.cell x c (hcl x c e)
  exact ⟨v,z.keeps hk⟩
 ·obtain ⟨e,n,ne,nf,d⟩:=I.pin p hp
  refine ⟨hk _ _ e,n,Nat.ne_of_lt (Heap.lt_size e),fun z=>?_,d⟩
  rcases List.mem_cons.mp (I.stkSub _ z) with q | q
  ·exact ne q
  ·exact nf q
 ·unfold capSt
  show _=N.length
  rw [C.len]
  simp
end
noncomputable def tComp (wi:TI) (k:Nat) (caps:List Nat) (g:TG) (tt:TT) (te:TE):TE:=fun σ H Q=>wi σ H fun J H1=>∀ p,H1 p=none→∃ W:Nat→Nat→L2.St→Hp→Prop,(∃ m,W 0 m (capSt k caps σ) (upd H1 p (.lst [])))∧∀ i m σ' H',W i m σ' H'→
 (J.stop i H'∧Q (.ref p) H') ∨ (J.go i H'∧∃ N:L2.St→Hp→Prop,(∀ σ2 H2,N σ2 H2→∃ m',m' < m∧W (i + 1) m' σ2 H2)∧
  ∀ x H3,J.yld i H' x H3→g x σ' H3 fun σ4 H4=>tt σ4 H4 fun b H5=>if b=true then te σ4 H5 fun y H6=>∃ ys,H6 p=some (.lst ys)∧ys.length < sizeLine∧N σ4 (upd H6 p (.lst (ys ++ [y]))) else N σ4 H5)
theorem pe_compQ {qb:Bool} {X:Cx} {elt tg iter:Expr} {ifs:List Expr} {scope:Scope} {pos:Pos} {N:List Str} {k:Nat} {caps:List Nat} {wi:TI} {g:TG} {tt:TT} {te:TE} (hX:Cd qb X) (hxe:∀ e s,¬ X.xe e s) (C:CompScope X N k caps scope)
  (hi:PIb qb X tg iter wi) (hg:∀ cl s0 H0 ex,Cd qb (cxC X N scope cl s0 H0 ex)→PG (cxC X N scope cl s0 H0 ex) tg g) (ht:∀ cl s0 H0 ex,Cd qb (cxC X N scope cl s0 H0 ex)→PIfs (cxC X N scope cl s0 H0 ex) ifs tt) (he:∀ cl s0 H0 ex,Cd qb (cxC X N scope cl s0 H0 ex)→PE (cxC X N scope cl s0 H0 ex) elt te)
  (hs:autoParam (∀ x,foldedSetIterable iter X.env x=pure x) Au.h4._auto_1):PE X (.ListComp elt [⟨tg,iter,ifs,0⟩] scope pos) (tComp wi k caps g tt te):=by
 intro pins s σ H Q I h
 have noX:∀ {α:Type} {t:Sem α} {Q':α→Shared→Prop} {s':Shared},wpAny (model X.prog X.w) X.A t Q' X.xe s'→wpAny (model X.prog X.w) X.A t Q' (fun _ _=>False) s':=fun h=>wpAny_mono h (fun _ _ x=>x) fun e s z=>hxe e s z
 obtain ⟨cl,hclos,hcl,hcf⟩:=closure_for (scope:=scope) (env:=X.env) fun x hx hf=>I.ok.has _ (C.free x hx hf)
 rw [eval_ListComp]
 refine wpAny_comprehension_free (use:=none) (cl:=cl) rfl hs hclos C.kind C.names ?_
 refine thn (hi pins s σ H _ I h) fun v s1 h1=>thn h1 fun itv s2 h2=>?_
 obtain ⟨it,fp,tn,J,H2,e,I2,T,st2,f2,q⟩:=h2
 subst e
 refine wpAny_newList (items:=[]) ?_ (by show 0≤sizeLine; exact Nat.zero_le _)
 have hp:H2 s2.heap.objs.size=none:=I2.hok.fresh (Nat.le_refl _)
 obtain ⟨W,⟨m0,w0⟩,turn⟩:=q _ hp
 have I3:Inv X pins σ (upd H2 s2.heap.objs.size (.lst [])) { s2 with heap:=s2.heap.push { cls:=.type "list",data:=.seq ([]:List Value).toArray } }:=
  I2.laid (t':=s2.toks) (fun b u e=>Heap.get?_push_of_some _ e) (Nat.le_refl _) ⟨Nat.zero_le _,[],0,.nil,Heap.get?_push_size _ rfl⟩
 refine wpAny_newFunctionEnv C.nocell (fun x hx=>nomatch hx) (fun h4 hn4 hs4=>?_) C.kind
 have ltfp:∀ b ∈ fp,b < s2.heap.objs.size:=fun b hb=>by
  obtain ⟨o,ho,_⟩:=T.obj _ _ st2 b hb
  exact Heap.lt_size ho
 have hk4:∀ b o,(s2.heap.push { cls:=.type "list",data:=.seq ([]:List Value).toArray }).get? b=some o→h4.get? b=some o:=fun b o e=>by
  have ne:b ≠ (s2.heap.push { cls:=.type "list",data:=.seq ([]:List Value).toArray }).objs.size:=Nat.ne_of_lt (Heap.lt_size e)
  rw [hs4.2 b ne]
  exact Heap.get?_push_of_some _ e
 have f3:∀ b ∈ fp,FpOk X pins (upd H2 s2.heap.objs.size (.lst [])) b:=fun b hb=>by
  obtain ⟨a1,a2⟩:=f2 b hb
  exact ⟨by rw [upd_ne (Nat.ne_of_lt (ltfp b hb))]; exact a1,a2⟩
 have I4:=comp_start (N:=N) (k:=k) (caps:=caps) (scope:=scope) (cl:=cl) (fp:=fp) (t:=s2.toks + 0) I3 C hcl hcf (fun b hb=>⟨f3 b hb,by rw [show ({ s2 with heap:=s2.heap.push { cls:=.type "list",data:=.seq ([]:List Value).toArray } }:Shared).heap.objs.size=s2.heap.objs.size + 1 from Heap.size_push ..]; exact Nat.lt_succ_of_lt (ltfp b hb)⟩) hn4 hk4
 have tn4:tn 0 h4:=T.keep _ _ _ st2 fun b hb o e=>hk4 b o (Heap.get?_push_of_some _ e)
 have loop:codeAny (model X.prog X.w) X.A (.compLoop (.ListComp elt [⟨tg,iter,ifs,0⟩] scope pos) 0 (.ref it) (.ref s2.heap.objs.size) (compEnvC scope cl ({ s2 with heap:=s2.heap.push { cls:=.type "list",data:=.seq ([]:List Value).toArray } }:Shared).heap.objs.size X.env))
   (compPost (model X.prog X.w) X.A X.xe none (EP X pins σ Q) (.ref s2.heap.objs.size) ({ s2 with heap:=s2.heap.push { cls:=.type "list",data:=.seq ([]:List Value).toArray } }:Shared).heap.objs.size) { s2 with heap:=h4,toks:=s2.toks + 0 }:=by
  generalize hs3:({ s2 with heap:=s2.heap.push { cls:=.type "list",data:=.seq ([]:List Value).toArray } }:Shared)=s3 at *
  have sz3:s2.heap.objs.size≤s3.heap.objs.size:=by rw [← hs3]; show _≤(s2.heap.push _).objs.size; rw [Heap.size_push]; exact Nat.le_succ _
  have k23:∀ b o,s2.heap.get? b=some o→s3.heap.get? b=some o:=fun b o e=>by rw [← hs3]; exact Heap.get?_push_of_some _ e
  have hos:s3.os=s2.os:=by rw [← hs3]
  have stat:∀ {H':Hp},(∀ b ∈ fp,H' b=none)→∀ b ∈ fp,FpOk (cxC X N scope cl s3 (upd H2 s2.heap.objs.size (.lst [])) fp) pins H' b:=fun {H'} hn b hb=>by
   obtain ⟨a1,a2,a3,a4,a5,a6⟩:=f3 b hb
   refine ⟨hn b hb,Nat.ne_of_lt (Nat.lt_of_lt_of_le (ltfp b hb) sz3),fun z=>?_,.inl hb,fun x c e=>a5 x c (hcl x c e),a6⟩
   rcases List.mem_cons.mp (I2.stkSub b z) with q | q
   ·exact a2 q
   ·exact a3 q
  have I4':Inv (cxC X N scope cl s3 (upd H2 s2.heap.objs.size (.lst [])) fp) pins (capSt k caps σ) (upd H2 s2.heap.objs.size (.lst [])) { s2 with heap:=h4,toks:=s2.toks + 0 }:=by subst hs3; exact I4
  have hX2:Cd qb (cxC X N scope cl s3 (upd H2 s2.heap.objs.size (.lst [])) fp):=by
   rcases hX with z | ⟨z,y | ⟨a,o,u,e1,e2,e3⟩⟩
   ·exact .inl z
   ·exact .inr ⟨z,.inl y⟩
   ·refine .inr ⟨z,.inr ⟨a,o,u,e1,?_,e3⟩⟩
    have q0:=I2.base.frzs a o u e2
    show upd H2 s2.heap.objs.size (.lst []) a=_
    rw [upd_ne (fun y=>by rw [y,hp] at q0; cases q0)]
    exact q0
  refine compLoop_all (fun n s'=>∃ i σ' H',Inv (cxC X N scope cl s3 (upd H2 s2.heap.objs.size (.lst [])) fp) pins σ' H' s'∧tn i s'.heap∧(∀ b ∈ fp,H' b=none)∧W i n σ' H') ?_ m0 ⟨0,_,_,I4',tn4,fun b hb=>(f3 b hb).1,w0⟩
  rintro n s5 ⟨i,σ5,H5,I5,st5,fr5,w5⟩
  rcases turn i n σ5 H5 w5 with ⟨stop,qn⟩ | ⟨go,Nn,hN,step⟩
  ·refine thn (T.done (cxC X N scope cl s3 (upd H2 s2.heap.objs.size (.lst [])) fp) rfl rfl rfl hX2 i pins s5 σ5 H5 _ I5 (stat fr5) st5 stop) fun r s6 zq=>?_
   obtain ⟨hr,I6⟩:=zq
   subst hr
   obtain ⟨m6,hn6,_⟩:=I6.loc
   refine ⟨m6,hn6,fun h7 hs7=>⟨.ref s2.heap.objs.size,H5,?_,rfl,qn⟩⟩
   have u1:Un (frs X.stack) fp H2 (upd H2 s2.heap.objs.size (.lst [])) s2.heap s3.heap:=Un.laid k23 (Nat.le_refl _) hp
   have u2:Un (frs X.stack) fp H2 H5 s2.heap s6.heap:=u1.trans I6.base
   have neC:∀ b o,s2.heap.get? b=some o→b ≠ s3.heap.objs.size:=fun b o e=>Nat.ne_of_lt (Nat.lt_of_lt_of_le (Heap.lt_size e) sz3)
   have hfree:H5 s3.heap.objs.size=none:=I6.free
   refine I2.call' (s':={ s6 with heap:=h7 }) (ch:=fp) (by rw [← hos]; exact I6.os) ⟨fun b o e n hb hx=>?_,fun b o e n hb hx=>?_,u2.free,fun b o e hx=>?_,u2.tups,u2.frzs,u2.tbls⟩ (fun b ob e=>?_) I6.bare fun b hb=>?_
   ·exact (hs7.2 b (neC b o e)).trans (u2.keep b o e n hb hx)
   ·obtain ⟨sl,e1⟩:=u2.slot b o e n hb hx
    exact ⟨sl,(hs7.2 b (neC b o e)).trans e1⟩
   ·obtain ⟨o',e1⟩:=u2.there b o e hx
    exact ⟨o',(hs7.2 b (neC b o e)).trans e1⟩
   ·refine (I6.hok b ob e).stay (fun c v hc z=>(hs7.2 c ?_).trans z) (fun _ z=>z) fun _ _ z=>z
    intro y
    rcases hc with z | z
    ·rw [← z,y,hfree] at e; cases e
    ·rw [y,hfree] at z; cases z
   ·obtain ⟨a1,a2,a3,a4,a5,a6⟩:=f2 b hb
    exact ⟨a4,a2,a5,a6⟩
  ·refine thn (T.item (cxC X N scope cl s3 (upd H2 s2.heap.objs.size (.lst [])) fp) rfl rfl rfl hX2 i pins s5 σ5 H5 _ I5 (stat fr5) st5 go) fun r s6 zq=>?_
   obtain ⟨u,hr,h6⟩:=zq
   subst hr
   refine thn h6 fun _ s7 zq=>?_
   obtain ⟨x,H7,I7,r7,y7,st7,fr7⟩:=zq
   have I7':=I7.pinned (stat fr7) (T.obj _ _ st7)
   refine noX (thn (hg cl s3 _ fp hX2 _ s7 σ5 H7 x u _ I7' r7 (step x H7 y7)) fun _ s8 zq=>?_)
   obtain ⟨σ8,H8,I8,q8⟩:=zq
   refine noX (thn (ht cl s3 _ fp hX2 _ s8 σ8 H8 _ I8 q8) fun ok s9 zq=>?_)
   obtain ⟨H9,I9,q9⟩:=zq
   have again:∀ {s':Shared} {σ':L2.St} {H':Hp},Inv (cxC X N scope cl s3 (upd H2 s2.heap.objs.size (.lst [])) fp) (pins ++ pinsAt fp s7.heap) σ' H' s'→Nn σ' H'→
     ∃ m,m < n∧∃ i σ' H',Inv (cxC X N scope cl s3 (upd H2 s2.heap.objs.size (.lst [])) fp) pins σ' H' s'∧tn i s'.heap∧(∀ b ∈ fp,H' b=none)∧W i m σ' H':=fun {s' σ' H'} I' n'=>by
    obtain ⟨m',hm,w'⟩:=hN σ' H' n'
    refine ⟨m',hm,i + 1,σ',H',I'.unpinned,T.keep _ _ _ st7 fun b hb o e=>(I'.pin (b,o) (List.mem_append_right _ (List.mem_append_right _ (mem_pinsAt hb e)))).1,fun b hb=>?_,w'⟩
    obtain ⟨o,e,d⟩:=T.obj _ _ st7 b hb
    exact (I'.pin (b,o) (List.mem_append_right _ (List.mem_append_right _ (mem_pinsAt hb e)))).2.1
   cases ok with
   | false=>exact again I9 q9
   | true=>
    refine noX (thn (he cl s3 _ fp hX2 _ s9 σ8 H9 _ I9 q9) fun y s10 zq=>?_)
    obtain ⟨yv,H10,I10,r10,ys,hys,hlt,q10⟩:=zq
    refine noX (thn (mt_append (X:=cxC X N scope cl s3 (upd H2 s2.heap.objs.size (.lst [])) fp) _ s10 σ8 H10 (.ref s2.heap.objs.size) [yv] _ [y] (fun _ H'=>Nn σ8 H') I10 rfl (.cons r10 .nil) ⟨_,ys,yv,rfl,rfl,hys,hlt,q10⟩) fun _ s11 zq=>?_)
    obtain ⟨_,H11,I11,_,q11⟩:=zq
    exact again I11 q11
 exact codeAny_compStart_list loop (T.self X.A 0 _ _ _ tn4 loop)
end PD
namespace PD
open PySem PySem.Spec PyProof.Rows L2
noncomputable def smallI (i:Int):Prop:=-(2 ^ 64) < i∧i < 2 ^ 64
noncomputable instance (i:Int):Decidable (smallI i):=by unfold smallI; infer_instance
noncomputable def oAdd:Sto→D→D→Option D
 | _,.int i,.int j=>some (.int (i + j))
 | _,.str a,.str b=>if a.length + b.length≤sizeLine then some (.str (a ++ b)) else none
 | _,.tup a,.tup b=>if a.length + b.length≤sizeLine then some (.tup (a ++ b)) else none
 | _,.lst a,.lst b=>if a.length + b.length≤sizeLine then some (.lst (a ++ b)) else none
 | _,_,_=>none
noncomputable def oMul:Sto→D→D→Option D
 | _,.int i,.int j=>if smallI i ∨ smallI j then some (.int (i * j)) else none
 | _,.tup a,.int k=>if -(2 ^ 63)≤k∧k < 2 ^ 63∧a.length * k.toNat≤sizeLine then some (.tup (List.replicate k.toNat a).flatten) else none
 | _,.lst a,.int k=>if -(2 ^ 63)≤k∧k < 2 ^ 63∧a.length * k.toNat≤sizeLine then some (.lst (List.replicate k.toNat a).flatten) else none
 | _,_,_=>none
noncomputable def oFdiv:Sto→D→D→Option D
 | _,.int i,.int j=>if 0 < j∧j < 1073741824 then some (.int (i / j)) else none
 | _,_,_=>none
noncomputable def oMod:Sto→D→D→Option D
 | _,.int i,.int j=>if 0 < j then some (.int (i % j)) else none
 | _,_,_=>none
noncomputable def oPow:Sto→D→D→Option D
 | _,.int i,.int j=>if 0≤j∧j≤1000000∧i.natAbs < 2 ^ 64 then some (.int (i ^ j.toNat)) else none
 | _,_,_=>none
noncomputable def oShl:Sto→D→D→Option D
 | _,.int i,.int j=>if 0≤j∧j≤1000000∧i.natAbs < 2 ^ 64 then some (.int (i * 2 ^ j.toNat)) else none
 | _,_,_=>none
noncomputable def oNeg:Sto→D→Option D
 | _,.int i=>some (.int (-i))
 | _,_=>none
noncomputable def oCmp (p:Int→Int→Bool):Sto→D→D→Option D
 | _,.int i,.int j=>some (.bl (p i j))
 | _,_,_=>none
noncomputable abbrev oLt:=oCmp fun i j=>decide (i < j)
noncomputable abbrev oGt:=oCmp fun i j=>decide (j < i)
noncomputable abbrev oGe:=oCmp fun i j=>decide (j≤i)
noncomputable def eqS:D→D→Option Bool
 | .int i,.int j=>some (decide (i=j))
 | .bl i,.bl j=>some (decide (i=j))
 | .str i,.str j=>some (decide (i=j))
 | .non,.non=>some true
 | .non,.int _=>some false
 | .int _,.non=>some false
 | .non,.bl _=>some false
 | .bl _,.non=>some false
 | .non,.str _=>some false
 | .str _,.non=>some false
 | .int _,.str _=>some false
 | .str _,.int _=>some false
 | .bl _,.str _=>some false
 | .str _,.bl _=>some false
 | _,_=>none
noncomputable def oEq:Sto→D→D→Option D:=fun _ a b=>(eqS a b).map .bl
noncomputable def oNe:Sto→D→D→Option D:=fun _ a b=>(eqS a b).map fun c=>.bl (!c)
noncomputable def flatD:D→Bool
 | .non=>true
 | .bl _=>true
 | .int _=>true
 | .str _=>true
 | _=>false
noncomputable def eqF:D→D→Bool
 | .non,.non=>true
 | .bl a,.bl b=>a == b
 | .bl a,.int b=>(if a then 1 else 0) == b
 | .int a,.bl b=>a == (if b then 1 else 0)
 | .int a,.int b=>a == b
 | .str a,.str b=>a == b
 | _,_=>false
noncomputable def seqOf (S:Sto):D→Option (List D)
 | .tup a=>some a
 | .lst a=>some a
 | .fz a=>some a
 | .ref n=>match S[n]? with
  | some (.lst a)=>some a
  | some (.flst a)=>some a
  | _=>none
 | _=>none
noncomputable def oIx:Sto→D→D→Option D:=fun S x y=>match seqOf S x,y with
 | some a,.int i=>atI a i
 | _,_=>none
section
variable {X:Cx} {E:XK}
theorem RD.int {K:PySem.W.Frag} {w:Wd} {H:Hp} {i:Int} {v:V} (q:RD K w H (.int i) v):v=.int i:=by unfold RD at q; exact q
theorem RD.bl {K:PySem.W.Frag} {w:Wd} {H:Hp} {i:Bool} {v:V} (q:RD K w H (.bl i) v):v=.bl i:=by unfold RD at q; exact q
theorem RD.str {K:PySem.W.Frag} {w:Wd} {H:Hp} {i:Str} {v:V} (q:RD K w H (.str i) v):v=.str i:=by unfold RD at q; exact q
theorem RD.non {K:PySem.W.Frag} {w:Wd} {H:Hp} {v:V} (q:RD K w H .non v):v=.non:=by unfold RD at q; exact q
theorem RD.mkI {K:PySem.W.Frag} {w:Wd} {H:Hp} {i:Int}:RD K w H (.int i) (.int i):=by unfold RD; rfl
theorem RD.mkB {K:PySem.W.Frag} {w:Wd} {H:Hp} {i:Bool}:RD K w H (.bl i) (.bl i):=by unfold RD; rfl
theorem RD.mkS {K:PySem.W.Frag} {w:Wd} {H:Hp} {i:Str}:RD K w H (.str i) (.str i):=by unfold RD; rfl
theorem RD.tupI {K:PySem.W.Frag} {w:Wd} {H:Hp} {ds:List D} {v:V} (q:RD K w H (.tup ds) v):∃ a vs,v=.ref a∧(At w H a (.tup vs) ∨ KTup K a vs)∧RDs K w H ds vs:=by unfold RD at q; exact q
theorem RD.lstI {K:PySem.W.Frag} {w:Wd} {H:Hp} {ds:List D} {v:V} (q:RD K w H (.lst ds) v):∃ a vs,v=.ref a∧At w H a (.lst vs)∧RDs K w H ds vs:=by unfold RD at q; exact q
theorem RD.fzI {K:PySem.W.Frag} {w:Wd} {H:Hp} {ds:List D} {v:V} (q:RD K w H (.fz ds) v):∃ a vs,v=.ref a∧FzAt K w H a vs∧RDs K w H ds vs:=by unfold RD at q; exact q
theorem RD.refI {K:PySem.W.Frag} {w:Wd} {H:Hp} {n:Nat} {v:V} (q:RD K w H (.ref n) v):∃ a,v=.ref a∧w.st[n]?=some a:=by unfold RD at q; exact q
theorem RD.newTup {K:PySem.W.Frag} {w:Wd} {H:Hp} {S:Sto} {ds:List D} {vs:List V} {p:Addr} (s:RS K w H S) (hp:H p=none) (q:RDs K w H ds vs):RD K w (upd H p (.tup vs)) (.tup ds) (.ref p):=by
 unfold RD
 exact ⟨p,vs,rfl,.inl ⟨upd_same,s.fresh hp⟩,RDs.ext (Ext.new hp) _ _ q⟩
theorem RD.newLst {K:PySem.W.Frag} {w:Wd} {H:Hp} {S:Sto} {ds:List D} {vs:List V} {p:Addr} (s:RS K w H S) (hp:H p=none) (q:RDs K w H ds vs):RD K w (upd H p (.lst vs)) (.lst ds) (.ref p):=by
 unfold RD
 exact ⟨p,vs,rfl,⟨upd_same,s.fresh hp⟩,RDs.ext (Ext.new hp) _ _ q⟩
theorem opII {f:Value→Value→Sem Value} {C:Int→Int→Prop} {g:Int→Int→D} {gv:Int→Int→V} {o:Sto→D→D→Option D} (h:OpR X f (rI C gv)) (hg:∀ K w H i j,RD K w H (g i j) (gv i j))
  (ho:∀ S d e z,o S d e=some z→∃ i j,d=.int i∧e=.int j∧C i j∧z=g i j):OpR X f (xO X.K E o):=by
 rintro pins s σ H x y v u Q I rx ry ⟨w,S,d,e,hS,qd,qe,p⟩
 obtain ⟨z,hz,p⟩:=p.of
 obtain ⟨i,j,rfl,rfl,c,rfl⟩:=ho _ _ _ _ hz
 cases qd.int
 cases qe.int
 exact h pins s σ H _ _ v u Q I rx ry ⟨i,j,rfl,rfl,c,p.ret (hg _ _ _ _ _) hS⟩
theorem opII0 {f:Value→Value→Sem Value} {g:Int→Int→D} {gv:Int→Int→V} {o:Sto→D→D→Option D} (h:OpR X f (rI0 gv)) (hg:∀ K w H i j,RD K w H (g i j) (gv i j))
  (ho:∀ S d e z,o S d e=some z→∃ i j,d=.int i∧e=.int j∧z=g i j):OpR X f (xO X.K E o):=by
 rintro pins s σ H x y v u Q I rx ry ⟨w,S,d,e,hS,qd,qe,p⟩
 obtain ⟨z,hz,p⟩:=p.of
 obtain ⟨i,j,rfl,rfl,rfl⟩:=ho _ _ _ _ hz
 cases qd.int
 cases qe.int
 exact h pins s σ H _ _ v u Q I rx ry ⟨i,j,rfl,rfl,p.ret (hg _ _ _ _ _) hS⟩
theorem xo_fdiv:OpR X (binaryOp .FloorDiv) (xO X.K E oFdiv):=opII (g:=fun i j=>.int (i / j)) op_fdiv (fun _ _ _ _ _=>RD.mkI) fun S d e z h=>by
 unfold oFdiv at h; split at h
 ·split at h
  ·cases h; exact ⟨_,_,rfl,rfl,by assumption,rfl⟩
  ·cases h
 ·cases h
theorem xo_mod:OpR X (binaryOp .Mod) (xO X.K E oMod):=opII (g:=fun i j=>.int (i % j)) op_mod (fun _ _ _ _ _=>RD.mkI) fun S d e z h=>by
 unfold oMod at h; split at h
 ·split at h
  ·cases h; exact ⟨_,_,rfl,rfl,by assumption,rfl⟩
  ·cases h
 ·cases h
theorem xo_pow:OpR X (binaryOp .Pow) (xO X.K E oPow):=opII (g:=fun i j=>.int (i ^ j.toNat)) op_pow (fun _ _ _ _ _=>RD.mkI) fun S d e z h=>by
 unfold oPow at h; split at h
 ·split at h
  ·cases h; exact ⟨_,_,rfl,rfl,by assumption,rfl⟩
  ·cases h
 ·cases h
theorem xo_shl:OpR X (binaryOp .LShift) (xO X.K E oShl):=opII (g:=fun i j=>.int (i * 2 ^ j.toNat)) op_shl (fun _ _ _ _ _=>RD.mkI) fun S d e z h=>by
 unfold oShl at h; split at h
 ·split at h
  ·cases h; exact ⟨_,_,rfl,rfl,by assumption,rfl⟩
  ·cases h
 ·cases h
theorem oCmp_inv {p:Int→Int→Bool} {S:Sto} {d e z:D} (h:oCmp p S d e=some z):∃ i j,d=.int i∧e=.int j∧z=.bl (p i j):=by
 unfold oCmp at h; split at h
 ·cases h; exact ⟨_,_,rfl,rfl,rfl⟩
 ·cases h
theorem xo_lt:OpR X (compareOp .Lt) (xO X.K E oLt):=opII0 (g:=fun i j=>.bl (decide (i < j))) op_lt (fun _ _ _ _ _=>RD.mkB) fun S d e z h=>oCmp_inv h
theorem xo_gt:OpR X (compareOp .Gt) (xO X.K E oGt):=opII0 (g:=fun i j=>.bl (decide (j < i))) op_gt (fun _ _ _ _ _=>RD.mkB) fun S d e z h=>oCmp_inv h
theorem xo_ge:OpR X (compareOp .GtE) (xO X.K E oGe):=opII0 (g:=fun i j=>.bl (decide (j≤i))) op_ge (fun _ _ _ _ _=>RD.mkB) fun S d e z h=>oCmp_inv h
theorem xu_neg:UnR X (unaryOp .USub) (xU X.K E oNeg):=by
 rintro pins s σ H x v Q I rx ⟨w,S,d,hS,qd,p⟩
 obtain ⟨z,hz,p⟩:=p.of
 unfold oNeg at hz; split at hz
 ·cases hz
  cases qd.int
  exact un_neg pins s σ H _ v Q I rx ⟨_,rfl,p.ret RD.mkI hS⟩
 ·cases hz
theorem eqS_ok {K:PySem.W.Frag} {w:Wd} {H:Hp} {d e:D} {x y:V} {c:Bool} (qd:RD K w H d x) (qe:RD K w H e y) (h:eqS d e=some c):scal x y=true∧decide (x=y)=c:=by
 unfold eqS at h
 split at h <;> (try (cases h; done)) <;> (unfold RD at qd qe; subst qd; subst qe; cases h; refine ⟨rfl,?_⟩; simp)
theorem xo_eq:OpR X (compareOp .Eq) (xO X.K E oEq):=by
 rintro pins s σ H x y v u Q I rx ry ⟨w,S,d,e,hS,qd,qe,p⟩
 obtain ⟨z,hz,p⟩:=p.of
 unfold oEq at hz
 cases h:eqS d e with
 | none=>rw [h] at hz; cases hz
 | some c=>
  rw [h] at hz; cases hz
  obtain ⟨h1,h2⟩:=eqS_ok qd qe h
  exact op_eq pins s σ H _ _ v u Q I rx ry ⟨h1,by rw [h2]; exact p.ret RD.mkB hS⟩
theorem xo_ne:OpR X (compareOp .NotEq) (xO X.K E oNe):=by
 rintro pins s σ H x y v u Q I rx ry ⟨w,S,d,e,hS,qd,qe,p⟩
 obtain ⟨z,hz,p⟩:=p.of
 unfold oNe at hz
 cases h:eqS d e with
 | none=>rw [h] at hz; cases hz
 | some c=>
  rw [h] at hz; cases hz
  obtain ⟨h1,h2⟩:=eqS_ok qd qe h
  exact op_ne pins s σ H _ _ v u Q I rx ry ⟨h1,by rw [h2]; exact p.ret RD.mkB hS⟩
theorem seq_ok {K:PySem.W.Frag} {w:Wd} {H:Hp} {S:Sto} {d:D} {v:V} {a:List D} (s:RS K w H S) (q:RD K w H d v) (h:seqOf S d=some a):∃ p vs,v=.ref p∧(SqL K H p vs ∨ SqT K H p vs)∧RDs K w H a vs:=by
 unfold seqOf at h
 split at h
 ·cases h; obtain ⟨p,vs,e,z,r⟩:=q.tupI; exact ⟨p,vs,e,.inr (SqT_of z),r⟩
 ·cases h; obtain ⟨p,vs,e,z,r⟩:=q.lstI; exact ⟨p,vs,e,.inl (SqL.of z.1),r⟩
 ·cases h; obtain ⟨p,vs,e,z,r⟩:=q.fzI; exact ⟨p,vs,e,.inl z.sq,r⟩
 ·split at h
  ·rename_i n b hn
   cases h
   obtain ⟨p,e,hp⟩:=q.refI
   obtain ⟨p',hp',vs,hv,r⟩:=s.obj _ _ hn
   rw [hp] at hp'; cases hp'
   exact ⟨p,vs,e,.inl (SqL.of hv),r⟩
  ·rename_i n b hn
   cases h
   obtain ⟨p,e,hp⟩:=q.refI
   obtain ⟨p',hp',o,vs,hv,r⟩:=s.obj _ _ hn
   rw [hp] at hp'; cases hp'
   exact ⟨p,vs,e,.inl (.inl (.inr ⟨o,hv⟩)),r⟩
  ·cases h
 ·cases h
theorem RDs.atI {K:PySem.W.Frag} {w:Wd} {H:Hp} {a:List D} {vs:List V} {i:Int} {d:D} (r:RDs K w H a vs) (h:atI a i=some d):∃ v,L2.atI vs i=some v∧RD K w H d v:=by
 unfold L2.atI at h ⊢
 rw [r.length]
 cases e:ixN a.length i with
 | none=>rw [e] at h; cases h
 | some j=>
  rw [e] at h
  obtain ⟨v,ev,rv⟩:=r.get (show a[j]?=some d from h)
  exact ⟨v,ev,rv⟩
theorem xi_ix:IxR X (xO X.K E oIx):=by
 rintro va sl pins s σ H x y v u Q I rx ry ⟨w,S,d,e,hS,qd,qe,p⟩ hsub
 obtain ⟨z,hz,p'⟩:=p.of
 clear p
 unfold oIx at hz
 split at hz
 ·rename_i a i ha
  obtain ⟨q,vs,rfl,sq,r⟩:=seq_ok hS qd ha
  cases qe.int
  obtain ⟨v',ev,rv⟩:=r.atI hz
  exact ix_seq va sl pins s σ H _ _ v u Q I rx ry (sq.elim (fun z=>.inl ⟨q,vs,i,v',rfl,rfl,z,ev,p'.ret rv hS⟩) fun z=>.inr (.inl ⟨q,vs,i,v',rfl,rfl,z,ev,p'.ret rv hS⟩)) hsub
 ·cases hz
theorem flat_ok {K:PySem.W.Frag} {w:Wd} {H:Hp} {d:D} {v:V} (q:RD K w H d v) (h:flatD d=true):flatV v=true:=by
 unfold flatD at h
 split at h
 ·cases q.non; rfl
 ·cases q.bl; rfl
 ·cases q.int; rfl
 ·cases q.str; rfl
 ·cases h
theorem flats_ok {K:PySem.W.Frag} {w:Wd} {H:Hp}:∀ {ds:List D} {vs:List V},RDs K w H ds vs→ds.all flatD=true→vs.all flatV=true
 | [],_,q,_=>by rw [q.nil_inv]; rfl
 | d :: ds,_,q,h=>by
  obtain ⟨v,r,rfl,p,t⟩:=q.cons_inv
  rw [List.all_cons,Bool.and_eq_true] at h ⊢
  exact ⟨flat_ok p h.1,flats_ok t h.2⟩
theorem eqF_ok {K:PySem.W.Frag} {w:Wd} {H:Hp} {d e:D} {x y:V} (qd:RD K w H d x) (qe:RD K w H e y) (h1:flatD d=true) (h2:flatD e=true):eqV x y=eqF d e:=by
 unfold flatD at h1 h2
 split at h1 <;> (try (cases h1; done)) <;> split at h2 <;> (try (cases h2; done)) <;> (unfold RD at qd qe; subst qd; subst qe; rfl)
end
end PD
namespace PD
open PySem PySem.Spec PyProof.Rows L2
section
open PySem.SeqAt
open PySem.AutoSeq1 (wpAny_loadPart')
open PySem.MeetsSeq PySem.MeetsSeq2 PySem.MeetsSeq3
theorem int_rmul_tup (a:Int) (t:Tok) (l:Addr) (items:Array Value) (n:Nat) (dd:Option Addr) (sl:Array (Option Value)):
  Meets (Builtin.«int.__rmul__» ⟨[.int a t,.ref l],[]⟩) (fun _ R s=>s.heap.get? l=some { cls:=.type "tuple",dict:=dd,data:=.seq items n,slots:=sl }∧R (.ok (.ret Value.notImplemented)) s):=
 .of_wp fun prog w A R s h=>by obtain ⟨hp,g,d,tk,os⟩:=s; obtain ⟨hl,h⟩:=h; wp_walk using wpAny_loadPart' hl; exact ⟨_,rfl,h⟩
theorem tup_mul_same (l:Addr) (items:Array Value) (n:Nat) (k:Int) (t:Tok) (dd:Option Addr) (sl:Array (Option Value)) (h1:¬ (decide (k < -(2 ^ 63)) || decide (k ≥ 2 ^ 63))=true) (h2:(items.isEmpty || k == 1)=true):
  Meets (Builtin.«tuple.__mul__» ⟨[.ref l,.int k t],[]⟩) (fun _ R s=>s.heap.get? l=some { cls:=.type "tuple",dict:=dd,data:=.seq items n,slots:=sl }∧R (.ok (.ret (.ref l))) s):=
 .of_wp fun prog w A R s h=>by obtain ⟨hp,g,d,tk,os⟩:=s; obtain ⟨hl,h⟩:=h; have f1:=AutoSeq1.idx_int; wp_walk using wpAny_loadPart' hl; rw [if_neg h1]; wp_walk using wpAny_loadPart' hl; exact ⟨_,rfl,h⟩
theorem tup_mul_none (l:Addr) (items:Array Value) (n:Nat) (k:Int) (t:Tok) (dd:Option Addr) (sl:Array (Option Value)) (h1:¬ (decide (k < -(2 ^ 63)) || decide (k ≥ 2 ^ 63))=true) (h2:¬ (items.isEmpty || k == 1)=true) (h3:(decide (k≤0) || items.isEmpty)=true):
  Meets (Builtin.«tuple.__mul__» ⟨[.ref l,.int k t],[]⟩) (fun _ R s=>s.heap.get? l=some { cls:=.type "tuple",dict:=dd,data:=.seq items n,slots:=sl }∧R (.ok (.ret (Value.ref s.heap.objs.size))) { s with heap:=s.heap.push { cls:=Value.type "tuple",data:=Data.seq #[] },toks:=s.toks }):=
 .of_wp fun prog w A R s h=>by obtain ⟨hp,g,d,tk,os⟩:=s; obtain ⟨hl,h⟩:=h; have f1:=AutoSeq1.idx_int; wp_walk using wpAny_loadPart' hl; rw [if_neg h1]; wp_walk using wpAny_loadPart' hl; exact ⟨_,rfl,h⟩
theorem tup_mul_more (l:Addr) (items:Array Value) (n:Nat) (k:Int) (t:Tok) (dd:Option Addr) (sl:Array (Option Value)) (h1:¬ (decide (k < -(2 ^ 63)) || decide (k ≥ 2 ^ 63))=true) (h2:¬ (items.isEmpty || k == 1)=true) (h3:¬ (decide (k≤0) || items.isEmpty)=true)
  (h4:¬ (items.size:Int) * k > (2 ^ 63 - 1) / 8) (h5:¬ Builtin.Tuple.tupleTooMany ((items.size:Int) * k)=true) (hsz:(List.foldl (fun x1 x2=>x1 ++ x2) #[] (List.replicate k.toNat items)).size≤sizeLine):
  Meets (Builtin.«tuple.__mul__» ⟨[.ref l,.int k t],[]⟩) (fun _ R s=>s.heap.get? l=some { cls:=.type "tuple",dict:=dd,data:=.seq items n,slots:=sl }∧R (.ok (.ret (Value.ref s.heap.objs.size))) { s with heap:=s.heap.push { cls:=Value.type "tuple",data:=Data.seq (List.foldl (fun x1 x2=>x1 ++ x2) #[] (List.replicate k.toNat items)) },toks:=s.toks }):=
 .of_wp fun prog w A R s h=>by obtain ⟨hp,g,d,tk,os⟩:=s; obtain ⟨hl,h⟩:=h; have f1:=AutoSeq1.idx_int; wp_walk using wpAny_loadPart' hl; rw [if_neg h1]; wp_walk using wpAny_loadPart' hl; rw [if_neg h4]; wp_walk using wpAny_loadPart' hl; exact ⟨_,rfl,h⟩
end
section
variable {prog:Program} {w:World} {A:Around} {E:Value→Shared→Prop} {s:Shared}
theorem noFill_tuple_mul:fillsNumberSlot (.type "tuple") "mul" = pure false:=
 PySem.fillsNumberSlot_seq (id:="tuple.__mul__") (r:=some (.builtin "tuple.__rmul__")) F.slot_tuple_mul.lookup (by decide +kernel) F.slot_tuple_rmul.lookup (by decide +kernel)
theorem repeat_tuple:seqRepeat? (.type "tuple")=pure (some (.builtin "tuple.__mul__")):=by
 unfold seqRepeat?
 rw [PySem.seqSlot_of (T:="tuple") (name:="__mul__") (id:="tuple.__mul__") F.slot_tuple_mul.lookup (by decide +kernel),PySem.seqSlot_of (T:="tuple") (name:="__rmul__") (id:="tuple.__rmul__") F.slot_tuple_rmul.lookup (by decide +kernel)]
 rfl
theorem rep_tup {t:Addr} {vs:List Value} {k:Int} {tk:Tok} {Q:Value→Shared→Prop} (ht:IsTup s.heap t vs.toArray) (h1:-(2 ^ 63)≤k) (h2:k < 2 ^ 63) (hz:vs.length * k.toNat≤sizeLine)
  (q1:(vs=[] ∨ k=1)→Q (.ref t) s) (q2:¬ (vs=[] ∨ k=1)→Q (.ref s.heap.objs.size) { s with heap:=s.heap.push { cls:=.type "tuple",data:=.seq (List.replicate k.toNat vs).flatten.toArray } }):
  wpAny (model prog w) A (binaryOp .Mult (.ref t) (.int k tk)) Q E s:=by
 obtain ⟨⟨cls,dd,data,sl⟩,ho,hc,n,hd⟩:=id ht
 simp only at hc hd
 subst hc hd
 have hk:¬ (decide (k < -(2 ^ 63)) || decide (k ≥ 2 ^ 63))=true:=by simp; omega
 refine wpAny_binaryOp_repeat_ref (T:="tuple") (U:="int") (by decide) ⟨_,ho,rfl⟩ (fun s'=>typeIs_int s' k tk) noFill_tuple_mul F.fills_int_mul F.slot_int_rmul repeat_tuple F.slot_int_index.lookup
  (call_meets F.slot_int_rmul (typeIs_int s k tk) F.entry_int_rmul (F.args_int_rmul_2 _ _) (int_rmul_tup k tk t vs.toArray n dd sl) ⟨ho,rfl,⟨_,ho,rfl⟩,?_⟩)
 have hfold:∀ m:Nat,List.foldl (fun x1 x2=>x1 ++ x2) #[] (List.replicate m vs.toArray)=(List.replicate m vs).flatten.toArray:=fun m=>by
  have:=foldl_rep vs m []
  rw [List.nil_append] at this
  exact this
 by_cases c1:vs=[] ∨ k=1
 ·refine call_meets F.slot_tuple_mul ⟨_,ho,rfl⟩ F.entry_tuple_mul (F.args_tuple_mul_2 _ _) (tup_mul_same t vs.toArray n k tk dd sl hk ?_) ⟨ho,q1 c1⟩
  rcases c1 with rfl | rfl
  ·rfl
  ·simp
 ·have c2:¬ (vs.toArray.isEmpty || k == 1)=true:=by
   intro z
   rw [Bool.or_eq_true] at z
   rcases z with z | z
   ·exact c1 (.inl (by simpa using z))
   ·exact c1 (.inr (by simpa using z))
  by_cases c3:k≤0
  ·refine call_meets F.slot_tuple_mul ⟨_,ho,rfl⟩ F.entry_tuple_mul (F.args_tuple_mul_2 _ _) (tup_mul_none t vs.toArray n k tk dd sl hk c2 (by simp [c3])) ⟨ho,?_⟩
   have:=q2 c1
   rw [show k.toNat=0 by omega] at this
   exact this
  ·have c4:¬ (decide (k≤0) || vs.toArray.isEmpty)=true:=by
    intro z
    rw [Bool.or_eq_true] at z
    rcases z with z | z
    ·exact c3 (of_decide_eq_true z)
    ·exact c1 (.inl (by simpa using z))
   have hmul:((vs.toArray.size:Nat):Int) * k=((vs.length * k.toNat:Nat):Int):=by
    rw [List.size_toArray,Int.natCast_mul,Int.toNat_of_nonneg (by omega)]
   have hs0:(sizeLine:Nat)=2 ^ 24:=rfl
   refine call_meets F.slot_tuple_mul ⟨_,ho,rfl⟩ F.entry_tuple_mul (F.args_tuple_mul_2 _ _) (tup_mul_more t vs.toArray n k tk dd sl hk c2 c4 ?_ ?_ ?_) ⟨ho,?_⟩
   ·rw [hmul]
    intro z
    have:((2:Int) ^ 63 - 1) / 8 ≥ 2 ^ 24:=by decide
    omega
   ·rw [hmul]
    unfold Builtin.Tuple.tupleTooMany
    simp only [decide_eq_true_eq]
    intro z
    have z':((sizeLine:Nat):Int) < ((vs.length * k.toNat:Nat):Int):=z
    omega
   ·rw [hfold,List.size_toArray,len_rep,Nat.mul_comm]; exact hz
   ·rw [hfold]; exact q2 c1
end
end PD
namespace PD
open PySem PySem.Spec PyProof.Rows L2
section
variable {prog:Program} {w:World} {A:Around} {E:Value→Shared→Prop} {s:Shared}
theorem cat_tup0 {t b:Addr} {ws:List Value} {Q:Value→Shared→Prop} (ht:IsTup s.heap t ([]:List Value).toArray) (hb:IsTup s.heap b ws.toArray) (h:Q (.ref b) s):wpAny (model prog w) A (binaryOp .Add (.ref t) (.ref b)) Q E s:=by
 obtain ⟨⟨cls,dd,data,sl⟩,ho,hc,n,hd⟩:=id ht
 obtain ⟨⟨cls2,dd2,data2,sl2⟩,ho2,hc2,n2,hd2⟩:=id hb
 simp only at hc hd hc2 hd2
 subst hc hd hc2 hd2
 exact concat_meets ⟨_,ho,rfl⟩ ⟨_,ho2,rfl⟩ noFill_tuple_add seq_tuple_add PySem.F.slot_tuple_add PySem.F.entry_tuple_add (PySem.F.args_tuple_add_2 _ _) (tuple_addW0 t b _ ws.toArray n n2 dd dd2 sl sl2 rfl) ⟨ho,ho2,h⟩
open HT in
end
end PD
namespace PD
open PySem PySem.Spec PyProof.Rows L2
section
variable {X:Cx} {E:XK}
theorem sameTup {K:PySem.W.Frag} {w:Wd} {H:Hp} {p:Addr} {vs:List V} {ds:List D} (z:At w H p (.tup vs) ∨ KTup K p vs) (r:RDs K w H ds vs):RD K w H (.tup ds) (.ref p):=by
 unfold RD; exact ⟨p,vs,rfl,z,r⟩
theorem xo_add:OpR X (binaryOp .Add) (xO X.K E oAdd):=by
 rintro pins s σ H x y v u Q I rx ry ⟨w,S,d,e,hS,qd,qe,p⟩
 obtain ⟨z,hz,p'⟩:=p.of
 clear p
 unfold oAdd at hz
 split at hz
 ·cases hz
  cases qd.int
  cases qe.int
  exact op_add pins s σ H _ _ v u Q I rx ry ⟨_,_,rfl,rfl,p'.ret RD.mkI hS⟩
 ·split at hz
  ·cases hz
   cases qd.str
   cases qe.str
   exact op_add_str pins s σ H _ _ v u Q I rx ry ⟨_,_,rfl,rfl,by assumption,p'.ret RD.mkS hS⟩
  ·cases hz
 ·split at hz
  ·rename_i S' a b hl
   cases hz
   obtain ⟨pa,xs,rfl,za,ra⟩:=qd.tupI
   obtain ⟨pb,ys,rfl,zb,rb⟩:=qe.tupI
   by_cases ha:a=[]
   ·subst ha
    have hxs:=ra.nil_inv
    subst hxs
    cases rx
    cases ry
    obtain ⟨its,r1,p1,_⟩:=I.tuple (SqT_of za)
    obtain ⟨its2,r2,p2,_⟩:=I.tuple (SqT_of zb)
    have:its=[]:=r1.nil_iff.mpr rfl
    subst this
    exact cat_tup0 p1 p2 ⟨.ref pb,H,I,rfl,p'.ret (sameTup zb rb) hS⟩
   ·refine op_catT pins s σ H _ _ v u Q I rx ry ⟨pa,pb,xs,ys,rfl,rfl,SqT_of za,SqT_of zb,fun z=>ha ?_,by rw [ra.length,rb.length]; exact hl,fun z=>?_,fun z q hq=>?_⟩
    ·have:=ra.length
     rw [z] at this
     exact List.length_eq_zero_iff.mp this.symm
    ·have hb:b=[]:=by
      have:=rb.length
      rw [z] at this
      exact List.length_eq_zero_iff.mp this.symm
     subst hb
     rw [List.append_nil] at p'
     exact p'.ret (sameTup za ra) hS
    ·exact p'.at (Ext.new hq) (RD.newTup hS hq (ra.append rb)) (hS.new hq)
  ·cases hz
 ·split at hz
  ·rename_i S' a b hl
   cases hz
   obtain ⟨pa,xs,rfl,za,ra⟩:=qd.lstI
   obtain ⟨pb,ys,rfl,zb,rb⟩:=qe.lstI
   exact op_cat pins s σ H _ _ v u Q I rx ry ⟨pa,pb,xs,ys,rfl,rfl,za.1,zb.1,by rw [ra.length,rb.length]; exact hl,fun q hq=>p'.at (Ext.new hq) (RD.newLst hS hq (ra.append rb)) (hS.new hq)⟩
  ·cases hz
 ·cases hz
theorem RDs.rep {K:PySem.W.Frag} {w:Wd} {H:Hp} {ds:List D} {vs:List V} (r:RDs K w H ds vs):∀ k:Nat,RDs K w H (List.replicate k ds).flatten (List.replicate k vs).flatten
 | 0=>by simp; exact .nil
 | k + 1=>by
  rw [List.replicate_succ,List.replicate_succ,List.flatten_cons,List.flatten_cons]
  exact r.append (RDs.rep r k)
theorem xo_mul:OpR X (binaryOp .Mult) (xO X.K E oMul):=by
 rintro pins s σ H x y v u Q I rx ry ⟨w,S,d,e,hS,qd,qe,p⟩
 obtain ⟨z,hz,p'⟩:=p.of
 clear p
 unfold oMul at hz
 split at hz
 ·split at hz
  ·cases hz
   cases qd.int
   cases qe.int
   exact op_mul pins s σ H _ _ v u Q I rx ry ⟨_,_,rfl,rfl,by assumption,p'.ret RD.mkI hS⟩
  ·cases hz
 ·split at hz
  ·rename_i S' a k hl
   cases hz
   obtain ⟨pa,xs,rfl,za,ra⟩:=qd.tupI
   cases qe.int
   cases rx
   obtain ⟨t,rfl⟩:=ry
   obtain ⟨its,r1,p1,_⟩:=I.tuple (SqT_of za)
   have e1:its.length=a.length:=by rw [← r1.length,ra.length]
   refine rep_tup p1 hl.1 hl.2.1 (by rw [e1]; exact hl.2.2) (fun c=>?_) fun c=>?_
   ·refine ⟨.ref pa,H,I,rfl,?_⟩
    have:(List.replicate k.toNat a).flatten=a:=by
     rcases c with c | c
     ·have:a=[]:=by rw [c] at e1; exact List.length_eq_zero_iff.mp e1.symm
      subst this; simp
     ·subst c; simp
    rw [this] at p'
    exact p'.ret (sameTup za ra) hS
   ·have hn:H s.heap.objs.size=none:=I.hok.fresh (Nat.le_refl _)
    refine ⟨.ref s.heap.objs.size,_,I.laid (t':=s.toks) (o:=.tup (List.replicate k.toNat xs).flatten) (fun b ob q=>Heap.get?_push_of_some _ q) (Nat.le_refl _) ?_,rfl,p'.at (Ext.new hn) (RD.newTup hS hn (ra.rep _)) (hS.new hn)⟩
    exact ⟨by rw [len_rep,Nat.mul_comm,ra.length]; exact hl.2.2,_,r1.rep _,IsTup.new _ _⟩
  ·cases hz
 ·split at hz
  ·rename_i S' a k hl
   cases hz
   obtain ⟨pa,xs,rfl,za,ra⟩:=qd.lstI
   cases qe.int
   exact op_rep pins s σ H _ _ v u Q I rx ry ⟨pa,k,xs,rfl,rfl,za.1,hl.1,hl.2.1,by rw [ra.length]; exact hl.2.2,fun q hq=>p'.at (Ext.new hq) (RD.newLst hS hq (ra.rep _)) (hS.new hq)⟩
  ·cases hz
 ·cases hz
theorem se_ix {a b:Expr} {ma mb:EM} {pos:Pos} {f:Sto→D→D→Option D} (hr:IxR X (xO X.K E f)) (ha:SE X E a ma) (hb:SE X E b mb) (hs:PlainIx b:=by intro _ _; kernel_rfl):SE X E (.Subscript a b pos) (eOp f ma mb):=⟨
 pe_weak (pe_ix hr ha.out hb.out hs) fun s H Q zq=>ex6 zq fun w r S hr hS hp=>⟨w,r,S,hr,hS,hp.bind hS fun d S1 w1 H1 v x1 q1 s1 p1=>
  ⟨w1,r,S1,hr.ext x1,s1,p1.bind s1 fun e S2 w2 H2 u x2 q2 s2 p2=>⟨w2,S2,d,e,s2,RD.ext x2 d v q1,q2,p2⟩⟩⟩⟩
noncomputable def fLen:Sto→List D→Option D
 | _,[.str x]=>if x.length≤sizeLine then some (.int x.length) else none
 | _,[.dic x]=>some (.int x.length)
 | S,[d]=>match seqOf S d with
  | some a=>some (.int a.length)
  | none=>match d with
   | .ref n=>match S[n]? with
    | some (.dic kvs)=>some (.int kvs.length)
    | _=>none
   | _=>none
 | _,_=>none
theorem RDk.length {K:PySem.W.Frag} {w:Wd} {H:Hp}:∀ {ds:List (Sum Int Str × D)} {vs:List (Key × V)},RDk K w H ds vs→vs.length=ds.length
 | [],_,h=>by unfold RDk at h; rw [h]; rfl
 | (k,d) :: ds,_,h=>by
  unfold RDk at h
  obtain ⟨v,r,rfl,_,q⟩:=h
  simp [RDk.length q]
theorem xc_len:CallR X (.builtin "len") (xC X.K E fLen):=by
 rintro pins s σ H xs us Q I r ⟨w,S,ds,hS,qs,p⟩
 obtain ⟨z,hz,p'⟩:=p.of
 clear p
 unfold fLen at hz
 split at hz
 ·split at hz
  ·cases hz
   obtain ⟨v,rfl,q⟩:=qs.one_inv
   cases q.str
   exact call_len_str pins s σ H _ us Q I r ⟨_,rfl,by assumption,p'.ret RD.mkI hS⟩
  ·cases hz
 ·cases hz
  obtain ⟨v,rfl,q⟩:=qs.one_inv
  unfold RD at q
  obtain ⟨a,uu,rfl,z,rk⟩:=q
  exact call_lenD pins s σ H _ us Q I r ⟨_,_,rfl,z.1,by rw [rk.length]; exact p'.ret RD.mkI hS⟩
 ·obtain ⟨v,rfl,q⟩:=qs.one_inv
  split at hz
  ·rename_i a ha
   cases hz
   obtain ⟨pp,vs,rfl,sq,ra⟩:=seq_ok hS q ha
   exact call_len_seq pins s σ H _ us Q I r ⟨pp,vs,rfl,sq,by rw [ra.length]; exact p'.ret RD.mkI hS⟩
  ·split at hz
   ·split at hz
    ·rename_i n kvs hn
     cases hz
     obtain ⟨pp,rfl,hp⟩:=q.refI
     obtain ⟨p2,hp2,vs,hv,rk⟩:=hS.obj _ _ hn
     rw [hp] at hp2; cases hp2
     exact call_lenD pins s σ H _ us Q I r ⟨_,_,rfl,hv,by rw [rk.length]; exact p'.ret RD.mkI hS⟩
    ·cases hz
   ·cases hz
 ·cases hz
noncomputable def fAbs:Sto→List D→Option D
 | _,[.int i]=>some (.int (if i < 0 then -i else i))
 | _,_=>none
theorem xc_abs:CallR X (.builtin "abs") (xC X.K E fAbs):=by
 rintro pins s σ H xs us Q I r ⟨w,S,ds,hS,qs,p⟩
 obtain ⟨z,hz,p'⟩:=p.of
 clear p
 unfold fAbs at hz
 split at hz
 ·cases hz
  obtain ⟨v,rfl,q⟩:=qs.one_inv
  cases q.int
  exact call_abs pins s σ H _ us Q I r ⟨_,rfl,p'.ret RD.mkI hS⟩
 ·cases hz
noncomputable def fMax:Sto→List D→Option D
 | _,[.int i,.int j]=>some (.int (if j > i then j else i))
 | _,_=>none
theorem xc_max (hc:X.calm=true):CallR X (.builtin "max") (xC X.K E fMax):=by
 rintro pins s σ H xs us Q I r ⟨w,S,ds,hS,qs,p⟩
 obtain ⟨z,hz,p'⟩:=p.of
 clear p
 unfold fMax at hz
 split at hz
 ·cases hz
  obtain ⟨v,u,rfl,q,q'⟩:=qs.two_inv
  cases q.int
  cases q'.int
  exact call_max2 hc pins s σ H _ us Q I r ⟨_,_,rfl,p'.ret RD.mkI hS⟩
 ·cases hz
noncomputable def fMin:Sto→List D→Option D
 | _,[.int i,.int j]=>some (.int (if j < i then j else i))
 | _,_=>none
theorem xc_min (hc:X.calm=true):CallR X (.builtin "min") (xC X.K E fMin):=by
 rintro pins s σ H xs us Q I r ⟨w,S,ds,hS,qs,p⟩
 obtain ⟨z,hz,p'⟩:=p.of
 clear p
 unfold fMin at hz
 split at hz
 ·cases hz
  obtain ⟨v,u,rfl,q,q'⟩:=qs.two_inv
  cases q.int
  cases q'.int
  exact call_min2 hc pins s σ H _ us Q I r ⟨_,_,rfl,p'.ret RD.mkI hS⟩
 ·cases hz
noncomputable def fDivmod:Sto→List D→Option D
 | _,[.int i,.int j]=>if 0 < j∧j < 1073741824 then some (.tup [.int (i / j),.int (i % j)]) else none
 | _,_=>none
theorem xc_divmod:CallR X (.builtin "divmod") (xC X.K E fDivmod):=by
 rintro pins s σ H xs us Q I r ⟨w,S,ds,hS,qs,p⟩
 obtain ⟨z,hz,p'⟩:=p.of
 clear p
 unfold fDivmod at hz
 split at hz
 ·split at hz
  ·cases hz
   obtain ⟨v,u,rfl,q,q'⟩:=qs.two_inv
   cases q.int
   cases q'.int
   exact call_divmod pins s σ H _ us Q I r ⟨_,_,rfl,by assumption,fun t ht=>p'.at (Ext.new ht) (RD.newTup hS ht (.cons RD.mkI (.cons RD.mkI .nil))) (hS.new ht)⟩
  ·cases hz
 ·cases hz
noncomputable def fInt:Sto→List D→Option D
 | _,[.int i]=>some (.int i)
 | _,[.bl b]=>some (.int (if b then 1 else 0))
 | _,_=>none
theorem xc_int:CallR X (.type "int") (xC X.K E fInt):=by
 rintro pins s σ H xs us Q I r ⟨w,S,ds,hS,qs,p⟩
 obtain ⟨z,hz,p'⟩:=p.of
 clear p
 unfold fInt at hz
 split at hz
 ·cases hz
  obtain ⟨v,rfl,q⟩:=qs.one_inv
  cases q.int
  exact call_int1 pins s σ H _ us Q I r (.inl ⟨_,rfl,p'.ret RD.mkI hS⟩)
 ·cases hz
  obtain ⟨v,rfl,q⟩:=qs.one_inv
  cases q.bl
  exact call_int1 pins s σ H _ us Q I r (.inr ⟨_,rfl,p'.ret RD.mkI hS⟩)
 ·cases hz
noncomputable def fTuple:Sto→List D→Option D
 | _,[.tup a]=>some (.tup a)
 | S,[d]=>(seqOf S d).map .tup
 | _,_=>none
theorem xc_tuple:CallR X (.type "tuple") (xC X.K E fTuple):=by
 rintro pins s σ H xs us Q I r ⟨w,S,ds,hS,qs,p⟩
 obtain ⟨z,hz,p'⟩:=p.of
 clear p
 unfold fTuple at hz
 split at hz
 ·cases hz
  obtain ⟨v,rfl,q⟩:=qs.one_inv
  obtain ⟨pa,vs,rfl,za,ra⟩:=q.tupI
  exact call_tuple_of pins s σ H _ us Q I r ⟨pa,vs,rfl,.inr ⟨SqT_of za,p'.ret (sameTup za ra) hS⟩⟩
 ·rename_i d hd
  obtain ⟨v,rfl,q⟩:=qs.one_inv
  cases ha:seqOf S d with
  | none=>rw [ha] at hz; cases hz
  | some a=>
   rw [ha] at hz
   cases hz
   have hq:∃ pa vs,v=.ref pa∧SqL X.K H pa vs∧RDs X.K w H a vs:=by
    unfold seqOf at ha
    split at ha
    ·exact (hd _ rfl).elim
    ·cases ha; obtain ⟨p,vs,e,z,r⟩:=q.lstI; exact ⟨p,vs,e,SqL.of z.1,r⟩
    ·cases ha; obtain ⟨p,vs,e,z,r⟩:=q.fzI; exact ⟨p,vs,e,z.sq,r⟩
    ·split at ha
     ·rename_i n b hn
      cases ha
      obtain ⟨p,e,hp⟩:=q.refI
      obtain ⟨p2,hp2,vs,hv,rk⟩:=hS.obj _ _ hn
      rw [hp] at hp2; cases hp2
      exact ⟨p,vs,e,SqL.of hv,rk⟩
     ·rename_i n b hn
      cases ha
      obtain ⟨p,e,hp⟩:=q.refI
      obtain ⟨p2,hp2,o,vs,hv,rk⟩:=hS.obj _ _ hn
      rw [hp] at hp2; cases hp2
      exact ⟨p,vs,e,.inl (.inr ⟨o,hv⟩),rk⟩
     ·cases ha
    ·cases ha
   obtain ⟨pa,vs,rfl,sq,ra⟩:=hq
   exact call_tuple_of pins s σ H _ us Q I r ⟨pa,vs,rfl,.inl ⟨sq,fun t ht=>p'.at (Ext.new ht) (RD.newTup hS ht ra) (hS.new ht)⟩⟩
 ·cases hz
noncomputable def fList:Sto→List D→Option D
 | S,[d]=>(seqOf S d).map .lst
 | _,_=>none
theorem xc_list:CallR X (.type "list") (xC X.K E fList):=by
 rintro pins s σ H xs us Q I r ⟨w,S,ds,hS,qs,p⟩
 obtain ⟨z,hz,p'⟩:=p.of
 clear p
 unfold fList at hz
 split at hz
 ·rename_i d
  obtain ⟨v,rfl,q⟩:=qs.one_inv
  cases ha:seqOf S d with
  | none=>rw [ha] at hz; cases hz
  | some a=>
   rw [ha] at hz
   cases hz
   obtain ⟨pa,vs,rfl,sq,ra⟩:=seq_ok hS q ha
   exact call_list_of pins s σ H _ us Q I r ⟨pa,vs,rfl,sq,fun t ht=>p'.at (Ext.new ht) (RD.newLst hS ht ra) (hS.new ht)⟩
 ·cases hz
end
end PD
namespace PD
open PySem PySem.Spec PyProof.Rows L2
section
variable {X:Cx} {E:XK}
noncomputable def boolsOf:List D→Option (List Bool)
 | []=>some []
 | .bl b :: r=>(boolsOf r).map (b :: ·)
 | _ :: _=>none
noncomputable def fAll:Sto→List D→Option D
 | _,[.lst a]=>(boolsOf a).map fun bs=>.bl (bs.all id)
 | _,_=>none
theorem bools_ok {K:PySem.W.Frag} {w:Wd} {H:Hp}:∀ {ds:List D} {vs:List V} {us:List Value} {bs:List Bool},RDs K w H ds vs→Vals vs us→boolsOf ds=some bs→LSm.BoolsAre us bs
 | [],_,_,_,q,r,h=>by
  rw [q.nil_inv] at r
  cases r
  unfold boolsOf at h
  cases h
  exact .nil
 | d :: ds,_,_,bs,q,r,h=>by
  obtain ⟨v,vs,rfl,p,t⟩:=q.cons_inv
  cases d with
  | bl b=>
   unfold boolsOf at h
   cases e:boolsOf ds with
   | none=>rw [e] at h; cases h
   | some cs=>
    rw [e] at h; cases h
    cases p.bl
    cases r with
    | cons r1 r2=>
     cases r1
     exact .cons b (bools_ok t r2 e)
  | _=>unfold boolsOf at h; cases h
theorem xc_all (hc:X.calm=true):CallR X (.builtin "all") (xC X.K E fAll):=by
 rintro pins s σ H xs us Q I r ⟨w,S,ds,hS,qs,p⟩
 obtain ⟨z,hz,p'⟩:=p.of
 clear p
 unfold fAll at hz
 split at hz
 ·rename_i a
  cases e:boolsOf a with
  | none=>rw [e] at hz; cases hz
  | some bs=>
   rw [e] at hz; cases hz
   obtain ⟨v,rfl,q⟩:=qs.one_inv
   obtain ⟨pa,vs,rfl,za,ra⟩:=q.lstI
   obtain ⟨u,rfl,ru⟩:=vals1 r
   cases ru
   obtain ⟨its,r1,⟨o,n,ho,hcl,hdn,hd⟩,_⟩:=I.list (SqL.of za.1)
   have hb:=bools_ok ra r1 e
   have hlt:pa < s.heap.objs.size:=Heap.lt_size ho
   have hl:s.heap.IsList pa its.toArray:=⟨o,ho,hcl,n,hd⟩
   refine call_all_walk (wpAny_pyIter_list hl ?_)
   refine ⟨s.heap.objs.size,[s.heap.objs.size,pa],[s.heap.objs.size],its.toArray.size,_,_,fun i=>(bs[i]?).getD true,rfl,Walks.list (A:=X.A.in1) (I.ok.hd hc) _ pa (Nat.ne_of_lt hlt) its.toArray,
    ⟨⟨_,Heap.get?_push_size _ rfl,rfl,rfl⟩,hl.push _⟩,fun i v s' Q' E' hP hQ=>?_,fun h' tk hk=>?_⟩
   ·obtain ⟨b,e,rfl⟩:=hb.get i v (by simpa using hP)
    simp only [e,Option.getD_some] at hQ
    exact wpAny_truthy_bool hQ
   ·have e:((List.range its.toArray.size).all fun i=>(bs[i]?).getD true)=bs.all id:=by
     rw [List.size_toArray,hb.length]; exact LSm.range_all bs
    rw [e]
    exact ⟨.bl _,H,I.kept (LSm.kept_iter hk),rfl,p'.ret RD.mkB hS⟩
 ·cases hz
noncomputable def tyD (S:Sto):D→Option String
 | .non=>some "NoneType"
 | .bl _=>some "bool"
 | .int _=>some "int"
 | .str _=>some "str"
 | .tup _=>some "tuple"
 | .lst _=>some "list"
 | .fz _=>none
 | .dic _=>some "dict"
 | .ref n=>match S[n]? with
  | some (.lst _)=>some "list"
  | some (.dic _)=>some "dict"
  | _=>none
 | .ty _=>none
 | .exc _=>none
 | .cls _=>none
noncomputable def isiTys:List String:=["int","bool","tuple","str","list","dict"]
noncomputable def fIsi:Sto→List D→Option D
 | S,[d,.ty T]=>match tyD S d with
  | some t=>if T ∈ isiTys then some (.bl (t == T || (t == "bool" && T == "int"))) else none
  | none=>none
 | _,_=>none
theorem kit_ok (K:PySem.W.Frag) {t T:String} (ht:t ∈ ["NoneType","bool","int","str","tuple","list","dict"]) (hT:T ∈ isiTys):PySem.W.kitOne K (.type t) (.type T)=some (t == T || (t == "bool" && T == "int")):=by
 unfold isiTys at hT
 simp only [List.mem_cons,List.not_mem_nil,or_false] at ht hT
 rcases ht with rfl | rfl | rfl | rfl | rfl | rfl | rfl <;> rcases hT with rfl | rfl | rfl | rfl | rfl | rfl <;> first | rfl | (with_unfolding_all rfl) | (unfold PySem.W.kitOne PySem.W.kitCls; with_unfolding_all decide)
theorem tyOf_ok {K:PySem.W.Frag} {w:Wd} {H:Hp} {S:Sto} {d:D} {v:V} {t:String} (hS:RS K w H S) (q:RD K w H d v) (h:tyD S d=some t) (hk:∀ a vs,¬ KTup K a vs ∨ True):
  (L2.TyOf K H v (.type t) ∨ ∃ a vs,v=.ref a∧t = "tuple"∧KTup K a vs)∧t ∈ ["NoneType","bool","int","str","tuple","list","dict"]:=by
 cases d with
 | non=>cases q.non; cases h; exact ⟨.inl .non,by simp⟩
 | bl b=>cases q.bl; cases h; exact ⟨.inl (.bl b),by simp⟩
 | int i=>cases q.int; cases h; exact ⟨.inl (.int i),by simp⟩
 | str x=>cases q.str; cases h; exact ⟨.inl (.str x),by simp⟩
 | tup ds=>
  obtain ⟨p,vs,rfl,z,_⟩:=q.tupI
  cases h
  refine ⟨?_,by simp⟩
  rcases z with z | z
  ·exact .inl (.tup z.1)
  ·exact .inr ⟨p,vs,rfl,rfl,z⟩
 | lst ds=>obtain ⟨p,vs,rfl,z,_⟩:=q.lstI; cases h; exact ⟨.inl (.lst z.1),by simp⟩
 | fz ds=>cases h
 | dic kvs=>unfold RD at q; obtain ⟨p,us,rfl,z,_⟩:=q; cases h; exact ⟨.inl (.dK z.1),by simp⟩
 | ref n=>
  obtain ⟨p,rfl,hp⟩:=q.refI
  unfold tyD at h
  simp only at h
  cases e:S[n]? with
  | none=>rw [e] at h; cases h
  | some o=>
   rw [e] at h
   obtain ⟨p',hp',r⟩:=hS.obj n o e
   rw [hp] at hp'; cases hp'
   cases o with
   | lst a=>cases h; obtain ⟨vs,hv,_⟩:=r; exact ⟨.inl (.lst hv),by simp⟩
   | dic a=>cases h; obtain ⟨vs,hv,_⟩:=r; exact ⟨.inl (.dK hv),by simp⟩
   | fdic a=>cases h
   | ins c fs=>cases h
   | flst a=>cases h
 | ty n=>cases h
 | exc c=>cases h
 | cls c=>cases h
theorem xc_isi:CallR X (.builtin "isinstance") (xC X.K E fIsi):=by
 rintro pins s σ H xs us Q I r ⟨w,S,ds,hS,qs,p⟩
 obtain ⟨z,hz,p'⟩:=p.of
 clear p
 unfold fIsi at hz
 split at hz
 ·rename_i d T
  split at hz
  ·rename_i t ht
   split at hz
   ·rename_i hT
    cases hz
    obtain ⟨v,u,rfl,q,q'⟩:=qs.two_inv
    unfold RD at q'
    subst q'
    obtain ⟨v1,v2,rfl,rv,rt⟩:=vals2 r
    cases (show v2=Value.type T from rt)
    obtain ⟨ty,hm⟩:=tyOf_ok hS q ht fun _ _=>.inr trivial
    have kk:=kit_ok X.K hm hT
    rcases ty with ty | ⟨a,vs,rfl,rfl,kt⟩
    ·exact isinst_ok I rv ty kk fun tk=>⟨.bl _,H,I.tok tk,rfl,p'.ret RD.mkB hS⟩
    ·cases (show v1=Value.ref a from rv)
     obtain ⟨o,its,n,e,hcl,_⟩:=kt
     exact PySem.W.kia_one PySem.W.kitx_tuple I.kIn ⟨o,I.kIn _ _ e,hcl⟩ kk (fun z=>nomatch z) fun tk=>⟨.bl _,H,I.tok tk,rfl,p'.ret RD.mkB hS⟩
   ·cases hz
  ·cases hz
 ·cases hz
noncomputable def fPut:Sto→D→D→D→Option Sto
 | S,.ref n,.int i,v=>match S[n]? with
  | some (.lst a)=>(ixN a.length i).map fun j=>S.set n (.lst (a.set j v))
  | _=>none
 | _,_,_,_=>none
theorem xs_put:PSet X (xS X.K fPut):=by
 rintro pins s σ H o i v ov iv u Q I ro ri ru ⟨w,S,x,y,z,S',hS,qx,qy,qz,hf,k⟩
 unfold fPut at hf
 split at hf
 ·rename_i n j
  split at hf
  ·rename_i a hn
   cases e:ixN a.length j with
   | none=>rw [e] at hf; cases hf
   | some m=>
    rw [e] at hf; cases hf
    obtain ⟨p,rfl,hp⟩:=qx.refI
    cases qy.int
    obtain ⟨p',hp',vs,hv,ra⟩:=hS.obj _ _ hn
    rw [hp] at hp'; cases hp'
    have hm:p ∈ w.st:=List.mem_of_getElem? hp
    refine set_list pins s σ H _ _ _ ov iv u Q I ro ri ru ⟨p,vs,j,m,rfl,rfl,hv,by rw [ra.length]; exact e,k w _ (Ext.mut hm hv) ?_⟩
    exact hS.mut hp hv ⟨_,upd_same,RDs.ext (Ext.mut hm hv) _ _ (RDs.set qz m ra)⟩
  ·cases hf
 ·cases hf
noncomputable def xM (K:PySem.W.Frag) (E:XK) (f:Sto→D→List D→R D):V→List V→Hp→VK→Prop:=fun x xs H Q=>∃ w S d ds,RS K w H S∧RD K w H d x∧RDs K w H ds xs∧Post K E (RD K) w H (f S d ds) Q
noncomputable def isL (S:Sto):D→Bool
 | .lst _=>true
 | .fz _=>true
 | .ref n=>match S[n]? with
  | some (.lst _)=>true
  | _=>false
 | _=>false
theorem isL_ok {K:PySem.W.Frag} {w:Wd} {H:Hp} {S:Sto} {d:D} {v:V} (hS:RS K w H S) (q:RD K w H d v) (h:isL S d=true):tyV K "list" v H:=by
 cases d with
 | lst ds=>obtain ⟨p,vs,rfl,z,_⟩:=q.lstI; exact .inl ⟨rfl,vs,SqL.of z.1⟩
 | fz ds=>obtain ⟨p,vs,rfl,z,_⟩:=q.fzI; exact .inl ⟨rfl,vs,z.sq⟩
 | ref n=>
  obtain ⟨p,rfl,hp⟩:=q.refI
  unfold isL at h
  simp only at h
  cases e:S[n]? with
  | none=>rw [e] at h; cases h
  | some o=>
   rw [e] at h
   cases o with
   | lst a=>
    obtain ⟨p',hp',vs,hv,_⟩:=hS.obj n _ e
    rw [hp] at hp'; cases hp'
    exact .inl ⟨rfl,vs,SqL.of hv⟩
   | _=>cases h
 | _=>cases h
noncomputable def eMtL (f:Sto→D→List D→R D) (o:EM) (t:AM):EM:=fun r S=>(o r S).bind fun x S1=>if isL S1 x=true then (t r S1).bind fun ys S2=>f S2 x ys else .bad
theorem se_mtL {o e:Expr} {es:List Expr} {mo:EM} {ms:AM} {name:Str} {apos cpos:Pos} {id:String} {f:Sto→D→List D→R D} (pa:PlainAttrs "list") (slot:Slot "list" name id) (hty:typeOf (.builtin id)=pure (.type "method_descriptor")) (hm:MtR X id (xM X.K E f))
  (ho:SE X E o mo) (ha:SA X E (e :: es) ms) (hbase:autoParam (attributeBase o name X.env (eval o X.env)=eval o X.env) Au.h0._auto_1)
  (hfew:autoParam (((backTo cpos (starEach (e :: es) X.env)).all (fun x=>!x.1) && (backToKw cpos (keywordEach [] X.env)).all (fun x=>x.1.isSome)
   && decide ((e :: es).length + ([]:List Keyword).length + (if ([]:List Keyword).isEmpty then 0 else 1) < 30))=true) Au.h0._auto_1)
  (hline:autoParam ((apos.endLine == cpos.line)=true) Au.h0._auto_1) (hs:autoParam (starEach (e :: es) X.env=(false,eval e X.env) :: starEach es X.env) Au.h0._auto_1) (hplain:autoParam ((backTo cpos (starEach es X.env)).any (·.1)=false) Au.h0._auto_1):
  SE X E (.Call (.Attribute o name apos) (e :: es) [] cpos) (eMtL f mo ms):=⟨
 pe_weak (pe_bm pa slot hty hm ho.out ha.out hbase hfew hline hs hplain) fun s H Q zq=>ex6 zq fun w r S hr hS hp=>⟨w,r,S,hr,hS,hp.bind hS fun d S1 w1 H1 v x1 q1 s1 p1=>by
  by_cases hl:isL S1 d=true
  ·rw [if_pos hl] at p1
   exact ⟨isL_ok s1 q1 hl,w1,r,S1,hr.ext x1,s1,p1.bind s1 fun ds S2 w2 H2 us x2 q2 s2 p2=>⟨w2,S2,d,ds,s2,RD.ext x2 _ _ q1,q2,p2⟩⟩
  ·rw [if_neg hl] at p1
   exact p1.elim⟩⟩
noncomputable def mAppend:Sto→D→List D→R D
 | S,.ref n,[v]=>match S[n]? with
  | some (.lst a)=>if a.length < sizeLine then .ok .non (S.set n (.lst (a ++ [v]))) else .bad
  | _=>.bad
 | _,_,_=>.bad
theorem xm_append:MtR X "list.append" (xM X.K E mAppend):=by
 rintro pins s σ H x xs v us Q I rx rs ⟨w,S,d,ds,hS,qd,qs,p⟩
 unfold mAppend at p
 split at p
 ·rename_i n y
  split at p
  ·rename_i a hn
   split at p
   ·rename_i hl
    obtain ⟨pp,rfl,hp⟩:=qd.refI
    obtain ⟨yv,rfl,qy⟩:=qs.one_inv
    obtain ⟨p',hp',vs,hv,ra⟩:=hS.obj _ _ hn
    rw [hp] at hp'; cases hp'
    have hm:pp ∈ w.st:=List.mem_of_getElem? hp
    refine mt_append pins s σ H _ _ v us Q I rx rs ⟨pp,vs,yv,rfl,rfl,hv,by rw [ra.length]; exact hl,p.at (Ext.mut hm hv) (by unfold RD; rfl) ?_⟩
    exact hS.mut hp hv ⟨_,upd_same,RDs.ext (Ext.mut hm hv) _ _ (ra.append (.cons qy .nil))⟩
   ·exact p.elim
  ·exact p.elim
 ·exact p.elim
end
end PD
namespace PD
open PySem PySem.Spec PyProof.Rows L2
noncomputable def keyPy:Sum Int Str→PyData
 | .inl i=>.int i
 | .inr x=>.str x
mutual
noncomputable def toPy:D→Option PyData
 | .non=>some .none
 | .bl b=>some (.bool b)
 | .int i=>some (.int i)
 | .str x=>some (.str x)
 | .tup ds=>(toPys ds).map .tuple
 | .lst ds=>(toPys ds).map .list
 | .dic kvs=>(toPyk kvs).map .dict
 | .fz _=>none
 | .ref _=>none
 | .ty _=>none
 | .exc _=>none
 | .cls _=>none
noncomputable def toPys:List D→Option (List PyData)
 | []=>some []
 | d :: ds=>match toPy d,toPys ds with
  | some p,some q=>some (p :: q)
  | _,_=>none
noncomputable def toPyk:List (Sum Int Str × D)→Option (List (PyData × PyData))
 | []=>some []
 | (k,d) :: r=>match toPy d,toPyk r with
  | some p,some q=>some ((keyPy k,p) :: q)
  | _,_=>none
end
mutual
noncomputable def noL:D→Bool
 | .tup ds=>noLs ds
 | .lst _=>false
 | .dic kvs=>noLk kvs
 | _=>true
noncomputable def noLs:List D→Bool
 | []=>true
 | d :: ds=>noL d && noLs ds
noncomputable def noLk:List (Sum Int Str × D)→Bool
 | []=>true
 | (_,d) :: r=>noL d && noLk r
end
section
variable {X:Cx} {E:XK}
mutual
theorem reads_ok {pins:List (Addr × Obj)} {σ:L2.St} {H:Hp} {s:Shared} {w:Wd} (I:Inv X pins σ H s):∀ (d:D) (v:V) (u:Value) (p:PyData),RD X.K w H d v→RelV v u→toPy d=some p→∃ as,Reads s.heap u p as∧(noL d=true→sysModules ∉ as)
 | .non,v,u,p,q,r,h=>by cases q.non; cases (show u=Value.none from r); unfold toPy at h; cases h; exact ⟨_,.none,fun _ z=>nomatch z⟩
 | .bl b,v,u,p,q,r,h=>by cases q.bl; cases (show u=Value.bool b from r); unfold toPy at h; cases h; exact ⟨_,.bool b,fun _ z=>nomatch z⟩
 | .int i,v,u,p,q,r,h=>by cases q.int; obtain ⟨t,rfl⟩:=(show ∃ t,u=Value.int i t from r); unfold toPy at h; cases h; exact ⟨_,.int i t,fun _ z=>nomatch z⟩
 | .str x,v,u,p,q,r,h=>by cases q.str; obtain ⟨t,rfl⟩:=(show ∃ t,u=Value.str x t from r); unfold toPy at h; cases h; exact ⟨_,.str x t,fun _ z=>nomatch z⟩
 | .tup ds,v,u,p,q,r,h=>by
  obtain ⟨a,vs,rfl,z,rs⟩:=q.tupI
  cases (show u=Value.ref a from r)
  unfold toPy at h
  cases e:toPys ds with
  | none=>rw [e] at h; cases h
  | some ps=>
   rw [e] at h; cases h
   obtain ⟨its,r1,⟨o,ho,hc,n,hd⟩,_⟩:=I.tuple (SqT_of z)
   obtain ⟨as,ra,hn⟩:=readss_ok I ds vs its ps rs r1 e
   exact ⟨as,.tuple ho hc hd ra,fun z=>hn (by unfold noL at z; exact z)⟩
 | .lst ds,v,u,p,q,r,h=>by
  obtain ⟨a,vs,rfl,z,rs⟩:=q.lstI
  cases (show u=Value.ref a from r)
  unfold toPy at h
  cases e:toPys ds with
  | none=>rw [e] at h; cases h
  | some ps=>
   rw [e] at h; cases h
   obtain ⟨its,r1,⟨o,n,ho,hc,_,hd⟩,_⟩:=I.list (SqL.of z.1)
   obtain ⟨as,ra,hn⟩:=readss_ok I ds vs its ps rs r1 e
   exact ⟨a :: as,.list ho hc hd ra,fun z=>by unfold noL at z; cases z⟩
 | .dic kvs,v,u,p,q,r,h=>by
  unfold RD at q
  obtain ⟨a,us,rfl,z,rk⟩:=q
  cases (show u=Value.ref a from r)
  unfold toPy at h
  cases e:toPyk kvs with
  | none=>rw [e] at h; cases h
  | some ps=>
   rw [e] at h; cases h
   obtain ⟨_,hsys,vs,kv,o,es,ep,ho,hex,hd,_,hp,_⟩:=(show ObjOk X.prog X.w H s.heap a (.dK us) from I.hok a _ z.1)
   obtain ⟨as,bs,ra,rb,hn⟩:=readsk_ok I kvs us vs es.toList ps rk kv hp e
   refine ⟨a :: as ++ bs,.dict ho hex.1 hd ra rb,fun z=>?_⟩
   unfold noL at z
   intro hm
   rcases List.mem_append.mp hm with hm | hm
   ·rcases List.mem_cons.mp hm with hm | hm
    ·rw [← hm] at hsys; simp at hsys
    ·exact (hn z).1 hm
   ·exact (hn z).2 hm
 | .fz _,_,_,_,_,_,h=>by unfold toPy at h; cases h
 | .ref _,_,_,_,_,_,h=>by unfold toPy at h; cases h
 | .ty _,_,_,_,_,_,h=>by unfold toPy at h; cases h
 | .exc _,_,_,_,_,_,h=>by unfold toPy at h; cases h
 | .cls _,_,_,_,_,_,h=>by unfold toPy at h; cases h
theorem readss_ok {pins:List (Addr × Obj)} {σ:L2.St} {H:Hp} {s:Shared} {w:Wd} (I:Inv X pins σ H s):∀ (ds:List D) (vs:List V) (us:List Value) (ps:List PyData),RDs X.K w H ds vs→Vals vs us→toPys ds=some ps→∃ as,ReadsAll s.heap us ps as∧(noLs ds=true→sysModules ∉ as)
 | [],vs,us,ps,q,r,h=>by
  rw [q.nil_inv] at r
  cases r
  unfold toPys at h
  cases h
  exact ⟨_,.nil,fun _ z=>nomatch z⟩
 | d :: ds,_,us,ps,q,r,h=>by
  obtain ⟨v,vs,rfl,p,t⟩:=q.cons_inv
  unfold toPys at h
  cases e1:toPy d with
  | none=>rw [e1] at h; cases h
  | some p1=>
   cases e2:toPys ds with
   | none=>rw [e1,e2] at h; cases h
   | some p2=>
    rw [e1,e2] at h; cases h
    cases r with
    | cons r1 r2=>
     obtain ⟨as,ra,h1⟩:=reads_ok I d v _ p1 p r1 e1
     obtain ⟨bs,rb,h2⟩:=readss_ok I ds vs _ p2 t r2 e2
     refine ⟨as ++ bs,.cons ra rb,fun z=>?_⟩
     unfold noLs at z
     rw [Bool.and_eq_true] at z
     intro hm
     rcases List.mem_append.mp hm with hm | hm
     ·exact h1 z.1 hm
     ·exact h2 z.2 hm
theorem readsk_ok {pins:List (Addr × Obj)} {σ:L2.St} {H:Hp} {s:Shared} {w:Wd} (I:Inv X pins σ H s):∀ (ds:List (Sum Int Str × D)) (us:List (Key × V)) (vs:List (Key × Value)) (es:List DictEntry) (ps:List (PyData × PyData)),RDk X.K w H ds us→KV us vs→Pairs (mixKind X.prog X.w) es vs→toPyk ds=some ps→
  ∃ as bs,ReadsAll s.heap (es.map (·.key)) (ps.map (·.1)) as∧ReadsAll s.heap (es.map (·.val)) (ps.map (·.2)) bs∧(noLk ds=true→sysModules ∉ as∧sysModules ∉ bs)
 | [],us,vs,es,ps,q,r,hp,h=>by
  unfold RDk at q
  subst q
  cases r
  unfold toPyk at h
  cases h
  cases hp
  exact ⟨_,_,.nil,.nil,fun _=>⟨(fun z=>nomatch z),(fun z=>nomatch z)⟩⟩
 | (k,d) :: ds,us,vs,es,ps,q,r,hp,h=>by
  unfold RDk at q
  obtain ⟨v,ur,rfl,p,t⟩:=q
  unfold toPyk at h
  cases e1:toPy d with
  | none=>rw [e1] at h; cases h
  | some p1=>
   cases e2:toPyk ds with
   | none=>rw [e1,e2] at h; cases h
   | some p2=>
    rw [e1,e2] at h; cases h
    cases r with
    | cons r1 r2=>
     cases hp with
     | cons hk hv hr=>
      rename_i q0 vr e0 es0
      obtain ⟨k',v'⟩:=q0
      obtain ⟨ek,rv⟩:=r1
      have ek':k=k':=ek
      subst ek'
      obtain ⟨as,ra,h1⟩:=reads_ok I d v _ p1 p rv e1
      obtain ⟨as2,bs2,ra2,rb2,h2⟩:=readsk_ok I ds ur vr es0 p2 t r2 hr e2
      have hkey:∃ cs,Reads s.heap e0.key (keyPy k) cs∧cs=[]:=by
       rcases keyIs_shape hk with ⟨i,tk,z1,z2⟩ | ⟨x,tk,z1,z2⟩
       ·have z1':k=Sum.inl i:=z1
        subst z1'
        rw [z2]
        exact ⟨_,.int i tk,rfl⟩
       ·have z1':k=Sum.inr x:=z1
        subst z1'
        rw [z2]
        exact ⟨_,.str x tk,rfl⟩
      obtain ⟨cs,rc,ec⟩:=hkey
      subst ec
      have hv':e0.val=v':=hv
      refine ⟨[] ++ as2,as ++ bs2,.cons rc ra2,.cons (by show Reads s.heap e0.val p1 as; rw [hv']; exact ra) rb2,fun z=>?_⟩
      unfold noLk at z
      rw [Bool.and_eq_true] at z
      refine ⟨by rw [List.nil_append]; exact (h2 z.2).1,fun hm=>?_⟩
      rcases List.mem_append.mp hm with hm | hm
      ·exact h1 z.1 hm
      ·exact (h2 z.2).2 hm
end
end
end PD
namespace PD
open PySem PySem.Spec PyProof.Rows L2
section
variable {K:PySem.W.Frag} {w:Wd} {H:Hp}
structure Mv (w:Wd) (H:Hp) (w2:Wd) (H2:Hp):Prop where
 st:∀ (n:Nat) (a:Addr),w.st[n]?=some a→w2.st[n]?=some a
 at_:∀ a o,At w H a o→At w2 H2 a o
mutual
theorem RD.mv {w2:Wd} {H2:Hp} (x:Mv w H w2 H2):∀ (d:D) (v:V),RD K w H d v→RD K w2 H2 d v
 | .non,_,h=>h
 | .bl _,_,h=>h
 | .int _,_,h=>h
 | .str _,_,h=>h
 | .tup ds,v,h=>by
  unfold RD at h ⊢
  obtain ⟨a,vs,e,p,r⟩:=h
  exact ⟨a,vs,e,p.imp (x.at_ _ _) id,RDs.mv x ds vs r⟩
 | .lst ds,v,h=>by
  unfold RD at h ⊢
  obtain ⟨a,vs,e,p,r⟩:=h
  exact ⟨a,vs,e,x.at_ _ _ p,RDs.mv x ds vs r⟩
 | .fz ds,v,h=>by
  unfold RD at h ⊢
  obtain ⟨a,vs,e,p,r⟩:=h
  exact ⟨a,vs,e,p.imp (fun ⟨o,z⟩=>⟨o,x.at_ _ _ z⟩) id,RDs.mv x ds vs r⟩
 | .dic kvs,v,h=>by
  unfold RD at h ⊢
  obtain ⟨a,us,e,p,r⟩:=h
  exact ⟨a,us,e,x.at_ _ _ p,RDk.mv x kvs us r⟩
 | .ref n,v,h=>by
  unfold RD at h ⊢
  obtain ⟨a,e,p⟩:=h
  exact ⟨a,e,x.st n a p⟩
 | .ty _,_,h=>h
 | .exc c,v,h=>by
  unfold RD at h ⊢
  obtain ⟨a,C,o,e,q,p⟩:=h
  exact ⟨a,C,o,e,q,x.at_ _ _ p⟩
 | .cls _,_,h=>h
theorem RDs.mv {w2:Wd} {H2:Hp} (x:Mv w H w2 H2):∀ (ds:List D) (vs:List V),RDs K w H ds vs→RDs K w2 H2 ds vs
 | [],_,h=>h
 | d :: ds,vs,h=>by
  unfold RDs at h ⊢
  obtain ⟨v,r,e,p,q⟩:=h
  exact ⟨v,r,e,RD.mv x d v p,RDs.mv x ds r q⟩
theorem RDk.mv {w2:Wd} {H2:Hp} (x:Mv w H w2 H2):∀ (ds:List (Sum Int Str × D)) (vs:List (Key × V)),RDk K w H ds vs→RDk K w2 H2 ds vs
 | [],_,h=>h
 | (k,d) :: ds,vs,h=>by
  unfold RDk at h ⊢
  obtain ⟨v,r,e,p,q⟩:=h
  exact ⟨v,r,e,RD.mv x d v p,RDk.mv x ds r q⟩
end
theorem RO.mv {w2:Wd} {H2:Hp} (x:Mv w H w2 H2) {a:Addr} {o:SO} (hk:∀ u,H a=some u→H2 a=some u) (r:RO K w H a o):RO K w2 H2 a o:=by
 cases o with
 | lst ds=>obtain ⟨vs,e,q⟩:=r; exact ⟨vs,hk _ e,RDs.mv x _ _ q⟩
 | dic kvs=>obtain ⟨vs,e,q⟩:=r; exact ⟨vs,hk _ e,RDk.mv x _ _ q⟩
 | fdic kvs=>obtain ⟨o,vs,e,q⟩:=r; exact ⟨o,vs,hk _ e,RDk.mv x _ _ q⟩
 | ins c fs=>obtain ⟨C,dx,us,n,e,q1,q2⟩:=r; exact ⟨C,dx,us,n,hk _ e,q1,RDs.mv x _ _ q2⟩
 | flst ds=>obtain ⟨o,vs,e,q⟩:=r; exact ⟨o,vs,hk _ e,RDs.mv x _ _ q⟩
theorem RSt.mv {w2:Wd} {H2:Hp} {r:Rho} {s:L2.St} (x:Mv w H w2 H2) (h:RSt K w H r s):RSt K w2 H2 r s:=
 ⟨h.1,fun i d e=>let ⟨v,e1,q⟩:=h.2 i d e; ⟨v,e1,RD.mv x d v q⟩⟩
theorem Ext.hide {p:Addr} {o:HO} (hp:H p=none):Ext w H (w.hide p) (upd H p o):=
 ⟨fun a u e _=>by rw [upd_ne (ne_of_none e hp)]; exact e,⟨[],by simp [Wd.hide],fun _ z=>nomatch z⟩,fun a h=>List.mem_cons_of_mem _ h,fun a h=>(List.mem_cons.mp h).elim (fun e=>.inr (e ▸ hp)) .inl,fun a o u e=>by rw [upd_ne (ne_of_none e hp)]; exact e⟩
noncomputable def Wd.unhide (w:Wd) (p:Addr):Wd:=⟨w.st,w.hid.filter fun a=>decide (a ≠ p)⟩
theorem Wd.mem_unhide {p a:Addr} (h:a ∈ (w.unhide p).hid):a ∈ w.hid∧a ≠ p:=⟨(List.mem_filter.mp h).1,of_decide_eq_true (List.mem_filter.mp h).2⟩
theorem Mv.write {p:Addr} {o:HO} (hp:p ∈ w.hid):Mv w H w (upd H p o):=
 ⟨fun _ _ z=>z,fun a u h=>⟨by rw [upd_ne (fun z:a=p=>h.2.2 (z ▸ hp))]; exact h.1,h.2⟩⟩
theorem Mv.unhide {p:Addr}:Mv w H (w.unhide p) H:=
 ⟨fun _ _ z=>z,fun a u h=>⟨h.1,h.2.1,fun z=>h.2.2 (Wd.mem_unhide z).1⟩⟩
theorem RS.hide {p:Addr} {o:HO} {S:Sto} (s:RS K w H S) (hp:H p=none):RS K (w.hide p) (upd H p o) S:=by
 refine ⟨s.nd,s.len,fun n so e=>?_,fun a ha=>?_⟩
 ·obtain ⟨a,ha,r⟩:=s.obj n so e
  exact ⟨a,ha,r.ext (Ext.hide hp) fun u z=>by rw [upd_ne (ne_of_none z hp)]; exact z⟩
 ·rcases List.mem_cons.mp ha with z | z
  ·subst z; exact ⟨s.freshS hp,o,upd_same⟩
  ·obtain ⟨h1,u,e⟩:=s.hid a z
   exact ⟨h1,u,by rw [upd_ne (ne_of_none e hp)]; exact e⟩
theorem RS.write {p:Addr} {o:HO} {S:Sto} (s:RS K w H S) (hp:p ∈ w.hid):RS K w (upd H p o) S:=by
 have np:=(s.hid p hp).1
 refine ⟨s.nd,s.len,fun n so e=>?_,fun a ha=>?_⟩
 ·obtain ⟨a,ha,r⟩:=s.obj n so e
  have:a ≠ p:=fun z=>np (z ▸ List.mem_of_getElem? ha)
  exact ⟨a,ha,r.mv (Mv.write hp) fun u z=>by rw [upd_ne this]; exact z⟩
 ·obtain ⟨h1,u,e⟩:=s.hid a ha
  by_cases z:a=p
  ·subst z; exact ⟨h1,o,upd_same⟩
  ·exact ⟨h1,u,by rw [upd_ne z]; exact e⟩
theorem RS.unhide {p:Addr} {S:Sto} (s:RS K w H S):RS K (w.unhide p) H S:=
 ⟨s.nd,s.len,fun n so e=>by
  obtain ⟨a,ha,r⟩:=s.obj n so e
  exact ⟨a,ha,r.mv Mv.unhide fun u z=>z⟩,fun a ha=>s.hid a (Wd.mem_unhide ha).1⟩
theorem cap_rel {r:Rho} {s:L2.St} (k:Nat) (caps:List Nat) (h:RSt K w H r s):RSt K w H (capOf k caps r) (capSt k caps s):=by
 unfold capOf capSt
 refine ⟨by simp,fun i d e=>?_⟩
 by_cases hi:i < k
 ·rw [List.getElem?_append_left (by simpa using hi),List.getElem?_replicate] at e
  split at e <;> cases e
 ·rw [List.getElem?_append_right (by simpa using hi),List.getElem?_map,List.length_replicate] at e
  rw [List.getElem?_append_right (by simpa using hi),List.getElem?_map,List.length_replicate]
  cases ec:caps[i - k]? with
  | none=>rw [ec] at e; cases e
  | some j=>
   rw [ec] at e
   have e':(r[j]?).join=some d:=Option.some.inj e
   have hj:r[j]?=some (some d):=by
    cases q:r[j]? with
    | none=>rw [q] at e'; cases e'
    | some o=>rw [q] at e'; rw [show o=some d from e']
   obtain ⟨v,ev,rv⟩:=h.2 j d hj
   exact ⟨v,by show some ((s[j]?).join)=some (some v); rw [ev]; rfl,rv⟩
end
noncomputable abbrev SIf (X:Cx) (E:XK) (ifs:List Expr) (m:TM):Prop:=Bx (PIfs X ifs (uT X.K E m))
theorem sif_nil {X:Cx} {E:XK}:SIf X E [] tTrue:=⟨fun pins s σ H Q I zq=>ex6 zq fun w r S hr hS hp=>pifs_nil pins s σ H Q I (hp.ret rfl hS)⟩
theorem se_compQ {qb:Bool} {X:Cx} {E:XK} {elt tg iter:Expr} {ifs:List Expr} {scope:Scope} {pos:Pos} {N:List Str} {k:Nat} {caps:List Nat} {it:AM} {g:G} {mt:TM} {me:EM} (hX:Cd qb X) (hxe:∀ e s,¬ X.xe e s) (C:CompScope X N k caps scope)
  (hi:SIb qb X E tg iter it) (hg:∀ cl s0 H0 ex,Cd qb (cxC X N scope cl s0 H0 ex)→SG (cxC X N scope cl s0 H0 ex) tg g) (ht:∀ cl s0 H0 ex,Cd qb (cxC X N scope cl s0 H0 ex)→SIf (cxC X N scope cl s0 H0 ex) E ifs mt) (he:∀ cl s0 H0 ex,Cd qb (cxC X N scope cl s0 H0 ex)→SE (cxC X N scope cl s0 H0 ex) E elt me)
  (hs:autoParam (∀ x,foldedSetIterable iter X.env x=pure x) Au.h4._auto_1):SE X E (.ListComp elt [⟨tg,iter,ifs,0⟩] scope pos) (eComp it k caps g mt me):=⟨
 pe_weak (pe_compQ hX hxe C hi.out (g:=uG X.K g) (fun cl s0 H0 ex z=>(hg cl s0 H0 ex z).out) (tt:=uT X.K E mt) (fun cl s0 H0 ex z=>(ht cl s0 H0 ex z).out) (te:=uE X.K E me) (fun cl s0 H0 ex z=>(he cl s0 H0 ex z).out) hs) fun s H Q zq=>ex6 zq fun w r S hr hS hp=>⟨w,r,S,hr,hS,hp.bind hS fun ds S1 w1 H1 J x1 q1 s1 p1=>by
  intro p hp
  have hr1:=hr.ext x1
  have pno:p ∉ w1.hid:=(s1.fresh hp).2
  have hz:ds.length≤sizeLine:=by
   rcases Nat.lt_or_ge sizeLine ds.length with z | z
   ·rw [if_neg (by omega)] at p1; exact p1.elim
   ·exact z
  rw [if_pos hz] at p1
  -- the list is made at p,which is hidden
  refine ⟨fun i n s' H'=>n=ds.length - i∧i≤ds.length∧∃ w' r' S' ys vs,Ext w1 H1 w' H'∧p ∈ w'.hid∧RSt X.K w' H' r' s'∧RS X.K w' H' S'∧H' p=some (.lst vs)∧RDs X.K w' H' ys vs∧ys.length≤i∧
    Post X.K E (RD X.K) w1 H1 ((compL g mt me (ds.drop i) r' S').bind fun zs S2=>R.ok (.lst (ys ++ zs)) S2) Q,
   ⟨ds.length,by simp,Nat.zero_le _,w1.hide p,capOf k caps r,S1,[],[],Ext.hide hp,List.mem_cons_self,(cap_rel k caps hr1).ext (Ext.hide hp),s1.hide hp,upd_same,.nil,Nat.le_refl _,p1⟩,?_⟩
  rintro i n s2 H2 ⟨rfl,hi.out,w2,r2,S2,ys,vs,x2,hph,hr2,hS2,hpv,ry,hyl,hp2⟩
  have hpn:p ∉ w2.st:=(hS2.hid p hph).1
  by_cases hlt:i < ds.length
  ·obtain ⟨go,yld⟩:=(q1 i w2 H2 x2).1 hlt
   refine .inr ⟨go,fun s' H'=>∃ w' r' S' ys vs,Ext w1 H1 w' H'∧p ∈ w'.hid∧RSt X.K w' H' r' s'∧RS X.K w' H' S'∧H' p=some (.lst vs)∧RDs X.K w' H' ys vs∧ys.length≤i + 1∧
     Post X.K E (RD X.K) w1 H1 ((compL g mt me (ds.drop (i + 1)) r' S').bind fun zs S2=>R.ok (.lst (ys ++ zs)) S2) Q,
    fun s' H' hN=>⟨ds.length - (i + 1),by omega,rfl,hlt,hN⟩,fun x H3 hy=>?_⟩
   obtain ⟨gr,rd⟩:=yld x H3 hy
   obtain ⟨d,ed,qd⟩:=rd S2 hS2
   obtain ⟨x3,s3⟩:=grown_ok gr hS2
   have hdrop:ds.drop i=d :: ds.drop (i + 1):=by
    rw [List.drop_eq_getElem_cons hlt]
    rw [List.getElem?_eq_getElem hlt] at ed
    cases ed; rfl
   rw [hdrop] at hp2
   have hpv3:H3 p=some (.lst vs):=x3.keep _ _ hpv hpn
   have ry3:=RDs.ext x3 _ _ ry
   have x13:Ext w1 H1 w2 H3:=x2.trans' x3 s1 hS2
   unfold compL at hp2
   cases e:g.put d r2 with
   | none=>rw [e] at hp2; exact hp2.elim
   | some r3=>
    rw [e] at hp2
    refine ⟨w2,r2,d,r3,hr2.ext x3,qd,e,fun s4 hr4=>⟨w2,r3,S2,hr4,s3,?_⟩⟩
    -- hp2:(mt r3 S2).bind .. |>.bind ..
    have hass:∀ {A B C:Type} (r:R A) (f:A→Sto→R B) (h:B→Sto→R C),(r.bind f).bind h=r.bind fun a S=>(f a S).bind h:=fun r f h=>by cases r <;> rfl
    simp only [hass] at hp2
    refine Post.bindAt (rel:=RB) hp2 x13 s1 s3 fun c S5 w5 H5 c' x5 q5 s5 p5=>?_
    have ec:c'=c:=q5
    subst ec
    have x15:Ext w1 H1 w5 H5:=x13.trans' x5 s1 s3
    have hph5:p ∈ w5.hid:=x5.hid p hph
    have hpv5:H5 p=some (.lst vs):=x5.keep _ _ hpv3 hpn
    cases c' with
    | false=>
     refine iteF ⟨w5,r3,S5,ys,vs,x15,hph5,hr4.ext x5,s5,hpv5,RDs.ext x5 _ _ ry3,Nat.le_succ_of_le hyl,p5⟩
    | true=>
     refine iteT ⟨w5,r3,S5,hr4.ext x5,s5,?_⟩
     have p5':Post X.K E (RD X.K) w1 H1 (((me r3 S5).bind fun y S2=>(compL g mt me (ds.drop (i + 1)) r3 S2).bind fun ys S3=>R.ok (y :: ys) S3).bind fun zs S2=>R.ok (D.lst (ys ++ zs)) S2) Q:=p5
     simp only [hass] at p5'
     refine Post.bindAt (rel:=RD X.K) p5' x15 s1 s5 fun y S6 w6 H6 yv x6 q6 s6 p6=>?_
     have x16:Ext w1 H1 w6 H6:=x15.trans' x6 s1 s5
     have hph6:p ∈ w6.hid:=x6.hid p hph5
     have hpn5:p ∉ w5.st:=(s5.hid p hph5).1
     have hpn6:p ∉ w6.st:=(s6.hid p hph6).1
     have hpv6:H6 p=some (.lst vs):=x6.keep _ _ hpv5 hpn5
     have ry6:=RDs.ext x6 _ _ (RDs.ext x5 _ _ ry3)
     refine ⟨vs,hpv6,by rw [ry6.length]; omega,w6,r3,S6,ys ++ [y],vs ++ [yv],⟨fun a o h n=>?_,x16.sub,x16.hid,x16.hnew,fun a o u h=>by have z:=x16.frz a o u h; rw [upd_ne (fun e:a=p=>by rw [e,hpv6] at z; cases z)]; exact z⟩,hph6,(hr4.ext x5).ext x6 |>.mv (Mv.write hph6),s6.write hph6,upd_same,(RDs.mv (Mv.write hph6) _ _ ry6).append (.cons (RD.mv (Mv.write hph6) _ _ q6) .nil),by simp; omega,?_⟩
     ·have:a ≠ p:=ne_of_none h hp
      rw [upd_ne this]; exact x16.keep a o h n
     ·have he2:∀ zs:List D,(ys ++ [y]) ++ zs=ys ++ y :: zs:=fun zs=>by simp
      simp only [he2]
      exact p6
  ·have e:i=ds.length:=by omega
   subst e
   rw [List.drop_length] at hp2
   refine .inl ⟨(q1 _ w2 H2 x2).2 (Nat.le_refl _),?_⟩
   have hp3:Post X.K E (RD X.K) w1 H1 (R.ok (D.lst (ys ++ [])) S2) Q:=hp2
   rw [List.append_nil] at hp3
   refine Post.at hp3 (w1:=w2.unhide p) ⟨x2.keep,x2.sub,fun a h=>List.mem_filter.mpr ⟨x2.hid a h,decide_eq_true fun z=>pno (z ▸ h)⟩,fun a h=>x2.hnew a (Wd.mem_unhide h).1,x2.frz⟩ ?_ hS2.unhide
   unfold RD
   exact ⟨p,vs,rfl,⟨hpv,hpn,fun z=>(Wd.mem_unhide z).2 rfl⟩,RDs.mv Mv.unhide _ _ ry⟩⟩⟩
theorem se_comp {X:Cx} {E:XK} {elt tg iter:Expr} {ifs:List Expr} {scope:Scope} {pos:Pos} {N:List Str} {k:Nat} {caps:List Nat} {it:AM} {g:G} {mt:TM} {me:EM} (hX:X.calm=true) (hxe:∀ e s,¬ X.xe e s) (C:CompScope X N k caps scope)
  (hi:SI X E tg iter it) (hg:∀ cl s0 H0 ex,SG (cxC X N scope cl s0 H0 ex) tg g) (ht:∀ cl s0 H0 ex,SIf (cxC X N scope cl s0 H0 ex) E ifs mt) (he:∀ cl s0 H0 ex,SE (cxC X N scope cl s0 H0 ex) E elt me)
  (hs:autoParam (∀ x,foldedSetIterable iter X.env x=pure x) Au.h4._auto_1):SE X E (.ListComp elt [⟨tg,iter,ifs,0⟩] scope pos) (eComp it k caps g mt me):=se_compQ (qb:=false) (.inl hX) hxe C hi (fun a b c d _=>hg a b c d) (fun a b c d _=>ht a b c d) (fun a b c d _=>he a b c d) hs
end PD
namespace PD
open PySem PySem.Spec PyProof.Rows L2
noncomputable abbrev KD:=Sum Int Str
noncomputable def keyD:D→Option KD
 | .int i=>some (.inl i)
 | .str x=>some (.inr x)
 | _=>none
noncomputable def putD (kvs:List (KD × D)) (k:KD) (d:D):List (KD × D):=
 if kvs.any (fun kv=>decide (kv.1=k)) then kvs.map (fun kv=>if kv.1=k then (kv.1,d) else kv) else kvs ++ [(k,d)]
noncomputable def mergeD (kvs more:List (KD × D)):List (KD × D):=more.foldl (fun acc kv=>putD acc kv.1 kv.2) kvs
noncomputable def keysD:List (D × D)→Option (List (KD × D))
 | []=>some []
 | (k,v) :: r=>match keyD k,keysD r with
  | some k',some r'=>some ((k',v) :: r')
  | _,_=>none
noncomputable def pM:List (EM × EM)→Rho→Sto→R (List (D × D))
 | [],_,S=>.ok [] S
 | (a,b) :: t,r,S=>(a r S).bind fun x S1=>(b r S1).bind fun y S2=>(pM t r S2).bind fun ps S3=>.ok ((x,y) :: ps) S3
noncomputable def eDic (ms:List (EM × EM)):EM:=fun r S=>(pM ms r S).bind fun ps S1=>match keysD ps with
 | some kvs=>if kvs.length≤15 then .ok (.dic (mergeD [] kvs)) S1 else .bad
 | none=>.bad
section
variable {K:PySem.W.Frag} {w:Wd} {H:Hp}
theorem RDk.nil:RDk K w H [] []:=by unfold RDk; rfl
end
section
variable {X:Cx} {E:XK} {pos:Pos}
end
end PD
namespace PD
open PySem PySem.Spec PyProof.Rows L2
noncomputable def ALen (m:AM) (n:Nat):Prop:=∀ r S ds S',m r S=.ok ds S'→ds.length=n
theorem alen_nil:ALen aNil 0:=fun r S ds S' h=>by unfold aNil at h; cases h; rfl
theorem alen_cons {a:EM} {t:AM} {n:Nat} (h:ALen t n):ALen (aCons a t) (n + 1):=fun r S ds S' e=>by
 unfold aCons at e
 cases e1:a r S with
 | bad=>rw [e1] at e; cases e
 | err x S1=>rw [e1] at e; cases e
 | ok d S1=>
  rw [e1] at e
  cases e2:t r S1 with
  | bad=>simp only [R.bind_ok,e2,R.bind_bad] at e; cases e
  | err x S2=>simp only [R.bind_ok,e2,R.bind_err] at e; cases e
  | ok es S2=>
   simp only [R.bind_ok,e2] at e
   cases e
   simp [h r S1 es _ e2]
section
variable {X:Cx} {E:XK}
theorem se_gi {x:Str} {i:Int} {pos:Pos} (hm:∃ t,X.mg x=some (.int i t)) (hg:Gl X x) (hd:autoParam ((x == ("__debug__":Str))=false) Au.h3._auto_1):SE X E (.Name x pos) (eC (.int i)):=by
 obtain ⟨t,e⟩:=hm
 exact se_gint hg e hd
end
section
variable {P:Program} {w:World} {K:PySem.W.Frag} {mg:Str→Option Value} {base:Heap}
end
noncomputable def capsOk (N0 N:List Str) (k:Nat) (scope:Scope):List Nat→Nat→Bool
 | [],_=>true
 | i :: r,t=>(match N0[i]?,N[k + t]? with
  | some x,some y=>x == y && scope.names.lookup x == some .free
  | _,_=>false) && capsOk N0 N k scope r (t + 1)
theorem capsOk_get {N0 N:List Str} {k:Nat} {scope:Scope}:∀ {caps:List Nat} {t0:Nat},capsOk N0 N k scope caps t0=true→∀ (t i:Nat),caps[t]?=some i→∃ x,N0[i]?=some x∧N[k + (t0 + t)]?=some x∧scope.names.lookup x=some .free
 | [],_,_,_,_,h=>by simp at h
 | j :: r,t0,h,t,i,e=>by
  unfold capsOk at h
  rw [Bool.and_eq_true] at h
  cases t with
  | zero=>
   simp at e
   subst e
   have h1:=h.1
   cases e1:N0[j]? with
   | none=>rw [e1] at h1; cases h1
   | some x=>
    cases e2:N[k + t0]? with
    | none=>rw [e1,e2] at h1; cases h1
    | some y=>
     rw [e1,e2] at h1
     simp only [Bool.and_eq_true] at h1
     have hxy:x=y:=eq_of_beq h1.1
     subst hxy
     exact ⟨x,rfl,by simpa using e2,eq_of_beq h1.2⟩
  | succ t=>
   obtain ⟨x,a,b,c⟩:=capsOk_get h.2 t i (by simpa using e)
   exact ⟨x,a,by rw [show t0 + (t + 1)=t0 + 1 + t by omega]; exact b,c⟩
theorem cs_mk {X:Cx} {N:List Str} {k:Nat} {caps:List Nat} {scope:Scope} (h1:scope.kind=.function) (h2:scope.names.all (fun x=>x.2 != .cell)=true) (h3:scope.names.all (fun x=>x.2 != .local || scope.names.lookup x.1 == some .local)=true)
  (h4:scope.names.all (fun x=>x.2 != .free || X.env.kindOf x.1 == some .cell || X.env.kindOf x.1 == some .free)=true) (h5:N.length=k + caps.length) (h6:capsOk X.N N k scope caps 0=true):CompScope X N k caps scope:=by
 refine ⟨h1,fun x hx z=>?_,fun x hx z=>?_,fun x hx z=>?_,h5,fun t i e=>?_⟩
 ·have:=List.all_eq_true.mp h2 x hx
  rw [z] at this; simp at this
 ·have:=List.all_eq_true.mp h3 x hx
  rw [z] at this
  simpa using this
 ·have:=List.all_eq_true.mp h4 x hx
  rw [z] at this
  simpa using this
 ·obtain ⟨x,a,b,c⟩:=capsOk_get h6 t i e
  exact ⟨x,a,by simpa using b,c⟩
theorem law_sp {f:FM} (h:∀ ns:List Int,ns.length≤63→∃ S,f [.fz (ns.map .int)] []=.ok (.bl true) S) (K:PySem.W.Frag) (H:Hp) (a:Addr) (ns:List Int) (hn:ns.length≤63) (ho:Only H) (hs:SqL K H a (ns.map V.int)):
  spM K 1 f [.ref a] H (fun v _=>v=.bl true) fun _ _ _=>False:=by
 obtain ⟨S,e⟩:=h ns hn
 have hfz:FzAt K ⟨[],[]⟩ H a (ns.map V.int):=by
  rcases hs with (hs | ⟨o,hs⟩) | hs
  ·rcases ho a with z | ⟨o,xs,z⟩
   ·rw [z] at hs; cases hs
   ·rw [z] at hs; cases hs
  ·exact .inl ⟨o,hs,(fun z=>nomatch z),(fun z=>nomatch z)⟩
  ·exact .inr hs
 have hints:∀ l:List Int,RDs K ⟨[],[]⟩ H (l.map D.int) (l.map V.int):=fun l=>by
  induction l with
  | nil=>exact .nil
  | cons i l ih=>exact .cons RD.mkI ih
 refine ⟨rfl,⟨[],[]⟩,[],[.fz (ns.map .int)],⟨List.nodup_nil,rfl,fun n o z=>?_,(fun a z=>nomatch z)⟩,.cons (by unfold RD; exact ⟨a,_,rfl,hfz,hints ns⟩) .nil,?_⟩
 ·simp at z
 ·rw [e]
  intro w' H' b x q s
  unfold RD at q
  exact q
end PD
namespace PD
open PySem L2
theorem oMul_i {S:Sto} {i j:Int} (h:smallI i ∨ smallI j):oMul S (.int i) (.int j)=some (.int (i * j)):=if_pos h
theorem oShl_i {S:Sto} {i:Nat} (h:i < 1000):oShl S (.int 1) (.int i)=some (.int (2 ^ i)):=by
 have:oShl S (.int 1) (.int i)=some (.int (1 * 2 ^ ((i:Int)).toNat)):=if_pos ⟨by omega,by omega,by decide⟩
 rw [this,Int.toNat_natCast,Int.one_mul]
theorem oPow_i {S:Sto} {i j:Int} (h:0≤j∧j≤1000000∧i.natAbs < 2 ^ 64):oPow S (.int i) (.int j)=some (.int (i ^ j.toNat)):=if_pos h
theorem oPow_10_12 {S:Sto}:oPow S (.int 10) (.int 12)=some (.int 1000000000000):=by
 rw [oPow_i ⟨by decide,by decide,by decide⟩]
 have e:(10:Int) ^ (12:Int).toNat=1000000000000:=by decide
 rw [e]
theorem oMul_t {S:Sto} {a:List D} {k:Int} (h:-(2 ^ 63)≤k∧k < 2 ^ 63∧a.length * k.toNat≤sizeLine):oMul S (.tup a) (.int k)=some (.tup (List.replicate k.toNat a).flatten):=if_pos h
theorem atI_nat' {A:Type} {xs:List A} {i:Nat} (h:i < xs.length):atI xs (i:Int)=some xs[i]:=atI_nat (List.getElem?_eq_getElem h)
end PD
namespace PD
open PySem PyProof.Rows L2
end PD
namespace L2
open PySem PySem.Spec PyProof.Rows
noncomputable def Fly (l:List Env) (H':Hp) (h hs:Heap) (ea:Addr) (cls:Value):Prop:=
 ∃ (B:Heap) (a0:Value),Heap.FlyingW B l ea cls a0 hs∧(∀ b o,h.get? b=some o→b ∉ frs l→∃ o',B.get? b=some o')∧(∀ b u,H' b=some u→∃ o',B.get? b=some o')∧hs.Zat ea
noncomputable def CX1 (P:Program) (w:World):CXT:=fun outer H s E e s'=>
 ∃ ea cls H',e=.ref ea∧s'.os=s.os∧AllBare s'.gens∧Un (frs outer) [] H H' s.heap s'.heap∧HOk P w H' s'.heap∧Fly outer H' s.heap s'.heap ea cls∧E cls none H'
section
variable {P:Program} {w:World} {fs:List Addr} {H H':Hp} {h h1 h2 B:Heap} {l:List Env}
theorem ObjOk.thereO {a:Addr} {o:HO} (x:ObjOk P w H h a o):∃ ob,h.get? a=some ob:=by
 cases o with
 | lst xs=>obtain ⟨_,_,_,_,e⟩:=x; exact ⟨_,e⟩
 | tup xs=>obtain ⟨_,_,_,ob,e,_⟩:=x; exact ⟨_,e⟩
 | dK kvs=>obtain ⟨_,_,_,_,ob,_,_,e,_⟩:=x; exact ⟨_,e⟩
 | dT kvs=>obtain ⟨_,_,_,_,ob,_,_,e,_⟩:=x; exact ⟨_,e⟩
 | set S n=>obtain ⟨ob,_,_,_,e,_⟩:=x; exact ⟨_,e⟩
 | ins C dx fs=>obtain ⟨_,_,_,e,_⟩:=x; exact ⟨_,e⟩
 | own y=>exact x
 | xd fs=>obtain ⟨_,⟨_,_,_,e,_⟩,_⟩:=x; exact ⟨_,e⟩
 | rng lo hi=>obtain ⟨_,_,_,e⟩:=x; exact ⟨_,e⟩
 | frz ob u=>obtain ⟨e,_⟩:=x; exact ⟨_,e⟩
 | tbl ps=>exact ⟨_,x⟩
 | met f y=>exact ⟨_,x⟩
 | ext φ=>exact x.2.1
theorem Un.fly (u:Un fs [] H H' h h1) (b1:B.StaysIn h1) (b2:B.StaysIn h2) (old:∀ b o,h.get? b=some o→b ∉ fs→∃ o',B.get? b=some o') (up:h1.UpToSlots h2)
  (fr:∀ b ∈ fs,∀ o,h1.get? b=some o→∀ vs,o.data ≠ .fields vs):Un fs [] H H' h h2 where
 keep:=fun b o e n nf nx=>by
  obtain ⟨o',e'⟩:=old b o e nf
  have q:=b1 b o' e'
  rw [u.keep b o e n nf nx] at q
  cases q
  exact b2 b o e'
 slot:=fun b o e n hb nx=>by
  obtain ⟨sl,q⟩:=u.slot b o e n hb nx
  obtain ⟨sl',q'⟩:=up b _ q (fr b hb _ q)
  exact ⟨sl',q'⟩
 free:=u.free
 there:=fun b o e nx=>by
  by_cases hb:b ∈ fs
  ·obtain ⟨o1,q⟩:=u.there b o e nx
   obtain ⟨sl,q'⟩:=up b o1 q (fr b hb o1 q)
   exact ⟨_,q'⟩
  ·obtain ⟨o',e'⟩:=old b o e hb
   exact ⟨o',b2 b o' e'⟩
 tups:=u.tups
 frzs:=u.frzs
 tbls:=u.tbls
theorem HOk.fly (k:HOk P w H' h1) (b1:B.StaysIn h1) (b2:B.StaysIn h2) (tr:∀ b u,H' b=some u→∃ o',B.get? b=some o'):HOk P w H' h2:=fun a o e=>
 (k a o e).stay (fun b u hb q=>by
  have:∃ v,H' b=some v:=hb.elim (fun z=>⟨o,z ▸ e⟩) fun z=>⟨_,z⟩
  obtain ⟨v,hv⟩:=this
  obtain ⟨o',e'⟩:=tr b v hv
  have q':=b1 b o' e'
  rw [q] at q'
  cases q'
  exact b2 b u e') (fun _ z=>z) fun _ _ z=>z
theorem fly_frames {ea:Addr} {cls a0:Value} (f:Heap.FlyingW B l ea cls a0 h1):∀ b ∈ frs l,∀ o,h1.get? b=some o→∀ vs,o.data ≠ .fields vs:=fun b hb o e=>by
 obtain ⟨_,o',e',z⟩:=f.2.2.1.mem hb
 rw [e] at e'
 cases e'
 exact z
end
section
variable {X:Cx} {pins:List (Addr × Obj)} {σ:St} {H:Hp} {s s':Shared} {E:XK} {e:Value}
theorem Inv.old (I:Inv X pins σ H s) (hex:X.ex=[]) (hf:X.stack=X.env :: X.outer∧X.env.frame=some X.env.locals) {B:Heap} (hB:∀ b o,s.heap.get? b=some o→b ∉ frs X.stack→∃ o',B.get? b=some o'):
  ∀ b o,X.s₀.heap.get? b=some o→b ∉ X.fs→∃ o',B.get? b=some o':=fun b o q n=>by
 obtain ⟨o1,q1⟩:=I.base.there b o q (by rw [hex]; exact fun z=>nomatch z)
 refine hB b o1 q1 fun z=>?_
 rcases List.mem_cons.mp (I.stkSub b z) with z | z
 ·exact absurd (Nat.lt_of_lt_of_le (Heap.lt_size q) (z ▸ I.ok.above)) (Nat.lt_irrefl _)
 ·exact n z
theorem leave_on {E':Value→Shared→Prop} (I:Inv X pins σ H s) (hex:X.ex=[]) (hf:X.stack=X.env :: X.outer∧X.env.frame=some X.env.locals) (c:CX1 X.prog X.w X.stack H s E e s'):
  wpAny (model X.prog X.w) X.A («leaving» X.env e) (fun _ s''=>CX1 X.prog X.w X.outer X.H₀ X.s₀ E e s'') E' s':=by
 obtain ⟨ea,cls,H',rfl,os,bare,un,hok,⟨B,a0,fl,old,tr,zt⟩,hE⟩:=c
 have J:Inv X pins σ H' s':=I.call' os un hok bare (fun b z=>nomatch z)
 rw [hf.1] at fl
 refine leavesZ (by rw [I.ok.frames,hf.1]) hf.2 fl zt fun h' x1 x2 x3=>?_
 have hb:=J.base
 rw [hex] at hb
 have ol:=I.old hex hf old
 exact ⟨ea,cls,H',rfl,J.os,bare,Un.fly hb fl.1 x1.1 ol x2 (fun b hb=>fly_frames fl b (List.mem_filterMap.mpr (by
   obtain ⟨en,he,hfr⟩:=List.mem_filterMap.mp hb
   exact ⟨en,List.mem_cons_of_mem _ he,hfr⟩))),HOk.fly hok fl.1 x1.1 tr,⟨B,a0,x1,ol,tr,x3⟩,hE⟩
theorem leave_new {E':Value→Shared→Prop} {ea:Addr} {cls:Value} {args:List Value} {h':Heap} (I:Inv X pins σ H s) (hex:X.ex=[]) (hf:X.stack=X.env :: X.outer∧X.env.frame=some X.env.locals) (hx:Heap.MadeExcOf s.heap h' ea cls args)
  (hE:E cls none H):wpAny (model X.prog X.w) X.A («leaving» X.env (.ref ea)) (fun _ s''=>CX1 X.prog X.w X.outer X.H₀ X.s₀ E (.ref ea) s'') E' { s with heap:=h' }:=by
 have hin:∀ en ∈ X.stack,∀ a,en.frame=some a→a ∈ frs X.stack:=fun en he a ha=>List.mem_filterMap.mpr ⟨en,he,ha⟩
 have st:(PySem.W.hideAll s.heap (frs X.stack)).StaysIn s.heap:=fun b o q=>PySem.W.of_hideAll _ q
 have old:∀ b o,s.heap.get? b=some o→b ∉ frs X.stack→∃ o',(PySem.W.hideAll s.heap (frs X.stack)).get? b=some o':=fun b o q n=>⟨o,PySem.W.hideAll_get _ q n⟩
 have ff:=PySem.W.funFrames_hide I.stack hin
 have tr:∀ b u,H b=some u→∃ o',(PySem.W.hideAll s.heap (frs X.stack)).get? b=some o':=fun b u e=>by
  have hlt:=(I.hok b u e).lt
  obtain ⟨o,q⟩:∃ o,s.heap.get? b=some o:=(I.hok b u e).thereO
  exact old b o q fun z=>by rw [I.stkFree b z] at e; cases e
 have hfr:X.A.frames=some (X.env :: X.outer):=by rw [I.ok.frames,hf.1]
 rw [hf.1] at ff
 have ff':s.heap.FunFrames (PySem.W.hideAll s.heap (frs X.stack)) (X.env :: X.outer):=by rw [hf.1]; exact ff
 refine leavesMadeZ (s:={ s with heap:=h' }) hfr hf.2 st ff' hx fun h'' t x1 x4 zt=>?_
 have hb:=I.base
 rw [hex] at hb
 have ol:=I.old hex hf old
 have up:s.heap.UpToSlots h'':=(Heap.UpToSlots.of_keeps hx.keeps).trans x4
 refine ⟨ea,cls,H,rfl,I.os,I.bare,Un.fly hb st x1.1 ol up (fun b hb o q=>?_),HOk.fly I.hok st x1.1 tr,⟨_,_,x1,ol,tr,zt⟩,hE⟩
 obtain ⟨_,o',e',z⟩:=I.funs.mem hb
 rw [q] at e'
 cases e'
 exact z
end
end L2
namespace PD
open PySem PySem.Spec PyProof.Rows L2
section
variable {X:Cx} {E:XK}
theorem Post.nx {A B:Type} {K:PySem.W.Frag} {rel:Wd→Hp→A→B→Prop} {w:Wd} {H:Hp} {r:R A} {Q:B→Hp→Prop} (h:Post K E rel w H r.nx Q):Post K E0 rel w H r Q:=by
 cases r with
 | ok a S=>exact h
 | err x S=>exact h.elim
 | bad=>exact h
theorem se_nx {e:Expr} {m:EM} (h:SE X.nox E0 e m):SE X E e (eNx m):=⟨pe_weak h.out.nox fun s H Q zq=>ex6 zq fun w r S hr hS hp=>⟨w,r,S,hr,hS,hp.nx⟩⟩
theorem st_nx {e:Expr} {m:TM} (h:ST X.nox E0 e m):ST X E e (tNx m):=⟨pt_weak h.out.nox fun s H Q zq=>ex6 zq fun w r S hr hS hp=>⟨w,r,S,hr,hS,hp.nx⟩⟩
end
abbrev veMro:List Value:=[.type "ValueError",.type "Exception",.type "BaseException",.type "object"]
structure XC (K:PySem.W.Frag) (mg:Str→Option Value) (x:Str):Prop where
 ex:∃ C,mg x=some (.ref C)∧PySem.W.nsIn K mainGlobals x=some (some (.ref C))∧PySem.W.excIn K C veMro "ValueError.__new__" = true
theorem exc_obj {K:PySem.W.Frag} {h:Heap} {C:Addr} {bmB:List Value} {newId:String} (X:K.In h) (q:PySem.W.excIn K C bmB newId=true):
  ∃ bm N nm qn bs hdct sn sub ab col dd k0 k1 k2 k3 k5 mN,h.get? C=some (excClassObj nm qn C N bs bm hdct sn sub ab col dd k0 k1 k2 k3 k5 newId)∧h.Ns N mN∧mN "__init__" = none∧OwnTail h bmB bm:=by
 unfold PySem.W.excIn at q
 split at q
 next dd cd sl ho=>
  split at q
  next C' bm k0 k1 k2 k3 n k5 hm hs=>
   simp only [Bool.and_eq_true,beq_iff_eq,Bool.not_eq_true'] at q
   have g1:C'=C:=q.1.1.1.1.1
   have g2:n=newId:=q.1.1.1.1.2
   have g3:cd.hasDel=false:=q.1.1.1.2
   have ho':=X _ _ ho
   have e2:sl = #[k0,k1,k2,k3,some (.builtin n),k5]:=Array.ext' hs
   refine ⟨bm,cd.ns,cd.name,cd.qualname,cd.bases,cd.hasDict,cd.slotNames,cd.subclasses,cd.abstract,cd.collection,dd,k0,k1,k2,k3,k5,h.nsMap cd.ns,?_,.of_isNs (PySem.W.isNs_of_in X q.1.2),PySem.W.nsMap_none_of_in X q.1.2 q.2,PySem.W.tail_of_in X q.1.1.2⟩
   rw [ho',e2,← g2]
   have e3:cd={ name:=cd.name,bases:=cd.bases,mro:=.ref C :: bm,ns:=cd.ns,qualname:=cd.qualname,hasDict:=cd.hasDict,slotNames:=cd.slotNames,subclasses:=cd.subclasses,abstract:=cd.abstract,collection:=cd.collection,hasDel:=false }:=by
    rw [← g1,← hm,← g3]
   exact congrArg (fun z=>some ({ cls:=.type "type",dict:=dd,data:=.cls z,slots:=#[k0,k1,k2,k3,some (.builtin n),k5] }:Obj)) e3
  next=>cases q
 next=>cases q
noncomputable def Raises (X:Cx) (E:XK):Prop:=∀ (pins:List (Addr × Obj)) (σ:L2.St) (H:Hp) (s:Shared) (h':Heap) (ea:Addr) (cls:Value) (args:List Value),Inv X pins σ H s→Heap.MadeExcOf s.heap h' ea cls args→E cls none H→X.xe (.ref ea) { s with heap:=h' }
section
variable {X:Cx} {E:XK} {x:Str} {a:Expr} {es:List Expr} {ms:AM} {np cpos pos:Pos}
theorem ss_raise (hX:XC X.K X.mg x) (hR:Raises X E) (hh:X.A.handled=none) (hg:Gl X x) (ha:SA X E (a :: es) ms) (hdb:autoParam ((x == ("__debug__":Str))=false) Au.h3._auto_1)
  (he:autoParam (starEach (a :: es) X.env=(false,eval a X.env) :: starEach es X.env) Au.h0._auto_1) (hpl:autoParam ((backTo cpos (starEach es X.env)).any (·.1)=false) Au.h0._auto_1):
  SS X E (.Raise (some (.Call (.Name x np) (a :: es) [] cpos)) none pos) (sRaise x ms):=⟨by
 intro pins s σ H D I ⟨w,r,S,hr,hS,hp⟩
 obtain ⟨C,hm,hns,hq⟩:=hX.ex
 obtain ⟨tl,N,nm,q,bs,hdct,sn,sub,ab,col,dd,k0,k1,k2,k3,k5,mN,hC,hN,hni,T⟩:=exc_obj I.ok.mod.kin hq
 refine wpAny_Raise_call_subT (bm:=tl) (C:=C) (N:=N) (nm:=nm) (q:=q) (bs:=bs) (hdct:=hdct) (sn:=sn) (sub:=sub) (ab:=ab) (col:=col) (dd:=dd) (k0:=k0) (k1:=k1) (k2:=k2) (k3:=k3) (k5:=k5)
  PySem.F.excBase_ValueError (mN:=mN) (T.hasType PySem.F.excBase_ValueError.hasBase) hh (by rw [he]; show (false || (backTo cpos (starEach es X.env)).any (·.1))=false; rw [hpl]; rfl) hni (ld_glob I hg hm ⟨rfl,?_⟩ hdb)
 have h:=ha.out cpos pins s σ H (fun vs H1=>vs.length≤sizeLine∧E (.ref C) none H1) I ⟨w,r,S,hr,hS,hp.bind hS fun xs S1 w1 H1 vs x1 q1 s1 p1=>by
  by_cases hl:xs.length≤sizeLine
  ·rw [if_pos hl] at p1
   exact ⟨by rw [q1.length]; exact hl,p1 w1 H1 (.ref C) none (Ext.refl _ _) s1 hns⟩
  ·rw [if_neg hl] at p1; exact p1.elim⟩
 rw [he] at h ⊢
 refine Calls.evalArgs_plain (wpAny_mono h (fun us s₂ h₂=>?_) fun _ _ y=>y)
 obtain ⟨vs,H1,I1,rv,hl,hE⟩:=h₂
 exact ⟨rfl,by rw [← rv.length]; exact hl,I1.bk _ _ hC,hN.keeps I1.bk,T.keeps I1.bk,fun h' e hm=>hR pins σ H1 s₂ h' e _ _ I1 hm hE⟩⟩
end
section
variable {P:Program} {w:World} {K:PySem.W.Frag} {mg:Str→Option Value} {base:Heap} {N:List Str} {qual:Str} {scope:Scope} {f:Addr} {cdv:Value} {A:Around} {outer:List Env} {s:Shared} {H:Hp} {E:XK}
theorem passes_cx:Passes (CX1 P w) (cxOf (CX1 P w) P w K mg base N qual scope f cdv A outer s H E) E:=fun pins σ H' s' e s'' I c=>leave_on I rfl ⟨rfl,rfl⟩ c
theorem raises_cx:Raises (cxOf (CX1 P w) P w K mg base N qual scope f cdv A outer s H E) E:=fun pins σ H' s' h' ea cls args I hx hE=>leave_new I rfl ⟨rfl,rfl⟩ hx hE
theorem passes_no {X:Cx}:Passes (CX1 X.prog X.w) X E0:=fun _ _ _ _ _ _ _ zq=>by obtain ⟨_,_,_,_,_,_,_,_,_,z⟩:=zq; exact z.elim
end
noncomputable def spN (K:PySem.W.Frag) (n:Nat) (f:FM):Sp:=fun vs H Q _=>vs.length=n∧∃ w S ds,RS K w H S∧RDs K w H ds vs∧Post K E0 (RD K) w H (f ds S) Q
structure DefN (P:Program) (w:World) (K:PySem.W.Frag) (mg:Str→Option Value) (base:Heap) (x:Str) (k n:Nat) (f:FM):Prop where
 ex:∃ (fa:Addr) (fd:FuncData) (ps:List Str),mg x=some (.ref fa)∧PySem.W.keepIn K (.ref fa)=true∧Binds K fd ps []∧FnOk P w K mg base (CX1 P w) k fa fd ps (spN K n f)
structure DefR (P:Program) (w:World) (K:PySem.W.Frag) (mg:Str→Option Value) (base:Heap) (x:Str) (k n:Nat) (f:FM):Prop where
 ex:∃ (fa:Addr) (fd:FuncData) (ps:List Str),mg x=some (.ref fa)∧PySem.W.keepIn K (.ref fa)=true∧Binds K fd ps []∧FnOk P w K mg base (CX1 P w) k fa fd ps (spM K n f)
section
variable {X:Cx} {E:XK} {x:Str} {k n:Nat} {f:FM} {a:Expr} {es:List Expr} {ms:AM} {p pos:Pos}
theorem se_fnR (D:DefR X.prog X.w X.K X.mg X.base x k n f) (hx:Passes (CX1 X.prog X.w) X E) (hr:Room k X.A) (hg:Gl X x) (ha:SA X E (a :: es) ms) (hn:ALen ms n) (hdb:autoParam ((x == ("__debug__":Str))=false) Au.h3._auto_1)
  (he:autoParam (starEach (a :: es) X.env=(false,eval a X.env) :: starEach es X.env) Au.h0._auto_1) (hpl:autoParam ((backTo pos (starEach es X.env)).any (·.1)=false) Au.h0._auto_1):
  SE X E (.Call (.Name x p) (a :: es) [] pos) (eCall f ms):=by
 obtain ⟨fa,fd,ps,hm,hk,hb,F⟩:=D.ex
 exact se_call F hr hg hm hk hb hx ha hn hdb he hpl
theorem se_fnN (D:DefN X.prog X.w X.K X.mg X.base x k n f) (hr:Room k X.A) (hg:Gl X x) (ha:SA X E0 (a :: es) ms) (hn:ALen ms n) (hdb:autoParam ((x == ("__debug__":Str))=false) Au.h3._auto_1)
  (he:autoParam (starEach (a :: es) X.env=(false,eval a X.env) :: starEach es X.env) Au.h0._auto_1) (hpl:autoParam ((backTo pos (starEach es X.env)).any (·.1)=false) Au.h0._auto_1):
  SE X E0 (.Call (.Name x p) (a :: es) [] pos) (eCall f ms):=by
 obtain ⟨fa,fd,ps,hm,hk,hb,F⟩:=D.ex
 refine ⟨pe_weak (pe_call F hr hg hm hk hb (dvs:=[]) .nil passes_no ha.out hdb he hpl) fun s H Q zq=>?_⟩
 obtain ⟨w,r,S,hr,hS,hp⟩:=zq
 refine ⟨w,r,S,hr,hS,?_⟩
 have hp':Post X.K E0 (RD X.K) w H ((ms r S).bind fun xs S1=>f xs S1) Q:=hp
 cases e:ms r S with
 | bad=>rw [e] at hp'; exact hp'.elim
 | err y S'=>rw [e] at hp'; exact hp'
 | ok ds S'=>
  rw [e] at hp'
  intro w1 H1 vs x1 q1 s1
  rw [List.append_nil]
  exact ⟨by rw [q1.length]; exact hn r S ds S' e,w1,S',ds,s1,q1,Post.ext (r:=f ds S') hp' x1 hS s1⟩
end
section
variable {P:Program} {w:World} {K:PySem.W.Frag} {mg:Str→Option Value} {base:Heap}
theorem fn_okR {x qual:Str} {st:Stmt} {f:Addr} {fd:FuncData} {N ps:List Str} {k:Nat} {m:SM} (F:Fun K x qual st f fd) (S:FnScope N ps (defScope st))
  (hbody:∀ (cdv:Value) (A:Around) (outer:List Env) (s:Shared) (H:Hp) (E:XK),Room k (A.deeper (envOfC qual (defScope st) s.heap.objs.size f cdv))→
   SSs (cxOf (CX1 P w) P w K mg base N qual (defScope st) f cdv A outer s H E) E (defBody st) m):FnOk P w K mg base (CX1 P w) (k + 1) f fd ps (spM K ps.length (fnM N.length m)):=by
 obtain ⟨oc,od,kV,doc,pm,an,cdv,ct,osl,rfl,lk,hcd⟩:=F.ex
 refine fn_of lk hcd S (fun vs H Q E h=>h.1) fun A outer s H vs Q E hr h=>?_
 obtain ⟨hl,u,T,ds,hT,q,p⟩:=h
 refine ⟨_,(hbody cdv A outer s H E hr).out,u,_,T,start_rel q,hT,?_⟩
 refine Post.bind (rel:=RF K) p hT fun g S1 w1 H1 fv x1 q1 s1 p1=>?_
 cases g with
 | nx r=>obtain ⟨s',rfl,_⟩:=q1; have z:=Post.ret (Q:=Q) (rel:=RD K) (a:=D.non) (b:=V.non) p1 (by unfold RD; rfl) s1; exact z
 | rt d=>obtain ⟨v,rfl,q2⟩:=q1; have z:=Post.ret (Q:=Q) (rel:=RD K) (a:=d) (b:=v) p1 q2 s1; exact z
 | bk r=>exact p1.elim
 | ct r=>exact p1.elim
theorem fn_okN {x qual:Str} {st:Stmt} {f:Addr} {fd:FuncData} {N ps:List Str} {k:Nat} {m:SM} (F:Fun K x qual st f fd) (S:FnScope N ps (defScope st))
  (hbody:∀ (cdv:Value) (A:Around) (outer:List Env) (s:Shared) (H:Hp) (E:XK),Room k (A.deeper (envOfC qual (defScope st) s.heap.objs.size f cdv))→
   SSs (cxOf (CX1 P w) P w K mg base N qual (defScope st) f cdv A outer s H E).nox E0 (defBody st) m):FnOk P w K mg base (CX1 P w) (k + 1) f fd ps (spN K ps.length (fnM N.length m)):=by
 obtain ⟨oc,od,kV,doc,pm,an,cdv,ct,osl,rfl,lk,hcd⟩:=F.ex
 refine fn_of lk hcd S (fun vs H Q E h=>h.1) fun A outer s H vs Q E hr h=>?_
 obtain ⟨hl,u,T,ds,hT,q,p⟩:=h
 refine ⟨_,(hbody cdv A outer s H E hr).out.nox,u,_,T,start_rel q,hT,?_⟩
 refine Post.bind (rel:=RF K) p hT fun g S1 w1 H1 fv x1 q1 s1 p1=>?_
 cases g with
 | nx r=>obtain ⟨s',rfl,_⟩:=q1; have z:=Post.ret (Q:=Q) (rel:=RD K) (a:=D.non) (b:=V.non) p1 (by unfold RD; rfl) s1; exact z
 | rt d=>obtain ⟨v,rfl,q2⟩:=q1; have z:=Post.ret (Q:=Q) (rel:=RD K) (a:=d) (b:=v) p1 q2 s1; exact z
 | bk r=>exact p1.elim
 | ct r=>exact p1.elim
theorem def_ofR {x:Str} {st:Stmt} {f:Addr} {fd:FuncData} {m:SM} (N ps:List Str) (k k1 n0 n1:Nat) (hk:k1=k + 1) (h0:n0=ps.length) (h1:n1=N.length) (F:Fun K x x st f fd) (hm:mg x=some (.ref f)) (hb:Binds K fd ps []) (S:FnScope N ps (defScope st))
  (hbody:∀ (cdv:Value) (A:Around) (outer:List Env) (s:Shared) (H:Hp) (E:XK),Room k (A.deeper (envOfC x (defScope st) s.heap.objs.size f cdv))→
   SSs (cxOf (CX1 P w) P w K mg base N x (defScope st) f cdv A outer s H E) E (defBody st) m):DefR P w K mg base x k1 n0 (fnM n1 m):=by
 subst hk h0 h1
 exact ⟨f,fd,ps,hm,F.kp,hb,fn_okR F S hbody⟩
theorem def_ofN {x:Str} {st:Stmt} {f:Addr} {fd:FuncData} {m:SM} (N ps:List Str) (k k1 n0 n1:Nat) (hk:k1=k + 1) (h0:n0=ps.length) (h1:n1=N.length) (F:Fun K x x st f fd) (hm:mg x=some (.ref f)) (hb:Binds K fd ps []) (S:FnScope N ps (defScope st))
  (hbody:∀ (cdv:Value) (A:Around) (outer:List Env) (s:Shared) (H:Hp) (E:XK),Room k (A.deeper (envOfC x (defScope st) s.heap.objs.size f cdv))→
   SSs (cxOf (CX1 P w) P w K mg base N x (defScope st) f cdv A outer s H E).nox E0 (defBody st) m):DefN P w K mg base x k1 n0 (fnM n1 m):=by
 subst hk h0 h1
 exact ⟨f,fd,ps,hm,F.kp,hb,fn_okN F S hbody⟩
theorem law_ofN {x:Str} {st:Stmt} {f:Addr} {fd:FuncData} {m:SM} (N ps:List Str) (k k1 n0 n1:Nat) (hk:k1=k + 1) (h0:n0=ps.length) (h1:n1=N.length) (F:Fun K x x st f fd) (S:FnScope N ps (defScope st))
  (hbody:∀ (cdv:Value) (A:Around) (outer:List Env) (s:Shared) (H:Hp) (E:XK),Room k (A.deeper (envOfC x (defScope st) s.heap.objs.size f cdv))→
   SSs (cxOf (CX1 P w) P w K mg base N x (defScope st) f cdv A outer s H E).nox E0 (defBody st) m):FnOk P w K mg base (CX1 P w) k1 f fd ps (spN K n0 (fnM n1 m)):=by
 subst hk h0 h1
 exact fn_okN F S hbody
end
end PD
namespace L2
open PySem PySem.Spec PyProof.Rows
section
variable {X:Cx} {pins:List (Addr × Obj)} {σ:St} {H:Hp} {s:Shared}
noncomputable abbrev Cx.with (X:Cx) (p:List (Addr × Obj)) (W:Value→Shared→Prop):Cx:={ X with pn:=p,xe:=W }
noncomputable abbrev Cx.suite (X:Cx) (ea:Addr) (ho:HO):Cx:={ X with A:=X.A.mark (some (.ref ea)),calm:=false,xe:=fun _ _=>False,H₀:=upd X.H₀ ea ho }
theorem Cx.Ok.with {p:List (Addr × Obj)} {W:Value→Shared→Prop} (ok:X.Ok):(X.with p W).Ok:=⟨ok.mod,ok.kind,ok.glob,ok.blt,ok.above,ok.inj,ok.has,ok.cab,ok.hd,ok.frames,ok.stk,ok.exf,ok.bs,ok.bsz,ok.noex,ok.exfs,ok.funs,ok.frf⟩
theorem Cx.Ok.suite {ea:Addr} {ho:HO} (ok:X.Ok) (n0:X.s₀.heap.get? ea=none):(X.suite ea ho).Ok:=⟨ok.mod,ok.kind,ok.glob,ok.blt,ok.above,ok.inj,ok.has,ok.cab,(fun z=>by cases z),ok.frames,ok.stk,ok.exf,
 fun b o e=>⟨(ok.bs b o e).1,by
  have q:=(ok.bs b o e).1
  show upd X.H₀ ea ho b=none
  rw [upd_ne (fun z=>by rw [z,n0] at q; cases q)]
  exact (ok.bs b o e).2⟩,ok.bsz,ok.noex,ok.exfs,ok.funs,fun b hb=>by
  obtain ⟨_,o,q,_⟩:=ok.funs.mem hb
  show upd X.H₀ ea ho b=none
  rw [upd_ne (fun z=>by rw [z,n0] at q; cases q)]
  exact ok.frf b hb⟩
theorem Inv.with {W:Value→Shared→Prop} (I:Inv X pins σ H s):Inv (X.with (X.pn ++ pins) W) [] σ H s:=
 ⟨I.ok.with,I.os,I.bare,I.base,I.loc,I.cell,I.free,I.freeC,fun p hp=>I.pin p (by simpa using hp),I.hok,I.len⟩
theorem Inv.unwith {W:Value→Shared→Prop} {pins':List (Addr × Obj)} (ok:X.Ok) (I:Inv (X.with (X.pn ++ pins) W) pins' σ H s):Inv X pins σ H s:=
 ⟨ok,I.os,I.bare,I.base,I.loc,I.cell,I.free,I.freeC,fun p hp=>I.pin p (List.mem_append_left _ hp),I.hok,I.len⟩
theorem Inv.suite {ea:Addr} {o:Obj} {u:HO} (I:Inv X pins σ H s) (n0:X.s₀.heap.get? ea=none) (hH:H ea=some (.frz o u)):Inv (X.suite ea (.frz o u)) pins σ H s:=by
 have ne:∀ b q,X.s₀.heap.get? b=some q→b ≠ ea:=fun b q e z=>by rw [z,n0] at e; cases e
 have old:∀ b q,X.s₀.heap.get? b=some q→upd X.H₀ ea (.frz o u) b=none→X.H₀ b=none:=fun b q e n=>by rw [upd_ne (ne b q e)] at n; exact n
 refine ⟨I.ok.suite n0,I.os,I.bare,⟨fun b q e n=>I.base.keep b q e (old b q e n),fun b q e n=>I.base.slot b q e (old b q e n),fun b q e n=>I.base.free b q e (old b q e n),I.base.there,fun b xs e=>?_,fun b q v e=>?_,fun b ps e=>?_⟩,I.loc,I.cell,I.free,I.freeC,I.pin,I.hok,I.len⟩
 ·by_cases z:b=ea
  ·rw [z] at e; have e:upd X.H₀ ea (.frz o u) ea=_:=e; rw [upd_same] at e; cases e
  ·have e:upd X.H₀ ea (.frz o u) b=_:=e; rw [upd_ne z] at e; exact I.base.tups b xs e
 ·by_cases z:b=ea
  ·rw [z] at e ⊢; have e:upd X.H₀ ea (.frz o u) ea=_:=e; rw [upd_same] at e; rw [← e]; exact hH
  ·have e:upd X.H₀ ea (.frz o u) b=_:=e; rw [upd_ne z] at e; exact I.base.frzs b q v e
 ·by_cases z:b=ea
  ·rw [z] at e; have e:upd X.H₀ ea (.frz o u) ea=_:=e; rw [upd_same] at e; cases e
  ·have e:upd X.H₀ ea (.frz o u) b=_:=e; rw [upd_ne z] at e; exact I.base.tbls b ps e
theorem Inv.unsuite {ea:Addr} {ho:HO} (ok:X.Ok) (n0:X.s₀.heap.get? ea=none) (n1:∀ v,X.H₀ ea=some v→(∀ xs,v ≠ .tup xs)∧(∀ q w,v ≠ .frz q w)∧∀ ps,v ≠ .tbl ps) (I:Inv (X.suite ea ho) pins σ H s):Inv X pins σ H s:=by
 have ne:∀ b q,X.s₀.heap.get? b=some q→b ≠ ea:=fun b q e z=>by rw [z,n0] at e; cases e
 have new:∀ b q,X.s₀.heap.get? b=some q→X.H₀ b=none→upd X.H₀ ea ho b=none:=fun b q e n=>by rw [upd_ne (ne b q e)]; exact n
 refine ⟨ok,I.os,I.bare,⟨fun b q e n=>I.base.keep b q e (new b q e n),fun b q e n=>I.base.slot b q e (new b q e n),fun b q e n=>I.base.free b q e (new b q e n),I.base.there,fun b xs e=>I.base.tups b xs ?_,fun b q v e=>I.base.frzs b q v ?_,fun b ps e=>I.base.tbls b ps ?_⟩,I.loc,I.cell,I.free,I.freeC,I.pin,I.hok,I.len⟩
 ·show upd X.H₀ ea ho b=_
  rw [upd_ne (fun z=>by rw [z] at e; exact (n1 _ e).1 _ rfl)]; exact e
 ·show upd X.H₀ ea ho b=_
  rw [upd_ne (fun z=>by rw [z] at e; exact (n1 _ e).2.1 _ _ rfl)]; exact e
 ·show upd X.H₀ ea ho b=_
  rw [upd_ne (fun z=>by rw [z] at e; exact (n1 _ e).2.2 _ rfl)]; exact e
theorem Inv.forget {h':Heap} {m':Str→Option Value} {t':Nat} (I:Inv X pins σ H s) (hn':h'.Ns X.env.locals m') (hs:Heap.SameBut X.env.locals s.heap h'):Inv X pins (List.replicate X.N.length none) H { s with heap:=h',toks:=t' }:=by
 have neL:∀ b o,X.s₀.heap.get? b=some o→b ≠ X.env.locals:=fun b o e=>Nat.ne_of_lt (Nat.lt_of_lt_of_le (Heap.lt_size e) I.ok.above)
 refine ⟨I.ok,I.os,I.bare,⟨fun b o e n hb hx=>(hs.2 b (neL b o e)).trans (I.base.keep b o e n hb hx),fun b o e n hb hx=>?_,I.base.free,fun b o e hx=>?_,I.base.tups,I.base.frzs,I.base.tbls⟩,⟨m',hn',fun i x v e1 e2 e3=>?_⟩,fun y c e=>?_,I.free,I.freeC,fun p hp=>?_,fun b ob e=>?_,by simp⟩
 ·obtain ⟨sl,e1⟩:=I.base.slot b o e n hb hx
  exact ⟨sl,(hs.2 b (neL b o e)).trans e1⟩
 ·obtain ⟨o',e1⟩:=I.base.there b o e hx
  exact ⟨o',(hs.2 b (neL b o e)).trans e1⟩
 ·rw [List.getElem?_replicate] at e2
  split at e2 <;> cases e2
 ·obtain ⟨w',z⟩:=I.cell y c e
  exact ⟨w',z.sameBut hs (I.cne y c e)⟩
 ·obtain ⟨e,n,ne,nf,d⟩:=I.pin p hp
  exact ⟨(hs.2 p.1 ne).trans e,n,ne,nf,d⟩
 ·refine (I.hok b ob e).stay (fun c w' hc q=>(hs.2 c ?_).trans q) (fun _ q=>q) fun _ _ q=>q
  rintro rfl
  rcases hc with rfl | hc
  ·rw [I.free] at e; cases e
  ·rw [I.free] at hc; cases hc
end
section
variable {X:Cx} {pins:List (Addr × Obj)} {σ:St} {H H':Hp} {s s':Shared} {B:Heap} {ea:Addr} {cls a0:Value} {h2:Heap}
theorem fly_new {l:List Env} {h:Heap} (fl:Heap.FlyingW B l ea cls a0 s'.heap) (old:∀ b o,h.get? b=some o→b ∉ frs l→∃ o',B.get? b=some o') (tr:∀ b u,H' b=some u→∃ o',B.get? b=some o'):h.get? ea=none∧H' ea=none:=by
 have hB:=fl.2.1
 constructor
 ·cases e:h.get? ea with
  | none=>rfl
  | some o=>
   exfalso
   by_cases hb:ea ∈ frs l
   ·obtain ⟨oe,vs,e1,_,d1,_⟩:=fl.first
    exact fly_frames fl ea hb oe e1 vs d1
   ·obtain ⟨o',e'⟩:=old ea o e hb
    rw [hB] at e'; cases e'
 ·cases e:H' ea with
  | none=>rfl
  | some u=>
   obtain ⟨o',e'⟩:=tr ea u e
   rw [hB] at e'; cases e'
theorem fly_track {l:List Env} {P:Program} {w:World} {h h1:Heap} (fl:Heap.FlyingW B l ea cls a0 h1) (old:∀ b o,h.get? b=some o→b ∉ frs l→∃ o',B.get? b=some o') (tr:∀ b u,H' b=some u→∃ o',B.get? b=some o')
  (hn:h.get? ea=none) (hn':H' ea=none) (u:Un (frs l) [] H H' h h1) (k:HOk P w H' h1) {ob:Obj} (hob:h1.get? ea=some ob):
  Un (frs l) [] H (upd H' ea (.frz ob (.ext (PD.ExcAt ea cls)))) h h1∧HOk P w (upd H' ea (.frz ob (.ext (PD.ExcAt ea cls)))) h1:=by
 have ne:∀ b o,h.get? b=some o→b ≠ ea:=fun b o e z=>by rw [z,hn] at e; cases e
 have ne':∀ b v,H' b=some v→b ≠ ea:=fun b o e z=>by rw [z,hn'] at e; cases e
 refine ⟨⟨u.keep,u.slot,fun b o e n x=>by rw [upd_ne (ne b o e)]; exact u.free b o e n x,u.there,fun b xs e=>?_,fun b o v e=>?_,fun b ps e=>?_⟩,fun b v e=>?_⟩
 ·have:=u.tups b xs e; rw [upd_ne (ne' _ _ this)]; exact this
 ·have:=u.frzs b o v e; rw [upd_ne (ne' _ _ this)]; exact this
 ·obtain ⟨m,this⟩:=u.tbls b ps e; exact ⟨m,by rw [upd_ne (ne' _ _ this)]; exact this⟩
 ·by_cases hb:b=ea
  ·subst hb
   rw [upd_same] at e
   cases e
   obtain ⟨o,e1,c1⟩:=fl.there
   exact ⟨hob,⟨o,e1,c1⟩,⟨o,e1⟩,fun g1 g2 ⟨o1,z1,z2⟩ kk=>⟨o1,kk o1 z1,z2⟩⟩
  ·rw [upd_ne hb] at e
   exact (k b v e).stay (fun _ _ _ q=>q) (fun c q=>by rw [upd_ne (ne' c _ q)]; exact q) fun c xs q=>by rw [upd_ne (ne' c _ q)]; exact q
end
end L2
namespace PD
open PySem PySem.Spec PyProof.Rows L2
section
variable {X:Cx} {E:XK}
theorem ss_try {body:List Stmt} {b₀:Stmt} {suite:List Stmt} {x n:Str} {np hpos pos:Pos} {cs:List Str} {i nN:Nat} {mb mh:SM} {Cp:Value} (hex:X.ex=[]) (hf:X.stack=X.env :: X.outer∧X.env.frame=some X.env.locals)
  (hg:Gl X x) (hm:X.mg x=some Cp) (hcs:∀ y,cs.contains y=true→∀ c,PySem.W.nsIn X.K mainGlobals y=some (some c)→PySem.W.exmOne X.K c Cp=some true)
  (hN:X.N.Nodup) (hi:X.N[i]?=some n) (hn:nN=X.N.length) (hl:X.env.scope.names.lookup n=some .local)
  (hb:∀ (p:List (Addr × Obj)) (W:Value→Shared→Prop) (E1:XK),Passes (CX1 X.prog X.w) (X.with p W) E1→SSs (X.with p W) E1 body mb)
  (hh:∀ (ea:Addr) (o:Obj) (u:HO),ZO o→SSs (X.suite ea (.frz o u)) E0 (b₀ :: suite) mh) (hd:autoParam ((x == ("__debug__":Str))=false) Au.h3._auto_1):
  SS X E (.Try body [.ExceptHandler (some (.Name x np)) (some n) (b₀ :: suite) hpos] [] [] pos) (sTry cs i nN mb mh):=⟨by
 intro pins s σ H D I ⟨w,r,S,hr,hS,hp⟩
 have hfr:X.A.frames=some (X.env :: X.outer):=by rw [I.ok.frames,hf.1]
 refine wpAny_Try_except ?_
 let E1:XK:=fun c _ H1=>∃ w1 y S1,Ext w H w1 H1∧RS X.K w1 H1 S1∧PySem.W.nsIn X.K mainGlobals y.cls=some (some c)∧mb r S=.err y S1
 let W:Value→Shared→Prop:=fun e s'=>∃ σ1 H1 s1,Inv X pins σ1 H1 s1∧CX1 X.prog X.w X.stack H1 s1 E1 e s'
 have hW:Passes (CX1 X.prog X.w) (X.with (X.pn ++ pins) W) E1:=fun pins' σ1 H1 s1 e s' I1 c=>⟨σ1,H1,s1,I1.unwith I.ok,c⟩
 have hpb:Post X.K E1 (RF X.K) w H (mb r S) (FV.to D):=by
  have hp':Post X.K E (RF X.K) w H (sTry cs i nN mb mh r S) (FV.to D):=hp
  unfold sTry at hp'
  cases e:mb r S with
  | ok f S1=>rw [e] at hp'; exact hp'
  | err y S1=>exact fun w' H' c da y1 t q=>⟨w',y,S1,y1,t,q,e⟩
  | bad=>rw [e] at hp'; exact hp'.elim
 refine wpAny_mono ((hb (X.pn ++ pins) W E1 hW).out [] s σ H D I.with ⟨w,r,S,hr,hS,hpb⟩) (fun f s' q=>?_) fun e s' q=>?_
 ·cases f with
  | next=>obtain ⟨σ',H',J,q⟩:=q; exact pss_nil (X:=X) pins s' σ' H' D (J.unwith I.ok) q
  | brk=>obtain ⟨σ',H',J,q⟩:=q; exact ⟨σ',H',J.unwith I.ok,q⟩
  | cont=>obtain ⟨σ',H',J,q⟩:=q; exact ⟨σ',H',J.unwith I.ok,q⟩
  | ret u=>obtain ⟨v,σ',H',J,rr,q⟩:=q; exact ⟨v,σ',H',J.unwith I.ok,rr,q⟩
 ·obtain ⟨σ1,H1,s1,I1,ea,cls,H2,rfl,os,bare,un,hok,⟨B,a0,fl,old,tr,zt⟩,w1,y,S1,xe,hS1,hns,hmb⟩:=q
  obtain ⟨hnew,hnew'⟩:=fly_new (s':=s') fl old tr
  have fl':=fl
  rw [hf.1] at fl'
  refine looksZ hfr hf.2 fl' zt fun h4 held4 up4 zt4=>?_
  refine landsZ (s:={ s' with heap:=h4 }) held4 zt4 fun h5 fl5 up5 zt5=>?_
  rw [← hf.1] at fl5
  have up15:s'.heap.UpToSlots h5:=up4.trans up5
  have un5:=un.fly fl.1 fl5.1 old up15 (fly_frames fl)
  have hok5:=hok.fly fl.1 fl5.1 tr
  have J5:Inv X pins σ1 H2 { s' with heap:=h5 }:=I1.call' os un5 hok5 bare (fun b z=>nomatch z)
  -- what the plain program says
  have hp':Post X.K E (RF X.K) w H (sTry cs i nN mb mh r S) (FV.to D):=hp
  unfold sTry at hp'
  rw [hmb] at hp'
  simp only at hp'
  by_cases hc:cs.contains y.cls=true
  ·rw [if_pos hc] at hp'
   have hx:=hcs y.cls hc cls hns
   refine wpAny_handleBy_cons (codeAny_handlers_test (ld_glob (X:={ X with A:=X.A.mark (some (.ref ea)),calm:=false }) (pins:=pins) (σ:=σ1) (H:=H2) ⟨⟨J5.ok.mod,J5.ok.kind,J5.ok.glob,J5.ok.blt,J5.ok.above,J5.ok.inj,J5.ok.has,J5.ok.cab,(fun z=>by cases z),J5.ok.frames,J5.ok.stk,J5.ok.exf,J5.ok.bs,J5.ok.bsz,J5.ok.noex,J5.ok.exfs,J5.ok.funs,J5.ok.frf⟩,J5.os,J5.bare,J5.base,J5.loc,J5.cell,J5.free,J5.freeC,J5.pin,J5.hok,J5.len⟩ hg hm ?_ hd)) (by intro q; cases q)
   obtain ⟨ob,hob,hobc⟩:=fl5.there
   have LT:PySem.W.Looks (model X.prog X.w) h5 (typeOf (.ref ea)) cls:=by subst hobc; exact (PySem.W.Looks.ld hob).andThen .now
   refine (PySem.W.exm_one J5.kIn LT hx).here ?_
   refine codeAny_handlers_suite_as ?_
   refine landsAgainZ (s:={ s' with heap:=h5 }) fl5 zt5 fun h6 fl6 up6 zt6=>?_
   obtain ⟨oe,hoe,zo⟩:=zt6
   have up16:s'.heap.UpToSlots h6:=up15.trans up6
   have un6:=un.fly fl.1 fl6.1 old up16 (fly_frames fl)
   have hok6:=hok.fly fl.1 fl6.1 tr
   obtain ⟨un7,hok7⟩:=fly_track fl6 old tr hnew hnew' un6 hok6 hoe
   have J7:Inv X pins σ1 (upd H2 ea (.frz oe (.ext (ExcAt ea cls)))) { s' with heap:=h6 }:=I1.call' os un7 hok7 bare (fun b z=>nomatch z)
   refine store_ok J7 hN hi (.inl hl) (v:=.ref ea) rfl (fun s8 J8=>?_) (.inr hl)
   have x7:Ext w1 H2 w1 (upd H2 ea (.frz oe (.ext (ExcAt ea cls)))):=Ext.new hnew'
   have hS7:RS X.K w1 (upd H2 ea (.frz oe (.ext (ExcAt ea cls)))) S1:=hS1.new hnew'
   have x17:=xe.trans' x7 hS hS1
   have p7:=Post.ext hp' x17 hS hS7
   have hat:At w1 (upd H2 ea (.frz oe (.ext (ExcAt ea cls)))) ea (.frz oe (.ext (ExcAt ea cls))):=⟨upd_same,hS1.fresh hnew'⟩
   have hiN:i < nN:=by rw [hn]; exact (List.getElem?_eq_some_iff.mp hi).1
   have hrh:RSt X.K w1 (upd H2 ea (.frz oe (.ext (ExcAt ea cls)))) ((List.replicate nN none).set i (some (.exc y.cls))) (σ1.set i (some (.ref ea))):=by
    refine ⟨by simp [J7.len,hn],fun j d e=>?_⟩
    by_cases hj:j=i
    ·subst hj
     rw [List.getElem?_set_self (by simpa using hiN)] at e
     cases e
     exact ⟨.ref ea,List.getElem?_set_self (by rw [J7.len,← hn]; exact hiN),by unfold RD; exact ⟨ea,cls,oe,rfl,hns,hat⟩⟩
    ·rw [List.getElem?_set_ne (Ne.symm hj),List.getElem?_replicate] at e
     split at e <;> cases e
   have n0:X.s₀.heap.get? ea=none:=by
    cases e9:X.s₀.heap.get? ea with
    | none=>rfl
    | some o9=>
     obtain ⟨o8,e8⟩:=I1.base.there ea o9 e9 (by rw [hex]; exact fun z=>nomatch z)
     rw [hnew] at e8; cases e8
   have n1:∀ v,X.H₀ ea=some v→(∀ xs,v ≠ .tup xs)∧(∀ q w,v ≠ .frz q w)∧∀ ps,v ≠ .tbl ps:=fun v e9=>⟨fun xs z=>(by rw [z] at e9; have:=J5.base.tups ea xs e9; rw [hnew'] at this; cases this),fun q w z=>(by rw [z] at e9; have:=J5.base.frzs ea q w e9; rw [hnew'] at this; cases this),fun ps z=>(by rw [z] at e9; obtain ⟨m,this⟩:=J5.base.tbls ea ps e9; rw [hnew'] at this; cases this)⟩
   have hsuite:=(hh ea oe _ zo).out pins s8 _ _ { nx:=fun _ _=>False,rt:=fun v H'=>D.rt v H' } (J8.suite n0 upd_same) ⟨w1,_,S1,hrh,hS7,Post.nx (E:=E) ?_⟩
   ·refine wpAny_noRaise (wpAny_mono hsuite (fun f s9 q=>?_) fun _ _ z=>z)
    show wpAny _ _ _ _ _ _
    cases f with
    | next=>obtain ⟨_,_,_,q⟩:=q; exact q.elim
    | brk=>obtain ⟨_,_,_,q⟩:=q; exact q.elim
    | cont=>obtain ⟨_,_,_,q⟩:=q; exact q.elim
    | ret u=>
     obtain ⟨v,σ',H',J,rr,q⟩:=q
     have J':=J.unsuite I.ok n0 n1
     obtain ⟨m9,hn9,_⟩:=id J'.loc
     refine wpAny_nameGoes hl hn9 (by rw [J'.ok.kind]; rfl) fun h10 m10 hn10 hs10=>?_
     exact ⟨v,_,H',J'.forget hn10 hs10,rr,q⟩
   ·refine Post.bind (rel:=RF X.K) p7 hS7 fun f S2 w2 H3 fv x2 q2 s2 p2=>?_
    cases f with
    | nx r=>exact p2.elim
    | bk r=>exact p2.elim
    | ct r=>exact p2.elim
    | rt d=>obtain ⟨v,rfl,q⟩:=q2; have z:=Post.ret (Q:=FV.to D) (rel:=RF X.K) (a:=F.rt d) (b:=FV.rt v) p2 ⟨v,rfl,q⟩ s2; exact z
  ·rw [if_neg hc] at hp'; exact hp'.elim⟩
end
end PD
namespace L2
open PySem PySem.Spec PyProof.Rows
structure RoomM (k:Nat) (A:Around):Prop where
 dp:A.depth + 3 * k + 5 < recursionLimit
 un:A.units + 16 * k + 200 < cLine
 gd:A.guards=some []
theorem Room.m {k:Nat} {A:Around} (r:Room k A):RoomM k A:=⟨r.dp,r.un,r.gd⟩
theorem RoomM.mark {k:Nat} {A:Around} (r:RoomM k A) (e:Option Value):RoomM k (A.mark e):=⟨r.dp,r.un,r.gd⟩
theorem RoomM.deeper {k:Nat} {A:Around} (r:RoomM (k + 1) A) (env:Env):RoomM k (A.deeper env):=
 ⟨by have:=r.dp; show A.depth + 1 + 3 * k + 5 < _; omega,by have:=r.un; show A.units + 3 + 16 * k + 200 < _; omega,r.gd⟩
noncomputable def QA (A:Around) (H:Hp):Prop:=A.handled=none ∨ ∃ a o u,A.handled=some (.ref a)∧H a=some (.frz o u)∧ZO o
theorem Inv.qa {X:Cx} {pins:List (Addr × Obj)} {σ:List (Option V)} {H:Hp} {s:Shared} (I:Inv X pins σ H s) (h:QtH X):QA X.A H:=h.imp id fun ⟨a,o,u,e,q,z⟩=>⟨a,o,u,e,I.base.frzs a o u q,z⟩
structure FnOkM (P:Program) (w:World) (K:PySem.W.Frag) (mg:Str→Option Value) (base:Heap) (k:Nat) (f:Addr) (fd:FuncData) (ps:List Str) (sp:Sp):Prop where
 len:∀ vs H Q E,sp vs H Q E→vs.length=ps.length
 run:∀ (A:Around) (outer:List Env) (s:Shared) (H:Hp) (args:Args) (us:List Value) (vs:List V) (Q:VK),RoomM k A→QA A H→Env0 P w K mg base A outer s H→BindsTo s fd args (ps.zip us)→Vals vs us→sp vs H Q E0→
  codeAny (model P w) A (.call (.ref f) args) (CR CX0 outer P w H s Q E0) s
noncomputable abbrev cxM (P:Program) (w:World) (K:PySem.W.Frag) (mg:Str→Option Value) (base:Heap) (N:List Str) (qual:Str) (scope:Scope) (f:Addr) (cd:Value) (A:Around) (outer:List Env) (s:Shared) (H:Hp):Cx:=
 { cxOf CX0 P w K mg base N qual scope f cd A outer s H E0 with calm:=false,xe:=fun _ _=>False }
section
variable {P:Program} {w:World} {K:PySem.W.Frag} {mg:Str→Option Value} {base:Heap}
theorem inv_startM {N ps:List Str} {qual:Str} {scope:Scope} {f:Addr} {cd:Value} {A:Around} {outer:List Env} {s s1:Shared} {H:Hp} {us:List Value} {vs:List V} (S:FnScope N ps scope) (e0:Env0 P w K mg base A outer s H) (hl:vs.length=ps.length) (r:Vals vs us)
  (x:InCallC s s.heap.objs.size (bindL (envOfC qual scope s.heap.objs.size f cd).kindOf (ps.zip us) fun _=>none) (cellsFrom (s.heap.objs.size + 1) scope.names []) (bindC (envOfC qual scope s.heap.objs.size f cd).kindOf (ps.zip us) fun _=>none) s1):
  Inv (cxM P w K mg base N qual scope f cd A outer s H) [] (start N vs) H s1:=by
 have e1:Env0 P w K mg base { A with handled:=none } outer s H:=⟨e0.frames,e0.mod,e0.bs,e0.bsz,e0.funs,e0.frf,e0.hok,e0.bare⟩
 have I:=inv_start (CX:=CX0) (E:=E0) (A:={ A with handled:=none }) S rfl e1 hl r x
 exact ⟨⟨I.ok.mod,I.ok.kind,I.ok.glob,I.ok.blt,I.ok.above,I.ok.inj,I.ok.has,I.ok.cab,(fun z=>by cases z),I.ok.frames,I.ok.stk,I.ok.exf,I.ok.bs,I.ok.bsz,I.ok.noex,I.ok.exfs,I.ok.funs,I.ok.frf⟩,I.os,I.bare,I.base,I.loc,I.cell,I.free,I.freeC,I.pin,I.hok,I.len⟩
theorem fn_ofM {k:Nat} {f:Addr} {name qual:Str} {params:Arguments} {body:List Stmt} {scope:Scope} {dV kV doc pm cdv ct oc:Value} {an od:Option Addr}
  {osl:Array (Option Value)} {N ps:List Str} {sp:Sp} (lk:K.lookup f=some ⟨oc,od,.func (PySem.W.fnOf name qual params body scope dV kV doc pm an cdv ct),osl⟩) (hcd:PySem.W.codeIn K cdv qual=true) (S:FnScope N ps scope)
  (len:∀ vs H Q E,sp vs H Q E→vs.length=ps.length)
  (hbody:∀ (A:Around) (outer:List Env) (s:Shared) (H:Hp) (vs:List V) (Q:VK),RoomM k (A.deeper (envOfC qual scope s.heap.objs.size f cdv))→QtH (cxM P w K mg base N qual scope f cdv A outer s H)→sp vs H Q E0→
   ∃ t,PSs (cxM P w K mg base N qual scope f cdv A outer s H) body t∧t { nx:=fun _ H'=>Q .non H',rt:=Q } (start N vs) H):
  FnOkM P w K mg base (k + 1) f (PySem.W.fnOf name qual params body scope dV kV doc pm an cdv ct) ps sp:=by
 refine ⟨len,fun A outer s H args us vs Q hr hqa e0 hb r hsp=>?_⟩
 have hl:=len _ _ _ _ hsp
 have KX:K.In s.heap:=e0.mod.kin.keeps fun b o e=>(e0.bs b o e).1
 have lim:s.heap.NoLimit:=e0.mod.nolimit.keeps fun b o e=>(e0.bs b o e).1
 have hkind:∀ y ∈ ps.zip us,scope.names.lookup y.1=some .local ∨ (scope.names.lookup y.1=some .cell∧((cellsFrom (s.heap.objs.size + 1) scope.names []).lookup y.1).isSome=true):=fun ⟨n,v⟩ hy=>by
  rcases S.par n (List.of_mem_zip hy).1 with q | q
  ·exact .inl q
  ·exact .inr ⟨q,PySem.W.cellsFrom_some _ _ _ (.inl q)⟩
 refine codeAny_call_function (by have:=hr.dp; omega) (KX _ _ lk) rfl S.co S.gen rfl (PySem.W.codeRec_of KX hcd) (hb _ _ _ _ ?_)
 refine wpAny_newFunctionEnv_cells S.kind hkind fun env he s1 x=>?_
 subst he
 refine ⟨lim.keeps x.toInCall.keep,codeAny_func ?_⟩
 obtain ⟨t,ht,hq⟩:=hbody A outer s H vs Q (hr.deeper _) hqa hsp
 have I:Inv (cxM P w K mg base N qual scope f cdv A outer s H) [] (start N vs) H s1:=inv_startM S e0 hl r x
 refine wpAny_mono (ht [] s1 (start N vs) H _ I hq) (fun fl s' hs=>?_) fun e s' hs=>False.elim hs
 have fin:∀ {σ':St} {H':Hp} {v:V} {u:Value},Inv (cxM P w K mg base N qual scope f cdv A outer s H) [] σ' H' s'→RelV v u→Q v H'→CE outer P w H s Q u s':=
  fun {σ' H' v u} J rv q=>⟨v,H',J.os,J.bare,J.base,J.hok,rv,q⟩
 cases fl with
 | ret u=>
  obtain ⟨v,σ',H',J,rv,q⟩:=hs
  exact fin J rv q
 | next=>
  obtain ⟨σ',H',J,q⟩:=hs
  exact fin (v:=V.non) (u:=Value.none) J rfl q
 | brk=>
  obtain ⟨_,_,_,q⟩:=hs
  exact False.elim q
 | cont=>
  obtain ⟨_,_,_,q⟩:=hs
  exact False.elim q
end
section
variable {X:Cx} {k:Nat} {f:Addr} {fd:FuncData} {ps:List Str} {sp:Sp} {x:Str} {p pos:Pos} {e:Expr} {es:List Expr} {t:TA}
theorem pe_callM (F:FnOkM X.prog X.w X.K X.mg X.base k f fd ps sp) (hr:RoomM k X.A) (hqt:QtH X) (hg:Gl X x) (hm:X.mg x=some (.ref f)) (hk:PySem.W.keepIn X.K (.ref f)=true) (hb:Binds X.K fd ps [])
  (ha:PA X (e :: es) t) (hdb:autoParam ((x == ("__debug__":Str))=false) Au.h2._auto_1) (he:autoParam (starEach (e :: es) X.env=(false,eval e X.env) :: starEach es X.env) Au.h1._auto_1) (hpl:autoParam ((backTo pos (starEach es X.env)).any (·.1)=false) Au.h1._auto_1):
  PE X (.Call (.Name x p) (e :: es) [] pos) (tCall sp [] E0 t):=by
 intro pins s σ H Q I h
 refine wpAny_Call_Name_kw (ld_glob I hg hm ?_ hdb)
 refine PySem.W.callWith_K (h₀:=X.base) I.ok.mod.kin hk (thn (ha pos pins s σ H _ I h) fun us s1 zq=>ex5 zq fun vs H1 I1 r q=>⟨I1.kIn,?_⟩) he hpl
 have q:sp vs H1 Q E0:=by
  have z:sp (vs ++ []) H1 Q E0:=q
  rwa [List.append_nil] at z
 show wpAny _ _ (call (Value.ref f) us) _ _ _
 have hl:us.length=ps.length:=by rw [← r.length]; exact F.len _ _ _ _ q
 have hb':=hb s1 us I1.kIn (by rw [List.append_nil]; exact hl)
 rw [List.append_nil] at hb'
 refine wpAny_call (codeAny_mono (F.run X.A X.stack s1 H1 ⟨us,[]⟩ us vs Q hr (I1.qa hqt) I1.env0 hb' r q) fun rr s' hq=>?_)
 cases rr with
 | error e=>exact False.elim hq
 | ok fl=>
  cases fl with
  | ret u=>exact I1.after hq
  | next=>exact False.elim hq
  | brk=>exact False.elim hq
  | cont=>exact False.elim hq
end
end L2
namespace PD
open PySem PySem.Spec PyProof.Rows L2
structure DefM (P:Program) (w:World) (K:PySem.W.Frag) (mg:Str→Option Value) (base:Heap) (x:Str) (k n:Nat) (f:FM):Prop where
 ex:∃ (fa:Addr) (fd:FuncData) (ps:List Str),mg x=some (.ref fa)∧PySem.W.keepIn K (.ref fa)=true∧Binds K fd ps []∧FnOkM P w K mg base k fa fd ps (spN K n f)
section
variable {X:Cx} {x:Str} {k n:Nat} {f:FM} {a:Expr} {es:List Expr} {ms:AM} {p pos:Pos}
theorem se_fnM (D:DefM X.prog X.w X.K X.mg X.base x k n f) (hr:RoomM k X.A) (hqt:QtH X) (hg:Gl X x) (ha:SA X E0 (a :: es) ms) (hn:ALen ms n) (hdb:autoParam ((x == ("__debug__":Str))=false) Au.h3._auto_1)
  (he:autoParam (starEach (a :: es) X.env=(false,eval a X.env) :: starEach es X.env) Au.h0._auto_1) (hpl:autoParam ((backTo pos (starEach es X.env)).any (·.1)=false) Au.h0._auto_1):
  SE X E0 (.Call (.Name x p) (a :: es) [] pos) (eCall f ms):=by
 obtain ⟨fa,fd,ps,hm,hk,hb,F⟩:=D.ex
 refine ⟨pe_weak (pe_callM F hr hqt hg hm hk hb ha.out hdb he hpl) fun s H Q zq=>?_⟩
 obtain ⟨w,r,S,hr,hS,hp⟩:=zq
 refine ⟨w,r,S,hr,hS,?_⟩
 have hp':Post X.K E0 (RD X.K) w H ((ms r S).bind fun xs S1=>f xs S1) Q:=hp
 cases e:ms r S with
 | bad=>rw [e] at hp'; exact hp'.elim
 | err y S'=>rw [e] at hp'; exact hp'
 | ok ds S'=>
  rw [e] at hp'
  intro w1 H1 vs x1 q1 s1
  rw [List.append_nil]
  exact ⟨by rw [q1.length]; exact hn r S ds S' e,w1,S',ds,s1,q1,Post.ext (r:=f ds S') hp' x1 hS s1⟩
end
section
variable {P:Program} {w:World} {K:PySem.W.Frag} {mg:Str→Option Value} {base:Heap}
theorem def_ofM {x:Str} {st:Stmt} {f:Addr} {fd:FuncData} {m:SM} (N ps:List Str) (k k1 n0 n1:Nat) (hk:k1=k + 1) (h0:n0=ps.length) (h1:n1=N.length) (F:Fun K x x st f fd) (hm:mg x=some (.ref f)) (hb:Binds K fd ps []) (S:FnScope N ps (defScope st))
  (hbody:∀ (cdv:Value) (A:Around) (outer:List Env) (s:Shared) (H:Hp),RoomM k (A.deeper (envOfC x (defScope st) s.heap.objs.size f cdv))→QtH (cxM P w K mg base N x (defScope st) f cdv A outer s H)→
   SSs (cxM P w K mg base N x (defScope st) f cdv A outer s H) E0 (defBody st) m):DefM P w K mg base x k1 n0 (fnM n1 m):=by
 subst hk h0 h1
 refine ⟨f,fd,ps,hm,F.kp,hb,?_⟩
 obtain ⟨oc,od,kV,doc,pm,an,cdv,ct,osl,rfl,lk,hcd⟩:=F.ex
 refine fn_ofM lk hcd S (fun vs H Q E h=>h.1) fun A outer s H vs Q hr hqt h=>?_
 obtain ⟨hl,u,T,ds,hT,q,p⟩:=h
 refine ⟨_,(hbody cdv A outer s H hr hqt).out,u,_,T,start_rel q,hT,?_⟩
 refine Post.bind (rel:=RF K) p hT fun g S1 w1 H1 fv x1 q1 s1 p1=>?_
 cases g with
 | nx r=>obtain ⟨s',rfl,_⟩:=q1; have z:=Post.ret (Q:=Q) (rel:=RD K) (a:=D.non) (b:=V.non) p1 (by unfold RD; rfl) s1; exact z
 | rt d=>obtain ⟨v,rfl,q2⟩:=q1; have z:=Post.ret (Q:=Q) (rel:=RD K) (a:=d) (b:=v) p1 q2 s1; exact z
 | bk r=>exact p1.elim
 | ct r=>exact p1.elim
end
end PD
namespace L2
open PySem PySem.Spec PyProof.Rows
theorem bexc_kind:builtinKind "BaseException.__getattribute__" = some .slot:=by decide +kernel
theorem bexc_split:splitId "BaseException.__getattribute__" = some ("BaseException","__getattribute__"):=by decide +kernel
section
variable {prog:Program} {w:World} {A:Around} {E:Value→Shared→Prop} {s:Shared} {K:PySem.W.Frag} {ea C:Addr} {ox:Obj} {od:Option Obj}
theorem exc_check {M:Model} {v:Value} {Q:Unit→Shared→Prop} (LI:PySem.W.Looks M s.heap (isInstance (.ref ea) (.type "BaseException")) true) (h:Q () s):wpAny M A (checkBuiltinCall "BaseException.__getattribute__" ⟨[.ref ea,v],[]⟩) Q E s:=by
 obtain ⟨hh,g,d,t,os⟩:=s
 have ha:=PySem.F.args_bexc_ga (.ref ea) v
 simp only [checkBuiltinCall,bexc_kind,bexc_split]
 refine wpAny_bind (LI.at ?_)
 simp only [Bool.not_true,Bool.false_eq_true,if_false]
 cases hsig:Manifest.signature? "BaseException.__getattribute__" with
 | none=>exact wpAny_pure h
 | some sig=>
  simp only [argsOk,hsig] at ha
  have h2:Bind.checkArgs "BaseException.__getattribute__" sig ⟨[.ref ea,v],[]⟩=pure ():=ha
  show wpAny M A (Bind.checkArgs "BaseException.__getattribute__" sig ⟨[.ref ea,v],[]⟩) Q E _
  rw [h2]; exact wpAny_pure h
theorem exc_get {tp:Value} {R:Result→Shared→Prop} (LT:PySem.W.Looks (model prog w) s.heap (typeOf (.ref ea)) (.ref C)) (LO:PySem.W.Looks (model prog w) s.heap (isSubtype (.ref C) (.type "object")) true) (hR:R (.ok (.ret (.ref C))) s):
  codeAny (model prog w) A (.call (.builtin "getset_descriptor.__get__") ⟨[.builtin "object.__class__",.ref ea,tp],[]⟩) R s:=by
 obtain ⟨hh,g,dr,t,os⟩:=s
 have LI:PySem.W.Looks (model prog w) hh (isInstance (.ref ea) (.type "object")) true:=LT.andThen LO
 have ty:(⟨hh,g,dr,t,os⟩:Shared).TypeIs (.builtin "object.__class__") "getset_descriptor":=PySem.F.typeOf_object_class
 refine codeAny_call_builtin PySem.F.slot_gs_get.plain PySem.F.entry_gs_get (PySem.F.slot_gs_get.check _ _ _ _ _ _ _ _ ty (PySem.F.args_gs_get _ _ _) ?_)
 repeat (any_goals (first | assumption | (with_reducible refine PySem.W.Looks.at (by assumption) ?_) | wp_step))
 have own:(".".intercalate ("object.__class__".cutAt '.').dropLast) = "object":=by
  have e0:"object.__class__".cutAt '.'=["object","__class__"]:=by first | rfl | decide +kernel
  rw [e0]; decide +kernel
 rw [own]
 refine LO.at ?_
 refine wpAny_pure ?_
 refine wpAny_pure ⟨Code.quiet_builtin _ (by decide +kernel),codeAny_builtin PySem.F.entry_object_class ?_⟩
 repeat (any_goals (first | assumption | (with_reducible refine PySem.W.Looks.at (by assumption) ?_) | wp_step))
theorem exc_class {Q:Option Value→Shared→Prop} (X:K.In s.heap) (hx:s.heap.get? ea=some ox) (hc:ox.cls=.ref C) (hga:PySem.W.findIn K (.ref C) "__getattribute__" = some (some (.builtin "BaseException.__getattribute__")))
  (hgh:PySem.W.findIn K (.ref C) "__getattr__" = some none) (hf:PySem.W.findIn K (.ref C) "__class__" = some (some (.builtin "object.__class__")))
  (hn:PySem.W.specialIn K (.builtin "object.__class__") "__get__" = some (some (.builtin "getset_descriptor.__get__"))) (htk:PySem.W.takesIn K (.builtin "object.__class__")=some true)
  (hb:PySem.W.mroIn K C (.type "BaseException")=some true) (hm:PySem.W.mroIn K C (.type "object")=some true) (h:Q (some (.ref C)) { s with toks:=s.toks + 1 }):wpAny (model prog w) A (getAttr? (.ref ea) "__class__") Q E s:=by
 obtain ⟨hh,g,d,t,os⟩:=s
 have L0:PySem.W.Looks (model prog w) hh (typeOf (.ref ea)) (.ref C):=hc ▸ (PySem.W.Looks.ld hx).andThen .now
 have L1:=PySem.W.looks_findIn (M:=model prog w) X hga
 have L2:=PySem.W.looks_findIn (M:=model prog w) X hgh
 have LF:PySem.W.Looks (model prog w) hh (Builtin.ObjectAttr.find (.ref ea) (.ref C) "__class__") (.bind (.builtin "getset_descriptor.__get__") (.builtin "object.__class__")):=by
  refine (PySem.W.looks_findIn X hf).andThen ((PySem.W.looks_specialIn X hn).andThen (PySem.W.Looks.andThen (a:=some (.builtin "getset_descriptor.__get__",.builtin "object.__class__")) ?_ ?_))
  ·exact (PySem.W.looks_takesIn X htk).andThen .now
  ·exact PySem.W.Looks.tag .now
 have LB:=PySem.W.looks_mroIn (M:=model prog w) X hb
 have LO:=PySem.W.looks_mroIn (M:=model prog w) X hm
 have LI:PySem.W.Looks (model prog w) hh (isInstance (.ref ea) (.type "BaseException")) true:=L0.andThen LB
 have f3:=PySem.F.excAttr_ValueError.ga.bind (.ref ea)
 unfold getAttr? getAttrBy? getAttrBy
 refine wpAny_bind (wpAny_mkText (wpAny_bind ?_))
 refine wpAny_attempt (wpAny_holding (wpAny_bind (L0.at (wpAny_bind (L1.at ?_)))))
 show wpAny _ _ (getAttrByItsOwn _ _ _ _ _ _) _ _ _
 unfold getAttrByItsOwn hookBefore
 refine wpAny_bind ?_
 show wpAny _ _ (typeLookup (.ref C) "__getattr__") _ _ _
 refine L2.at ?_
 refine wpAny_bind (wpAny_attempt (wpAny_holding ?_))
 show wpAny _ _ (boundAndCalled _ _ _) _ _ _
 unfold boundAndCalled
 rw [f3]
 refine wpAny_bind (wpAny_pure ?_)
 show wpAny _ _ (call (.builtin "BaseException.__getattribute__") [.ref ea,.str "__class__" t]) _ _ _
 refine wpAny_call (codeAny_call_builtin PySem.F.excAttr_ValueError.ga.plain PySem.F.entry_bexc_ga (exc_check LI ?_))
 unfold Builtin.«object.__getattribute__»
 refine wpAny_bind (wpAny_pure (wpAny_bind (wpAny_pure (wpAny_bind (L0.at (wpAny_bind (LF.at ?_)))))))
 show wpAny _ _ (holding [.builtin "object.__class__"] (call (.builtin "getset_descriptor.__get__") [.builtin "object.__class__",.ref ea,.ref C]) >>= ret) _ _ _
 refine wpAny_bind (wpAny_holding (wpAny_call (exc_get L0 LO ?_)))
 exact wpAny_pure (wpAny_pure (wpAny_pure h))
structure ExK (K:PySem.W.Frag) (C:Addr):Prop where
 ga:PySem.W.findIn K (.ref C) "__getattribute__" = some (some (.builtin "BaseException.__getattribute__"))
 gh:PySem.W.findIn K (.ref C) "__getattr__" = some none
 cl:PySem.W.findIn K (.ref C) "__class__" = some (some (.builtin "object.__class__"))
 bs:PySem.W.mroIn K C (.type "BaseException")=some true
 ob:PySem.W.mroIn K C (.type "object")=some true
 is:(PySem.W.clsIn K C).isSome=true
theorem ExK.lk (e:ExK K C):∃ a b cd d,K.lookup C=some ⟨a,b,.cls cd,d⟩:=by
 have h:=e.is
 unfold PySem.W.clsIn at h
 split at h
 next a b cd d q=>exact ⟨_,_,_,_,q⟩
 next=>cases h
theorem kitx_exc (e:ExK K C) (hn:PySem.W.specialIn K (.builtin "object.__class__") "__get__" = some (some (.builtin "getset_descriptor.__get__"))) (htk:PySem.W.takesIn K (.builtin "object.__class__")=some true):
  PySem.W.KitX K (.ref ea) (.ref C) (PD.ExcAt ea (.ref C)) where
 ty:=fun M h X ⟨o,e1,e2⟩=>e2 ▸ (PySem.W.Looks.ld e1).andThen .now
 it:=fun M h X _=>by
  obtain ⟨_,_,_,_,q⟩:=e.lk
  intro A' Q' E' s' k z
  unfold isType loadHead
  exact wpAny_bind (wpAny_loadPart (k _ _ (X _ _ q)) (wpAny_pure z))
 ne:=fun h tp dd its n sl X ht=>by
  obtain ⟨_,_,_,_,q⟩:=e.lk
  cases hb:(Value.ref C == Value.ref tp) with
  | false=>rfl
  | true=>
   have:C=tp:=Value.ref.inj (beq_iff_eq.mp hb)
   subst this
   have z:=(X _ _ q).symm.trans ht
   cases z
 ca:=fun X ⟨o,e1,e2⟩ k=>exc_class X e1 e2 e.ga e.gh e.cl hn htk e.bs e.ob k
end
end L2
namespace PD
open PySem PySem.Spec PyProof.Rows L2
structure Cls (K:PySem.W.Frag) (cs ks:List Str) (isa:Str→Str→Bool):Prop where
 gt:PySem.W.specialIn K (.builtin "object.__class__") "__get__" = some (some (.builtin "getset_descriptor.__get__"))
 tk:PySem.W.takesIn K (.builtin "object.__class__")=some true
 ex:∀ c ∈ cs,∃ C,PySem.W.nsIn K mainGlobals c=some (some (.ref C))∧ExK K C∧PySem.W.kitOne K (.ref C) (.type "ValueError")=some true
 isa:∀ c ∈ cs,∀ k ∈ ks,∃ C D,PySem.W.nsIn K mainGlobals c=some (some C)∧PySem.W.nsIn K mainGlobals k=some (some D)∧PySem.W.kitOne K C D=some (isa c k)
noncomputable def fIsX (cs ks:List Str) (isa:Str→Str→Bool):Sto→List D→Option D
 | S,[.exc c,.cls k]=>if c ∈ cs∧k ∈ ks then some (.bl (isa c k)) else none
 | S,[.exc c,.ty T]=>if c ∈ cs∧T = "ValueError" then some (.bl true) else none
 | S,xs=>fIsi S xs
section
variable {X:Cx} {E:XK} {cs ks:List Str} {isa:Str→Str→Bool}
theorem exc_isi {pins:List (Addr × Obj)} {σ:L2.St} {H:Hp} {s:Shared} {w:Wd} {S:Sto} {c:Str} {v:V} {u c2:Value} {b:Bool} {Q:VK} (T:Cls X.K cs ks isa) (I:Inv X pins σ H s) (hc:c ∈ cs) (q:RD X.K w H (.exc c) v) (rv:RelV v u) (hS:RS X.K w H S)
  (hk:∀ C,PySem.W.nsIn X.K mainGlobals c=some (some C)→PySem.W.kitOne X.K C c2=some b) (p:Post X.K E (RD X.K) w H (.ok (.bl b) S) Q):wpAny (model X.prog X.w) X.A (call (.builtin "isinstance") [u,c2]) (EP X pins σ Q) X.xe s:=by
 unfold RD at q
 obtain ⟨a,C,o,rfl,hns,hat⟩:=q
 obtain ⟨Ca,hns',hE,_⟩:=T.ex c hc
 rw [hns] at hns'
 cases hns'
 cases (show u=Value.ref a from rv)
 have hx:=(I.hok a _ hat.1).2.1
 exact PySem.W.kia_one (kitx_exc hE T.gt T.tk) I.kIn hx (hk _ hns) (fun z=>nomatch z) fun tk=>⟨.bl b,H,I.tok tk,rfl,p.ret RD.mkB hS⟩
theorem xc_isx (T:Cls X.K cs ks isa):CallR X (.builtin "isinstance") (xC X.K E (fIsX cs ks isa)):=by
 rintro pins s σ H xs us Q I r ⟨w,S,ds,hS,qs,p⟩
 obtain ⟨z,hz,p'⟩:=p.of
 unfold fIsX at hz
 split at hz
 ·rename_i c k
  split at hz
  ·rename_i h
   cases hz
   obtain ⟨v,u,rfl,q,q'⟩:=qs.two_inv
   obtain ⟨v1,v2,rfl,rv,rt⟩:=vals2 r
   unfold RD at q'
   obtain ⟨C2,hn2,rfl⟩:=q'
   cases (show v2=Value.ref C2 from rt)
   refine exc_isi T I h.1 q rv hS (fun C hC=>?_) p'
   obtain ⟨C',D',e1,e2,e3⟩:=T.isa c h.1 k h.2
   rw [hC] at e1
   rw [hn2] at e2
   cases e1
   cases e2
   exact e3
  ·cases hz
 ·rename_i c t
  split at hz
  ·rename_i h
   cases hz
   obtain ⟨v,u,rfl,q,q'⟩:=qs.two_inv
   obtain ⟨v1,v2,rfl,rv,rt⟩:=vals2 r
   unfold RD at q'
   subst q'
   cases (show v2=Value.type t from rt)
   refine exc_isi T I h.1 q rv hS (fun C hC=>?_) p'
   obtain ⟨Ca,hn,_,hv⟩:=T.ex c h.1
   rw [hn] at hC
   cases hC
   rw [h.2]
   exact hv
  ·cases hz
 ·exact xc_isi pins s σ H xs us Q I r ⟨w,S,ds,hS,qs,by rw [hz]; exact p'⟩
noncomputable def ClsAt (K:PySem.W.Frag) (mg:Str→Option Value) (x:Str):Prop:=∃ C,mg x=some (.ref C)∧PySem.W.nsIn K mainGlobals x=some (some (.ref C))
theorem se_cls {x:Str} {pos:Pos} (h:ClsAt X.K X.mg x) (hg:Gl X x) (hd:autoParam ((x == ("__debug__":Str))=false) Au.h3._auto_1):SE X E (.Name x pos) (eC (.cls x)):=by
 obtain ⟨C,hm,hn⟩:=h
 exact se_c (pe_glob hg hm (v:=.ref C) rfl hd) fun _ _=>by unfold RD; exact ⟨C,hn,rfl⟩
noncomputable def TryAt (K:PySem.W.Frag) (mg:Str→Option Value) (x:Str) (cs:List Str):Prop:=∃ Cp,mg x=some Cp∧∀ y ∈ cs,∃ c,PySem.W.nsIn K mainGlobals y=some (some c)∧PySem.W.exmOne K c Cp=some true
theorem ss_tryT {body:List Stmt} {b₀:Stmt} {suite:List Stmt} {x n:Str} {np hpos pos:Pos} {i nN:Nat} {mb mh:SM} (h:TryAt X.K X.mg x cs) (hex:X.ex=[]) (hf:X.stack=X.env :: X.outer∧X.env.frame=some X.env.locals)
  (hg:Gl X x) (hN:X.N.Nodup) (hi:X.N[i]?=some n) (hn:nN=X.N.length) (hl:X.env.scope.names.lookup n=some .local)
  (hb:∀ (p:List (Addr × Obj)) (W:Value→Shared→Prop) (E1:XK),Passes (CX1 X.prog X.w) (X.with p W) E1→SSs (X.with p W) E1 body mb)
  (hh:∀ (ea:Addr) (o:Obj) (u:HO),ZO o→SSs (X.suite ea (.frz o u)) E0 (b₀ :: suite) mh) (hd:autoParam ((x == ("__debug__":Str))=false) Au.h3._auto_1):
  SS X E (.Try body [.ExceptHandler (some (.Name x np)) (some n) (b₀ :: suite) hpos] [] [] pos) (sTry cs i nN mb mh):=by
 obtain ⟨Cp,hm,hc⟩:=h
 refine ss_try hex hf hg hm (fun y hy c hcn=>?_) hN hi hn hl hb hh hd
 obtain ⟨c',e1,e2⟩:=hc y (List.contains_iff_mem.mp hy)
 rw [hcn] at e1
 cases e1
 exact e2
end
end PD
namespace PD
open PySem PySem.Spec PyProof.Rows L2
section
variable {X:Cx} {E:XK}
end
end PD
namespace PD
open PySem PySem.Spec PyProof.Rows L2
section
variable {X:Cx} {E:XK}
noncomputable def mCount:Sto→D→List D→R D
 | S,.lst a,[x]=>if flatD x=true∧a.all flatD=true then .ok (.int (a.countP fun z=>eqF z x:Nat)) S else .bad
 | _,_,_=>.bad
noncomputable def mIndex:Sto→D→List D→R D
 | S,.lst a,[x]=>if flatD x=true∧a.all flatD=true then (match a.findIdx? fun z=>eqF z x with
   | some j=>.ok (.int (j:Nat)) S
   | none=>.bad) else .bad
 | _,_,_=>.bad
theorem eqs_ok {K:PySem.W.Frag} {w:Wd} {H:Hp} {x:D} {y:V} (qx:RD K w H x y) (hx:flatD x=true):∀ {ds:List D} {vs:List V} {us:List Value},RDs K w H ds vs→Vals vs us→ds.all flatD=true→us.map (eqU y)=ds.map fun z=>eqF z x
 | [],_,_,q,r,_=>by
  rw [q.nil_inv] at r
  cases r
  rfl
 | d :: ds,_,_,q,r,h=>by
  obtain ⟨v,vs,rfl,p,t⟩:=q.cons_inv
  rw [List.all_cons,Bool.and_eq_true] at h
  cases r with
  | cons r1 r2=>rw [List.map_cons,List.map_cons,eqU_of r1 (flat_ok p h.1),eqF_ok p qx h.1 hx,eqs_ok qx hx t r2 h.2]
theorem list_obj {s:Shared} {pa:Addr} {its:Array Value} (h:PlainL s.heap pa its):∃ n dd sl,s.heap.get? pa=some { cls:=.type "list",dict:=dd,data:=.seq its n,slots:=sl }:=by
 obtain ⟨⟨oc,od,oda,osl⟩,n,ho,hcl,hdn,hd⟩:=h
 dsimp only at hcl hdn hd
 subst hcl hd
 exact ⟨n,_,_,ho⟩
theorem xm_count:MtR X "list.count" (xM X.K E mCount):=by
 rintro pins s σ H x xs v us Q I rx rs ⟨w,S,d,ds,hS,qd,qs,p⟩
 unfold mCount at p
 split at p
 ·rename_i a y
  split at p
  ·rename_i hf
   obtain ⟨pp,vs,rfl,z,ra⟩:=qd.lstI
   obtain ⟨yv,rfl,qy⟩:=qs.one_inv
   cases (show v=Value.ref pp from rx)
   obtain ⟨u,rfl,ru⟩:=rs.one
   obtain ⟨its,r1,hp,_⟩:=I.list (SqL.of z.1)
   obtain ⟨n,dd,sl,ho⟩:=list_obj hp
   have he:=eqs_ok qy hf.1 ra r1 hf.2
   refine call_meets PySem.F.slot_list_count ⟨_,ho,rfl⟩ PySem.F.entry_list_count (PySem.F.args_list_count_2 _ _) (SeqAt.list_countAt pp its.toArray n dd sl u (eqU yv)) ⟨ho,fun y hy=>mem_eqAt ru (flat_ok qy hf.1) r1 (flats_ok ra hf.2) y (by simpa using hy),?_⟩
   have hc:its.toArray.toList.countP (eqU yv)=a.countP fun z=>eqF z y:=by
    have e1:∀ {α:Type} (l:List α) (f:α→Bool),l.countP f=(l.map f).countP id:=fun l f=>by rw [List.countP_map]; rfl
    rw [e1,e1 a,show its.toArray.toList=its from rfl,he]
   rw [hc]
   exact ⟨.int _,H,I.tok _,⟨_,rfl⟩,p.ret RD.mkI hS⟩
  ·exact p.elim
 ·exact p.elim
theorem xm_index:MtR X "list.index" (xM X.K E mIndex):=by
 rintro pins s σ H x xs v us Q I rx rs ⟨w,S,d,ds,hS,qd,qs,p⟩
 unfold mIndex at p
 split at p
 ·rename_i a y
  split at p
  ·rename_i hf
   split at p
   ·rename_i j hj
    obtain ⟨pp,vs,rfl,z,ra⟩:=qd.lstI
    obtain ⟨yv,rfl,qy⟩:=qs.one_inv
    cases (show v=Value.ref pp from rx)
    obtain ⟨u,rfl,ru⟩:=rs.one
    obtain ⟨its,r1,hp,hz⟩:=I.list (SqL.of z.1)
    obtain ⟨n,dd,sl,ho⟩:=list_obj hp
    have he:=eqs_ok qy hf.1 ra r1 hf.2
    have hlen:its.length=a.length:=by have:=congrArg List.length he; simpa using this
    have hzl:vs.length=a.length:=ra.length
    have hz':vs.length≤sizeLine:=hz
    rw [sizeLine_eq] at hz'
    have hg:∀ m (hm:m < its.length) (hm':m < a.length),eqU yv its[m]=eqF a[m] y:=fun m hm hm'=>by
     have:=congrArg (fun l=>l[m]?) he
     simpa [List.getElem?_eq_getElem hm,List.getElem?_eq_getElem hm'] using this
    obtain ⟨hja,hit,hno⟩:=List.findIdx?_eq_some_iff_getElem.mp hj
    refine call_meets PySem.F.slot_list_index ⟨_,ho,rfl⟩ PySem.F.entry_list_index (PySem.F.args_list_index_2 _ _) (SeqAt.list_indexAt pp its.toArray n dd sl u (eqU yv) j (by simpa [hlen] using hja) (by omega) ?_ fun m hm hmj=>?_) ⟨ho,fun y hy=>mem_eqAt ru (flat_ok qy hf.1) r1 (flats_ok ra hf.2) y (by simpa using hy),⟨.int _,H,I.tok _,⟨_,rfl⟩,p.ret RD.mkI hS⟩⟩
    ·have:=hg j (by rw [hlen]; exact hja) hja
     simpa [this] using hit
    ·have hm':m < a.length:=by omega
     have:=hg m (by rw [hlen]; exact hm') hm'
     have q:=hno m hmj
     simp only [List.getElem_toArray]
     rw [this]
     simpa using q
   ·exact p.elim
  ·exact p.elim
 ·exact p.elim
end
end PD
namespace PD
open PySem PySem.Spec PyProof.Rows L2
open Classical in
section
variable {X:Cx} {E:XK} {c:Expr} {body:List Stmt} {mt:TM} {m:SM} {pos:Pos}
end
end PD
namespace PD
open PySem PySem.Spec PyProof.Rows L2
section
variable {X:Cx} {E:XK}
noncomputable def eqP (a b:D):Option Bool:=match eqS a b with
 | some c=>some c
 | none=>match toPy a,toPy b with
  | some p,some q=>if SeqAt.shaped p=true∧SeqAt.shaped q=true then some (PyData.eqv p q) else none
  | _,_=>none
noncomputable def oEqP:Sto→D→D→Option D:=fun _ a b=>(eqP a b).map .bl
noncomputable def oNeP:Sto→D→D→Option D:=fun _ a b=>(eqP a b).map fun c=>.bl (!c)
theorem eqP_cases {a b:D} {c:Bool} (h:eqP a b=some c):eqS a b=some c ∨ ∃ p q,toPy a=some p∧toPy b=some q∧SeqAt.shaped p=true∧SeqAt.shaped q=true∧c=PyData.eqv p q:=by
 unfold eqP at h
 split at h
 ·rename_i c' e; cases h; exact .inl e
 ·split at h
  ·rename_i p q e1 e2
   split at h
   ·rename_i hs; cases h; exact .inr ⟨p,q,e1,e2,hs.1,hs.2,rfl⟩
   ·cases h
  ·cases h
theorem xo_eqP {k:Nat} (hr:Room k X.A):OpR X (compareOp .Eq) (xO X.K E oEqP):=by
 rintro pins s σ H x y v u Q I rx ry ⟨w,S,d,e,hS,qd,qe,p⟩
 obtain ⟨z,hz,p⟩:=p.of
 unfold oEqP at hz
 cases h:eqP d e with
 | none=>rw [h] at hz; cases hz
 | some c=>
  rw [h] at hz; cases hz
  rcases eqP_cases h with h | ⟨a,b,e1,e2,s1,s2,rfl⟩
  ·exact xo_eq pins s σ H x y v u Q I rx ry ⟨w,S,d,e,hS,qd,qe,by unfold oEq; rw [h]; exact p⟩
  ·obtain ⟨as,r1,_⟩:=reads_ok I d x v a qd rx e1
   obtain ⟨bs,r2,_⟩:=reads_ok I e y u b qe ry e2
   exact eq_dataH r1 r2 s1 s2 hr.units ⟨.bl _,H,I,rfl,p.ret RD.mkB hS⟩
theorem xo_neP {k:Nat} (hr:Room k X.A):OpR X (compareOp .NotEq) (xO X.K E oNeP):=by
 rintro pins s σ H x y v u Q I rx ry ⟨w,S,d,e,hS,qd,qe,p⟩
 obtain ⟨z,hz,p⟩:=p.of
 unfold oNeP at hz
 cases h:eqP d e with
 | none=>rw [h] at hz; cases hz
 | some c=>
  rw [h] at hz; cases hz
  rcases eqP_cases h with h | ⟨a,b,e1,e2,s1,s2,rfl⟩
  ·exact xo_ne pins s σ H x y v u Q I rx ry ⟨w,S,d,e,hS,qd,qe,by unfold oNe; rw [h]; exact p⟩
  ·obtain ⟨as,r1,_⟩:=reads_ok I d x v a qd rx e1
   obtain ⟨bs,r2,_⟩:=reads_ok I e y u b qe ry e2
   exact ne_dataH r1 r2 s1 s2 hr.units ⟨.bl _,H,I,rfl,p.ret RD.mkB hS⟩
end
end PD
namespace PD
open PySem PySem.Spec PyProof.Rows L2
theorem law_spN {f:FM} (h:∀ ns:List Int,ns.length≤63→∃ S,f [.fz (ns.map .int)] []=.ok (.bl true) S) (K:PySem.W.Frag) (H:Hp) (a:Addr) (ns:List Int) (hn:ns.length≤63) (ho:Only H) (hs:SqL K H a (ns.map V.int)):
  spN K 1 f [.ref a] H (fun v _=>v=.bl true) fun _ _ _=>False:=law_sp h K H a ns hn ho hs
theorem cx1_no {P:Program} {w:World} {l:List Env} {H:Hp} {s s':Shared} {e:Value} (h:CX1 P w l H s (fun _ _ _=>False) e s'):False:=by
 obtain ⟨_,_,_,_,_,_,_,_,_,z⟩:=h
 exact z
theorem exk_mk {K:PySem.W.Frag} {C:Addr} {cd:ClassData} (g1:PySem.W.findIn K (.ref C) "__getattribute__" = some (some (.builtin "BaseException.__getattribute__"))) (g2:PySem.W.findIn K (.ref C) "__getattr__" = some none)
  (g3:PySem.W.findIn K (.ref C) "__class__" = some (some (.builtin "object.__class__"))) (m1:PySem.W.mroIn K C (.type "BaseException")=some true) (m2:PySem.W.mroIn K C (.type "object")=some true) (c:PySem.W.clsIn K C=some cd):ExK K C:=
 ⟨g1,g2,g3,m1,m2,by rw [c]; rfl⟩
end PD
namespace SQ
open PySem PySem.Spec PyProof.Rows
open Sem (wp)
noncomputable def nm:Bool→String
 | true=>"tuple_iterator"
 | false=>"list_iterator"
noncomputable def It (k:Bool) (h:Heap) (it a:Addr) (i:Nat):Prop:=∃ o,h.get? it=some o∧o.cls=.type (nm k)∧o.data=.fields #[.ref a,.int i 0]
section
variable {prog:Program} {w:World} {A:Around} {E:Value→Shared→Prop} {s:Shared}
end
noncomputable abbrev z1 (k:Bool) (h:Heap) (l1:Addr):Heap:=h.push { cls:=.type (nm k),data:=.fields #[.ref l1,.int 0 0] }
noncomputable abbrev z2 (k m:Bool) (h:Heap) (l1 l2:Addr):Heap:=(z1 k h l1).push { cls:=.type (nm m),data:=.fields #[.ref l2,.int 0 0] }
noncomputable abbrev z3 (k m:Bool) (h:Heap) (l1 l2:Addr):Heap:=(z2 k m h l1 l2).push { cls:=.type "tuple",data:=.seq #[.ref h.objs.size,.ref (z1 k h l1).objs.size] }
section
variable {prog:Program} {w:World} {A:Around} {E:Value→Shared→Prop} {s:Shared}
end
section
variable {prog:Program} {w:World} {A:Around} {E:Value→Shared→Prop} {s:Shared}
end
end SQ
namespace L2
open PySem PySem.Spec PyProof.Rows
section
variable {X:Cx} {pins:List (Addr × Obj)} {σ:St} {H:Hp} {s:Shared} {h':Heap}
end
end L2
namespace L2
open PySem PySem.Spec PyProof.Rows
section
variable {X:Cx} {es:List Expr} {n:Nat} {tp:Pos}
end
end L2
namespace PD
open PySem PySem.Spec PyProof.Rows L2
section
variable {X:Cx} {E:XK} {a b:Expr} {pos:Pos}
end
end PD
namespace PD
open PySem PySem.Spec PyProof.Rows L2
end PD
namespace SQ
open PySem PySem.Spec PyProof.Rows
section
variable {prog:Program} {w:World} {A:Around} {E:Value→Shared→Prop} {s:Shared}
end
end SQ
namespace PD
open PySem PySem.Spec PyProof.Rows L2
section
variable {X:Cx} {E:XK}
end
end PD
namespace PD
open PySem PySem.Spec PyProof.Rows L2
section
variable {X:Cx} {E:XK} {a b:Expr} {es:List Expr} {ms:AM} {x:Str} {p pos:Pos}
end
end PD
namespace PD
open PySem PySem.Spec PyProof.Rows L2
section
variable {M:Model} {A:Around} {E:Value→Shared→Prop} {s:Shared}
end
section
variable {X:Cx} {pins:List (Addr × Obj)} {σ:L2.St} {H:Hp} {s:Shared}
end
end PD
namespace PD
open PySem PySem.Spec PyProof.Rows L2
end PD
namespace PD
open PySem PySem.Spec PyProof.Rows L2
section
variable {K:PySem.W.Frag} {w:Wd} {H:Hp} {S:Sto}
end
section
variable {X:Cx} {E:XK}
end
end PD
namespace L2
open PySem PySem.Spec PyProof.Rows
end L2
namespace PD
open PySem PySem.Spec PyProof.Rows L2
section
variable {X:Cx} {E:XK}
end
end PD
namespace PD
open PySem PySem.Spec PyProof.Rows L2
section
variable {X:Cx} {E:XK}
end
section
variable {K:PySem.W.Frag} {w:Wd} {H:Hp}
end
section
variable {X:Cx} {E:XK} {pos:Pos}
end
end PD
namespace PD
open PySem PySem.Spec PyProof.Rows L2
section
variable {X:Cx} {E:XK}
end
end PD
namespace L2
open PySem PySem.Spec PyProof.Rows
section
variable {X:Cx} {tg:Expr}
end
end L2
namespace PD
open PySem PySem.Spec PyProof.Rows L2
section
variable {X:Cx} {E:XK} {a b c:Expr} {pos:Pos}
end
end PD
namespace PySem
open PyProof.Rows
namespace F
end F
section
variable {prog:Program} {w:World} {A:Around} {E:Value→Shared→Prop} {s:Shared}
end
end PySem
namespace L2
open PySem PySem.Spec PyProof.Rows
section
variable {X:Cx} {tg:Expr}
end
end L2
namespace PD
open PySem PySem.Spec PyProof.Rows L2
section
variable {X:Cx} {E:XK} {a:Expr} {pos:Pos}
end
end PD
namespace PD
open PySem PySem.Spec PyProof.Rows L2
section
variable {X:Cx} {E:XK} {pos:Pos}
theorem se_dic0:SE X E (.Dict [] [] pos) (eDic []):=⟨
 pe_weak pe_dnewK fun s H Q zq=>ex6 zq fun w r S hr hS hp=>fun p hpn=>Post.at (show Post X.K E (RD X.K) w H (R.ok (D.dic []) S) Q from hp) (Ext.new hpn) (by unfold RD; exact ⟨p,[],rfl,⟨upd_same,hS.fresh hpn⟩,RDk.nil⟩) (hS.new hpn)⟩
end
end PD
namespace L2
open PySem PySem.Spec PyProof.Rows
section
variable {X:Cx} {tg:Expr}
end
end L2
namespace PD
open PySem PySem.Spec PyProof.Rows L2
section
variable {X:Cx} {E:XK}
end
end PD
namespace L2
open PySem PySem.Spec PyProof.Rows
end L2
namespace PD
open PySem PySem.Spec PyProof.Rows L2
section
variable {X:Cx} {E:XK}
end
end PD
namespace PySem
open PyProof.Rows
section
variable {prog:Program} {w:World} {A:Around} {E:Value→Shared→Prop} {s:Shared} {K:Type} [DecidableEq K] {knd:KeyKind prog w K}
end
end PySem
namespace PD
open PySem PySem.Spec PyProof.Rows L2
section
variable {X:Cx} {E:XK}
end
end PD
namespace PD
open PySem PySem.Spec PyProof.Rows L2
open AutoSeq1 (wpAny_loadPart')
open MeetsSeq MeetsSeq2 MeetsSeq3 SeqRoads2 PySem.SeqAt
end PD
namespace PD
open PySem PySem.Spec PyProof.Rows L2
section
variable {prog:Program} {w:World} {A:Around} {R:Result→Shared→Prop} {I:Addr} {fp wr:List Addr} {n:Nat} {P:Nat→Value→Prop} {St:Nat→Heap→Prop} {h0:Heap} {bt:Nat→Nat→Bool} {S:Addr} {kw:List (Str × Value)}
end
end PD
namespace PD
open PySem PySem.Spec PyProof.Rows L2
section
variable {X:Cx} {E:XK} {pins:List (Addr × Obj)} {σ:L2.St} {H:Hp} {s:Shared}
end
section
variable {prog:Program} {w:World} {A:Around} {E:Value→Shared→Prop} {s:Shared}
end
end PD
namespace PD
open PySem PySem.Spec PyProof.Rows L2
section
variable {prog:Program} {w:World} {A:Around} {E:Value→Shared→Prop} {s:Shared}
end
section
variable {X:Cx} {E:XK}
variable {a:Expr} {ms:AM} {x:Str} {p pos kp:Pos} {id:String} {nm:Str}
end
end PD
namespace SR
open PySem PyProof.Rows
noncomputable abbrev SM (α:Type):=StateT SortSt Sem α
section
variable {prog:Program} {w:World} {A:Around} {E:Value→Shared→Prop} {s:Shared}
end
section
variable {prog:Program} {w:World} {A:Around} {E:Value→Shared→Prop} {s:Shared}
end
end SR
namespace SR
open PySem PyProof.Rows
section
variable {a b o:Array Keyed} {i j k:Nat}
end
section
variable {prog:Program} {w:World} {A:Around} {E:Value→Shared→Prop} {s:Shared}
end
end SR
namespace SR
open PySem PyProof.Rows
section
variable {prog:Program} {w:World} {A:Around} {E:Value→Shared→Prop} {s:Shared}
end
end SR
namespace SR
open PySem PyProof.Rows
section
variable {a b o:Array Keyed} {i j k z:Nat}
end
section
variable {prog:Program} {w:World} {A:Around} {E:Value→Shared→Prop} {s:Shared}
end
end SR
namespace SR
open PySem PyProof.Rows
section
variable {prog:Program} {w:World} {A:Around} {E:Value→Shared→Prop} {s:Shared} {a0 A0:Array Keyed} {P:Array (Nat × Nat × Nat)} {lo:Nat}
end
end SR
namespace SR
open PySem PyProof.Rows
section
variable {prog:Program} {w:World} {A:Around} {E:Value→Shared→Prop} {s:Shared} {a0 A0:Array Keyed} {P:Array (Nat × Nat × Nat)} {lo:Nat}
end
end SR
namespace SR
open PySem PyProof.Rows
section
variable {prog:Program} {w:World} {A:Around} {E:Value→Shared→Prop} {s:Shared} {a0:Array Keyed}
end
end SR
namespace SR
open PySem PyProof.Rows
section
variable {prog:Program} {w:World} {A:Around} {E:Value→Shared→Prop} {s:Shared} {a0:Array Keyed}
end
end SR
namespace SR
open PySem PyProof.Rows
section
variable {prog:Program} {w:World} {A:Around} {E:Value→Shared→Prop} {s:Shared}
end
end SR
namespace SQ
open PySem PySem.Spec PyProof.Rows
section
variable {prog:Program} {w:World} {A:Around} {E:Value→Shared→Prop} {s:Shared}
end
end SQ
namespace PD
open PySem PySem.Spec PyProof.Rows L2
section
variable {X:Cx} {E:XK}
end
end PD
namespace PD
open PySem PySem.Spec PyProof.Rows L2
section
variable {prog:Program} {w:World} {A:Around} {R:Result→Shared→Prop} {I:Addr} {fp wr:List Addr} {n:Nat} {P:Nat→Value→Prop} {St:Nat→Heap→Prop} {h0:Heap} {bt:Nat→Nat→Bool} {S:Addr} {kw:List (Str × Value)}
end
section
variable {prog:Program} {w:World} {A:Around} {E:Value→Shared→Prop} {s:Shared}
end
section
variable {X:Cx} {E:XK}
end
end PD
namespace L2
open PySem PySem.Spec PyProof.Rows
section
variable {X:Cx} {tg:Expr}
end
end L2
namespace PD
open PySem PySem.Spec PyProof.Rows L2
section
variable {X:Cx} {E:XK}
end
end PD
namespace PD
open PySem PySem.Spec PyProof.Rows L2
section
variable {X:Cx} {E:XK}
end
end PD
namespace PD
open PySem PySem.Spec PyProof.Rows L2
section
variable {X:Cx} {E:XK} {a:Expr} {ma:EM}
end
end PD
namespace PySem
open PyProof.Rows
namespace F
end F
section
variable {prog:Program} {w:World} {A:Around} {E:Value→Shared→Prop} {s:Shared}
open AutoSeq1 (wpAny_loadPart')
end
end PySem
namespace L2
open PySem PySem.Spec PyProof.Rows
section
variable {X:Cx}
end
end L2
namespace PD
open PySem PySem.Spec PyProof.Rows L2
section
variable {X:Cx} {E:XK} {a:Expr}
end
end PD
namespace L2
open PySem PySem.Spec PyProof.Rows
section
variable {X:Cx}
end
end L2
namespace PD
open PySem PySem.Spec PyProof.Rows L2
section
variable {X:Cx} {E:XK}
end
end PD
namespace PySem
section
variable {M:Model} {A:Around} {E:Value→Shared→Prop} {s:Shared} {env:Env}
end
end PySem
namespace L2
open PySem PySem.Spec PyProof.Rows
section
variable {X:Cx} {pins:List (Addr × Obj)} {σ:St} {H:Hp} {s:Shared}
end
end L2
namespace PD
open PySem PySem.Spec PyProof.Rows L2
section
variable {X:Cx} {E:XK}
end
end PD
namespace PD
open PySem PySem.Spec PyProof.Rows L2
section
variable {X:Cx} {E:XK}
end
end PD
namespace PD
open PySem PySem.Spec PyProof.Rows L2
section
variable {prog:Program} {w:World} {A:Around} {Ex:Value→Shared→Prop} {s:Shared}
end
section
variable {X:Cx} {E:XK}
end
end PD
namespace L2
open PySem PySem.Spec PyProof.Rows
section
variable {X:Cx}
end
end L2
namespace PD
open PySem PySem.Spec PyProof.Rows L2
section
variable {X:Cx} {E:XK} {a:Expr}
end
end PD
namespace PySem
open PyProof.Rows
open Sem (wp)
namespace F
end F
section
variable {prog:Program} {w:World} {A:Around} {E:Value→Shared→Prop}
end
section
variable {prog:Program} {w:World} {K:Type} [DecidableEq K] {knd:KeyKind prog w K} {A:Around} {R:Result→Shared→Prop}
end
section
variable {prog:Program} {w:World} {K:Type} [DecidableEq K] {knd:KeyKind prog w K} {A:Around} {E:Value→Shared→Prop} {s:Shared}
end
end PySem
namespace L2
open PySem PySem.Spec PyProof.Rows
section
variable {X:Cx}
end
end L2
namespace PD
open PySem PySem.Spec PyProof.Rows L2
section
variable {X:Cx} {E:XK}
end
end PD
namespace L2
open PySem PySem.Spec PyProof.Rows
section
variable {X:Cx}
end
end L2
namespace PD
open PySem PySem.Spec PyProof.Rows L2
section
variable {X:Cx} {E:XK}
variable {d:Expr} {md:EM} {x:Str} {p pos0 apos pos:Pos}
end
section
variable {X:Cx} {E:XK}
end
end PD
namespace PD
open PySem PySem.Spec PyProof.Rows L2
section
variable {K:PySem.W.Frag} {w w':Wd} {H H':Hp}
end
section
variable {X:Cx} {E:XK} {c f m x:Str} {a b o v:Expr} {ma mo mv:EM} {es:List Expr} {ms:AM} {k n:Nat} {F:FM} {p pos apos tpos:Pos}
end
section
variable {P:Program} {w:World} {K:PySem.W.Frag} {mg:Str→Option Value} {base:Heap}
end
end PD
namespace PD
open PySem PySem.Spec PyProof.Rows L2
section
variable {X:Cx} {E:XK} {o:Expr} {mo:EM} {apos cpos:Pos}
end
end PD
namespace PD
open PySem PySem.Spec PyProof.Rows L2
section
variable {X:Cx} {E:XK} {a b c:Expr} {ma mb mc:EM} {pos:Pos}
end
end PD
namespace PD
open PySem PySem.Spec PyProof.Rows L2
section
variable {X:Cx} {E:XK}
end
end PD
namespace PD
open PySem PySem.Spec PyProof.Rows L2
open AutoSeq1 (wpAny_loadPart')
open MeetsSeq MeetsSeq2 MeetsSeq3 SeqRoads2 PySem.SeqAt
section
variable {X:Cx} {E:XK} {pins:List (Addr × Obj)} {σ:L2.St} {H:Hp} {s:Shared}
end
section
variable {X:Cx} {E:XK}
end
section
variable {X:Cx} {E:XK}
variable {d:Expr} {md:EM} {x:Str} {p pos0 apos pos:Pos}
end
end PD
namespace PD
open PySem PySem.Spec PyProof.Rows L2
section
variable {X:Cx} {E:XK} {a b:Expr} {pos:Pos}
end
end PD
namespace PySem
open PyProof.Rows
section
variable {prog:Program} {w:World} {A:Around} {E:Value→Shared→Prop} {s:Shared} {K:Type} [DecidableEq K] {knd:KeyKind prog w K}
end
end PySem
namespace PD
open PySem PySem.Spec PyProof.Rows L2
section
variable {X:Cx} {E:XK}
end
end PD
namespace L2
open PySem PySem.Spec PyProof.Rows
section
variable {X:Cx}
end
end L2
namespace PD
open PySem PySem.Spec PyProof.Rows L2
section
variable {X:Cx} {E:XK} {d:Expr} {md:EM} {apos pos:Pos}
end
section
variable {X:Cx} {E:XK}
end
end PD
namespace PD
open PySem PySem.Spec PyProof.Rows L2
section
variable {X:Cx} {E:XK}
end
end PD
namespace L2
open PySem PySem.Spec PyProof.Rows
section
variable {X:Cx}
end
end L2
namespace PD
open PySem PySem.Spec PyProof.Rows L2
section
variable {X:Cx} {E:XK}
end
section
variable {X:Cx} {E:XK}
end
end PD
namespace PD
open PySem PySem.Spec PyProof.Rows L2
theorem sss_bad {X:Cx} {E:XK} {st:List Stmt}:SSs X E st sBad:=⟨fun pins s σ H Q I q=>by
 obtain ⟨w,r,S,_,_,h⟩:=q
 exact h.elim⟩
end PD
namespace Lw
open PySem PySem.Spec PyProof.Rows L2 PD
noncomputable def raisedX:List Str:=["NoRow","NoSigns"]
noncomputable def askedX:List Str:=["Lacking","NoNumber","NoRow","NoSigns","NoText","PlusError","TooMany"]
noncomputable def isaX (c k:Str):Bool:=c == k || k == "PlusError"
noncomputable abbrev st__law_cell:Stmt:=top 93
noncomputable def m__law_cell:SM:=(sSeq (sIf (tV (eOp oLt (eVar 1) (eB fLen (aCons (eVar 0) aNil)))) (sRet (eOp oIx (eVar 0) (eVar 1))) sSkip) (sRet (eC (.int 0))))
noncomputable def F__law_cell:FM:=fnM 2 m__law_cell
noncomputable abbrev st__law_mix:Stmt:=top 94
noncomputable def m__law_mix:SM:=(sSeq (sSet 2 (eLst (aCons (eC (.int 48271)) (aCons (eC (.int 69621)) (aCons (eC (.int 16807)) (aCons (eC (.int 39373)) (aCons (eC (.int 30269)) (aCons (eC (.int 40014)) (aCons (eC (.int 40692)) (aCons (eC (.int 50021)) (aCons (eC (.int 61687)) (aCons (eC (.int 71993)) (aCons (eC (.int 83869)) (aCons (eC (.int 95561)) (aCons (eC (.int 30307)) aNil))))))))))))))) (sSeq (sSet 3 (eOp oAdd (eOp oAdd (eOp oMul (eOp oAdd (eOp oMod (eVar 0) (eC (.int 2147483647))) (eC (.int 12345))) (eOp oIx (eVar 2) (eOp oMod (eVar 1) (eC (.int 13))))) (eOp oMul (eC (.int 977)) (eVar 1))) (eOp oMul (eC (.int 7919)) (eOp oFdiv (eVar 1) (eC (.int 13)))))) (sSeq (sSet 3 (eOp oMod (eVar 3) (eC (.int 1000000007)))) (sRet (eOp oFdiv (eOp oMod (eOp oAdd (eOp oMul (eVar 3) (eVar 3)) (eOp oMul (eC (.int 48271)) (eVar 1))) (eC (.int 1000000007))) (eC (.int 7)))))))
noncomputable def F__law_mix:FM:=fnM 4 m__law_mix
noncomputable abbrev st__law_box:Stmt:=top 95
noncomputable def m__law_box:SM:=(sSeq (sSet 2 (eCall F__law_cell (aCons (eVar 0) (aCons (eVar 1) aNil)))) (sSeq (sIf (tV (eOp oEqP (eOp oMod (eVar 2) (eC (.int 2))) (eC (.int 0)))) (sRet (eNew (aCons (eOp oFdiv (eB fAbs (aCons (eVar 2) aNil)) (eC (.int 2))) aNil))) sSkip) (sSeq (sSet 3 (eC (.int 0))) (sSeq (sFor (aRange1 (aCons (eC (.int 40)) aNil)) (.nm 4) (sSet 3 (eOp oAdd (eOp oMul (eVar 3) (eC (.int 142857143))) (eCall F__law_mix (aCons (eVar 2) (aCons (eVar 4) aNil)))))) (sRet (eNew (aCons (eVar 3) aNil)))))))
noncomputable def F__law_box:FM:=fnM 5 m__law_box
noncomputable abbrev st__law_take:Stmt:=top 96
noncomputable def m__law_take:SM:=(sSeq (sAsg (.tp [(.nm 2),(.nm 3)]) (eB fDivmod (aCons (eOp oIx (eVar 0) (eC (.int 0))) (aCons (eVar 1) aNil)))) (sSeq (sPut fPut (eVar 2) (eVar 0) (eC (.int 0))) (sRet (eVar 3))))
noncomputable def F__law_take:FM:=fnM 4 m__law_take
noncomputable abbrev st__law_row:Stmt:=top 97
noncomputable def m__law_row:SM:=(sSeq (sSet 2 (eCall F__law_take (aCons (eVar 0) (aCons (eOp oAdd (eVar 1) (eC (.int 1))) aNil)))) (sSeq (sSet 3 (eCall F__law_take (aCons (eVar 0) (aCons (eC (.int 7)) aNil)))) (sSeq (sSet 4 (eOp oAdd (eC (.int 1)) (eCall F__law_take (aCons (eVar 0) (aCons (eC (.int 9)) aNil))))) (sSeq (sSet 5 (eNew aNil)) (sSeq (sFor (aRange1 (aCons (eVar 2) aNil)) (.nm 6) (sSeq (sSet 7 (eOp oAdd (eC (.int 1)) (eCall F__law_take (aCons (eVar 0) (aCons (eC (.int 12)) aNil))))) (sSeq (sSet 8 (eLst (aCons (eVar 7) (aCons (eVar 7) (aCons (eVar 4) (aCons (eOp oShl (eC (.int 1)) (eVar 6)) (aCons (eOp oAdd (eVar 4) (eOp oMul (eVar 6) (eVar 7))) (aCons (eOp oMul (eVar 7) (eVar 7)) (aCons (eOp oAdd (eOp oMul (eOp oPow (eC (.int 10)) (eC (.int 12))) (eVar 7)) (eVar 7)) aNil))))))))) (sDrop (eMtL mAppend (eVar 5) (aCons (eOp oIx (eLst (aCons (eOp oIx (eVar 8) (eVar 3)) (aCons (eOp oMul (eVar 4) (eVar 7)) aNil))) (eB fInt (aCons (eOp oEqP (eCall F__law_take (aCons (eVar 0) (aCons (eC (.int 9)) aNil))) (eC (.int 8))) aNil))) aNil)))))) (sRet (eB fTuple (aCons (eVar 5) aNil))))))))
noncomputable def F__law_row:FM:=fnM 9 m__law_row
noncomputable abbrev st_is_whole:Stmt:=top 10
noncomputable def m_is_whole:SM:=(sRet (eAnd (eB fIsi (aCons (eVar 0) (aCons (eC (.ty "int")) aNil))) (eNot (eB fIsi (aCons (eVar 0) (aCons (eC (.ty "bool")) aNil))))))
noncomputable def F_is_whole:FM:=fnM 1 m_is_whole
noncomputable abbrev st_is_row:Stmt:=top 12
noncomputable def m_is_row:SM:=(sSeq (sIf (PD.tOr (PD.tNot (tV (eB fIsi (aCons (eVar 0) (aCons (eC (.ty "tuple")) aNil))))) (tV (eOp oGt (eB fLen (aCons (eVar 0) aNil)) (eC (.int (16)))))) (sRet (eC (.bl false))) sSkip) (sRet (eB fAll (aCons (eComp (aSeq (eVar 0) itSeq) 1 [] (.nm 0) tTrue (eAnd (eCall F_is_whole (aCons (eVar 0) aNil)) (eOp oGe (eVar 0) (eC (.int 1))))) aNil))))
noncomputable def F_is_row:FM:=fnM 1 m_is_row
noncomputable abbrev st_need_row:Stmt:=top 13
noncomputable def m_need_row:SM:=(sIf (tNx (PD.tNot (tV (eCall F_is_row (aCons (eVar 0) aNil))))) (sRaise "NoRow" (aCons (eC (.str "a row is a tuple of 0 to 16 whole numbers from 1 on")) aNil)) sSkip)
noncomputable def F_need_row:FM:=fnM 1 m_need_row
noncomputable abbrev st_are_parts:Stmt:=top 16
noncomputable def m_are_parts:SM:=(sSeq (sDrop (eCall F_need_row (aCons (eVar 1) aNil))) sBad)
noncomputable def F_are_parts:FM:=fnM 2 m_are_parts
noncomputable abbrev st_are_signs:Stmt:=top 18
noncomputable def m_are_signs:SM:=(sSeq (sDrop (eCall F_need_row (aCons (eVar 1) aNil))) sBad)
noncomputable def F_are_signs:FM:=fnM 2 m_are_signs
noncomputable abbrev st_need_parts:Stmt:=top 19
noncomputable def m_need_parts:SM:=(sIf (PD.tNot (tV (eCall F_are_parts (aCons (eVar 1) (aCons (eVar 0) aNil))))) (sRaise "NoSigns" (aCons (eC (.str "parts are a tuple of 1, 0 or -1, one for each number of the row")) aNil)) sSkip)
noncomputable def F_need_parts:FM:=fnM 2 m_need_parts
noncomputable abbrev st_kept:Stmt:=top 25
noncomputable def m_kept:SM:=(sSeq (sDrop (eCall F_need_parts (aCons (eVar 0) (aCons (eVar 1) aNil)))) sBad)
noncomputable def F_kept:FM:=fnM 4 m_kept
noncomputable abbrev st_lots:Stmt:=top 24
noncomputable def m_lots:SM:=(sSeq (sDrop (eCall F_need_parts (aCons (eVar 0) (aCons (eVar 1) aNil)))) sBad)
noncomputable def F_lots:FM:=fnM 2 m_lots
noncomputable abbrev st_show:Stmt:=top 91
noncomputable def m_show:SM:=(sSeq (sDrop (eCall F_need_parts (aCons (eVar 0) (aCons (eVar 1) aNil)))) sBad)
noncomputable def F_show:FM:=fnM 2 m_show
noncomputable abbrev st_need_few:Stmt:=top 30
noncomputable def m_need_few:SM:=(sSeq (sDrop (eCall F_need_row (aCons (eVar 0) aNil))) sBad)
noncomputable def F_need_few:FM:=fnM 1 m_need_few
noncomputable abbrev st_sign_table:Stmt:=top 34
noncomputable def m_sign_table:SM:=(sSeq (sDrop (eCall F_need_few (aCons (eVar 0) aNil))) sBad)
noncomputable def F_sign_table:FM:=fnM 1 m_sign_table
noncomputable abbrev st_total:Stmt:=top 20
noncomputable def m_total:SM:=(sSeq (sDrop (eCall F_need_row (aCons (eVar 0) aNil))) sBad)
noncomputable def F_total:FM:=fnM 1 m_total
noncomputable abbrev st_turned:Stmt:=top 22
noncomputable def m_turned:SM:=(sSeq (sDrop (eCall F_need_parts (aCons (eVar 0) (aCons (eVar 1) aNil)))) sBad)
noncomputable def F_turned:FM:=fnM 2 m_turned
noncomputable abbrev st_worth:Stmt:=top 21
noncomputable def m_worth:SM:=(sSeq (sDrop (eCall F_need_parts (aCons (eVar 0) (aCons (eVar 1) aNil)))) sBad)
noncomputable def F_worth:FM:=fnM 2 m_worth
noncomputable abbrev st__law_first:Stmt:=top 99
noncomputable def m__law_first:SM:=(sIf (tNx (tV (eOp oEqP (eVar 0) (eC (.int 0))))) (sDrop (eCall F_are_parts (aCons (eC .non) (aCons (eVar 1) aNil)))) (sIf (tNx (tV (eOp oEqP (eVar 0) (eC (.int 1))))) (sDrop (eCall F_are_signs (aCons (eC .non) (aCons (eVar 1) aNil)))) (sIf (tNx (tV (eOp oEqP (eVar 0) (eC (.int 2))))) (sDrop (eCall F_total (aCons (eVar 1) aNil))) (sIf (tNx (tV (eOp oEqP (eVar 0) (eC (.int 3))))) (sDrop (eCall F_worth (aCons (eVar 1) (aCons (eC .non) aNil)))) (sIf (tNx (tV (eOp oEqP (eVar 0) (eC (.int 4))))) (sDrop (eCall F_turned (aCons (eVar 1) (aCons (eC .non) aNil)))) (sIf (tNx (tV (eOp oEqP (eVar 0) (eC (.int 5))))) (sDrop (eCall F_lots (aCons (eVar 1) (aCons (eC .non) aNil)))) (sIf (tNx (tV (eOp oEqP (eVar 0) (eC (.int 6))))) (sDrop (eCall F_kept (aCons (eVar 1) (aCons (eC .non) aNil)))) (sIf (tNx (tV (eOp oEqP (eVar 0) (eC (.int 7))))) (sDrop (eCall F_show (aCons (eVar 1) (aCons (eC .non) aNil)))) (sDrop (eCall F_sign_table (aCons (eVar 1) aNil)))))))))))
noncomputable def F__law_first:FM:=fnM 2 m__law_first
noncomputable abbrev st_difference_signs:Stmt:=top 74
noncomputable def m_difference_signs:SM:=(sSeq (sDrop (eCall F_need_row (aCons (eVar 0) aNil))) sBad)
noncomputable def F_difference_signs:FM:=fnM 2 m_difference_signs
noncomputable abbrev st_differences:Stmt:=top 73
noncomputable def m_differences:SM:=(sSeq (sDrop (eCall F_need_row (aCons (eVar 0) aNil))) sBad)
noncomputable def F_differences:FM:=fnM 1 m_differences
noncomputable abbrev st_need_row_and_number:Stmt:=top 15
noncomputable def m_need_row_and_number:SM:=(sSeq (sDrop (eCall F_need_row (aCons (eVar 0) aNil))) sBad)
noncomputable def F_need_row_and_number:FM:=fnM 2 m_need_row_and_number
noncomputable abbrev st_above:Stmt:=top 65
noncomputable def m_above:SM:=(sSeq (sDrop (eCall F_need_row_and_number (aCons (eVar 0) (aCons (eVar 1) aNil)))) sBad)
noncomputable def F_above:FM:=fnM 2 m_above
noncomputable abbrev st_unevenness:Stmt:=top 67
noncomputable def m_unevenness:SM:=(sRet (eCall F_above (aCons (eVar 0) (aCons (eC (.int 0)) aNil))))
noncomputable def F_unevenness:FM:=fnM 1 m_unevenness
noncomputable abbrev st_evenest:Stmt:=top 68
noncomputable def m_evenest:SM:=(sSeq (sSet 1 (eCall F_unevenness (aCons (eVar 0) aNil))) sBad)
noncomputable def F_evenest:FM:=fnM 2 m_evenest
noncomputable abbrev st_evenest_many:Stmt:=top 69
noncomputable def m_evenest_many:SM:=(sSeq (sSet 1 (eCall F_unevenness (aCons (eVar 0) aNil))) sBad)
noncomputable def F_evenest_many:FM:=fnM 3 m_evenest_many
noncomputable abbrev st_every_by_parts:Stmt:=top 81
noncomputable def m_every_by_parts:SM:=(sSeq (sDrop (eCall F_need_row (aCons (eVar 0) aNil))) sBad)
noncomputable def F_every_by_parts:FM:=fnM 1 m_every_by_parts
noncomputable abbrev st_every_by_signs:Stmt:=top 82
noncomputable def m_every_by_signs:SM:=(sSeq (sDrop (eCall F_need_row (aCons (eVar 0) aNil))) sBad)
noncomputable def F_every_by_signs:FM:=fnM 1 m_every_by_signs
noncomputable abbrev st_uneven_bound:Stmt:=top 75
noncomputable def m_uneven_bound:SM:=(sSeq (sDrop (eCall F_need_few (aCons (eVar 1) aNil))) sBad)
noncomputable def F_uneven_bound:FM:=fnM 2 m_uneven_bound
noncomputable abbrev st_uneven_paper:Stmt:=top 76
noncomputable def m_uneven_paper:SM:=(sSeq (sDrop (eCall F_need_few (aCons (eVar 0) aNil))) sBad)
noncomputable def F_uneven_paper:FM:=fnM 1 m_uneven_paper
noncomputable abbrev st__law_fourth:Stmt:=top 102
noncomputable def m__law_fourth:SM:=(sIf (tNx (tV (eOp oEqP (eVar 0) (eC (.int 0))))) (sDrop (eCall F_unevenness (aCons (eVar 1) aNil))) (sIf (tNx (tV (eOp oEqP (eVar 0) (eC (.int 1))))) (sDrop (eCall F_evenest (aCons (eVar 1) aNil))) (sIf (tNx (tV (eOp oEqP (eVar 0) (eC (.int 2))))) (sDrop (eCall F_evenest_many (aCons (eVar 1) aNil))) (sIf (tNx (tV (eOp oEqP (eVar 0) (eC (.int 3))))) (sDrop (eCall F_differences (aCons (eVar 1) aNil))) (sIf (tNx (tV (eOp oEqP (eVar 0) (eC (.int 4))))) (sDrop (eCall F_difference_signs (aCons (eVar 1) aNil))) (sIf (tNx (tV (eOp oEqP (eVar 0) (eC (.int 5))))) (sDrop (eCall F_uneven_bound (aCons (eC .non) (aCons (eVar 1) aNil)))) (sIf (tNx (tV (eOp oEqP (eVar 0) (eC (.int 6))))) (sDrop (eCall F_uneven_paper (aCons (eVar 1) aNil))) (sIf (tNx (tV (eOp oEqP (eVar 0) (eC (.int 7))))) (sDrop (eCall F_every_by_parts (aCons (eVar 1) aNil))) (sDrop (eCall F_every_by_signs (aCons (eVar 1) aNil)))))))))))
noncomputable def F__law_fourth:FM:=fnM 2 m__law_fourth
noncomputable abbrev st_missed_by_parts:Stmt:=top 83
noncomputable def m_missed_by_parts:SM:=(sSeq (sDrop (eCall F_need_row (aCons (eVar 0) aNil))) sBad)
noncomputable def F_missed_by_parts:FM:=fnM 2 m_missed_by_parts
noncomputable abbrev st_missed_by_signs:Stmt:=top 84
noncomputable def m_missed_by_signs:SM:=(sSeq (sDrop (eCall F_need_row (aCons (eVar 0) aNil))) sBad)
noncomputable def F_missed_by_signs:FM:=fnM 2 m_missed_by_signs
noncomputable abbrev st_weighed:Stmt:=top 86
noncomputable def m_weighed:SM:=(sSeq (sDrop (eCall F_need_row_and_number (aCons (eVar 0) (aCons (eVar 1) aNil)))) sBad)
noncomputable def F_weighed:FM:=fnM 6 m_weighed
noncomputable abbrev st__law_last:Stmt:=top 103
noncomputable def m__law_last:SM:=(sIf (tNx (tV (eOp oEqP (eVar 0) (eC (.int 0))))) (sDrop (eCall F_missed_by_parts (aCons (eVar 1) aNil))) (sIf (tNx (tV (eOp oEqP (eVar 0) (eC (.int 1))))) (sDrop (eCall F_missed_by_signs (aCons (eVar 1) aNil))) (sDrop (eCall F_weighed (aCons (eVar 1) (aCons (eC .non) aNil))))))
noncomputable def F__law_last:FM:=fnM 2 m__law_last
noncomputable abbrev st__law_marks:Stmt:=top 98
noncomputable def m__law_marks:SM:=(sSeq (sIf (PD.tOr (PD.tNot (tV (eB (fIsX raisedX askedX isaX) (aCons (eVar 0) (aCons (eC (.cls "PlusError")) aNil))))) (PD.tNot (tV (eB (fIsX raisedX askedX isaX) (aCons (eVar 0) (aCons (eC (.ty "ValueError")) aNil)))))) (sRet (eC (.str "other"))) sSkip) (sSeq (sSet 1 (eLst (aCons (eB (fIsX raisedX askedX isaX) (aCons (eVar 0) (aCons (eC (.cls "NoRow")) aNil))) (aCons (eB (fIsX raisedX askedX isaX) (aCons (eVar 0) (aCons (eC (.cls "NoNumber")) aNil))) (aCons (eB (fIsX raisedX askedX isaX) (aCons (eVar 0) (aCons (eC (.cls "NoSigns")) aNil))) (aCons (eB (fIsX raisedX askedX isaX) (aCons (eVar 0) (aCons (eC (.cls "TooMany")) aNil))) aNil)))))) (sSeq (sSet 1 (eOp oAdd (eVar 1) (eLst (aCons (eB (fIsX raisedX askedX isaX) (aCons (eVar 0) (aCons (eC (.cls "Lacking")) aNil))) (aCons (eB (fIsX raisedX askedX isaX) (aCons (eVar 0) (aCons (eC (.cls "NoText")) aNil))) aNil))))) (sSeq (sIf (tV (eOp oNe (eMtL mCount (eVar 1) (aCons (eC (.bl true)) aNil)) (eC (.int 1)))) (sRet (eC (.str "other"))) sSkip) (sRet (eOp oIx (eLst (aCons (eC (.str "row")) (aCons (eC (.str "number")) (aCons (eC (.str "signs")) (aCons (eC (.str "many")) (aCons (eC (.str "lacking")) (aCons (eC (.str "text")) aNil))))))) (eMtL mIndex (eVar 1) (aCons (eC (.bl true)) aNil))))))))
noncomputable def F__law_marks:FM:=fnM 2 m__law_marks
noncomputable abbrev st_need_few_and_number:Stmt:=top 31
noncomputable def m_need_few_and_number:SM:=(sSeq (sDrop (eCall F_need_row_and_number (aCons (eVar 0) (aCons (eVar 1) aNil)))) sBad)
noncomputable def F_need_few_and_number:FM:=fnM 2 m_need_few_and_number
noncomputable abbrev st_is_barred:Stmt:=top 45
noncomputable def m_is_barred:SM:=(sSeq (sDrop (eCall F_need_few_and_number (aCons (eVar 1) (aCons (eVar 2) aNil)))) sBad)
noncomputable def F_is_barred:FM:=fnM 3 m_is_barred
noncomputable abbrev st_is_wide_barred:Stmt:=top 46
noncomputable def m_is_wide_barred:SM:=(sSeq (sDrop (eCall F_need_few_and_number (aCons (eVar 1) (aCons (eVar 2) aNil)))) sBad)
noncomputable def F_is_wide_barred:FM:=fnM 3 m_is_wide_barred
noncomputable abbrev st_layers_for:Stmt:=top 49
noncomputable def m_layers_for:SM:=(sSeq (sDrop (eCall F_need_few_and_number (aCons (eVar 0) (aCons (eVar 1) aNil)))) sBad)
noncomputable def F_layers_for:FM:=fnM 2 m_layers_for
noncomputable abbrev st_part_table:Stmt:=top 35
noncomputable def m_part_table:SM:=(sSeq (sDrop (eCall F_need_few (aCons (eVar 0) aNil))) sBad)
noncomputable def F_part_table:FM:=fnM 1 m_part_table
noncomputable abbrev st_part_ways:Stmt:=top 41
noncomputable def m_part_ways:SM:=(sSeq (sDrop (eCall F_need_few_and_number (aCons (eVar 0) (aCons (eVar 1) aNil)))) sBad)
noncomputable def F_part_ways:FM:=fnM 2 m_part_ways
noncomputable abbrev st_parts_to:Stmt:=top 39
noncomputable def m_parts_to:SM:=(sSeq (sDrop (eCall F_need_few_and_number (aCons (eVar 0) (aCons (eVar 1) aNil)))) sBad)
noncomputable def F_parts_to:FM:=fnM 2 m_parts_to
noncomputable abbrev st_sign_ways:Stmt:=top 40
noncomputable def m_sign_ways:SM:=(sSeq (sDrop (eCall F_need_few_and_number (aCons (eVar 0) (aCons (eVar 1) aNil)))) sBad)
noncomputable def F_sign_ways:FM:=fnM 2 m_sign_ways
noncomputable abbrev st_signs_to:Stmt:=top 38
noncomputable def m_signs_to:SM:=(sSeq (sDrop (eCall F_need_few_and_number (aCons (eVar 0) (aCons (eVar 1) aNil)))) sBad)
noncomputable def F_signs_to:FM:=fnM 2 m_signs_to
noncomputable abbrev st_wide_layers_for:Stmt:=top 50
noncomputable def m_wide_layers_for:SM:=(sSeq (sDrop (eCall F_need_few_and_number (aCons (eVar 0) (aCons (eVar 1) aNil)))) sBad)
noncomputable def F_wide_layers_for:FM:=fnM 2 m_wide_layers_for
noncomputable abbrev st__law_second:Stmt:=top 100
noncomputable def m__law_second:SM:=(sIf (tNx (tV (eOp oEqP (eVar 0) (eC (.int 0))))) (sDrop (eCall F_part_table (aCons (eVar 1) aNil))) (sIf (tNx (tV (eOp oEqP (eVar 0) (eC (.int 1))))) (sDrop (eCall F_signs_to (aCons (eVar 1) (aCons (eC .non) aNil)))) (sIf (tNx (tV (eOp oEqP (eVar 0) (eC (.int 2))))) (sDrop (eCall F_parts_to (aCons (eVar 1) (aCons (eC .non) aNil)))) (sIf (tNx (tV (eOp oEqP (eVar 0) (eC (.int 3))))) (sDrop (eCall F_sign_ways (aCons (eVar 1) (aCons (eC .non) aNil)))) (sIf (tNx (tV (eOp oEqP (eVar 0) (eC (.int 4))))) (sDrop (eCall F_part_ways (aCons (eVar 1) (aCons (eC .non) aNil)))) (sIf (tNx (tV (eOp oEqP (eVar 0) (eC (.int 5))))) (sDrop (eCall F_is_barred (aCons (eC .non) (aCons (eVar 1) (aCons (eC .non) aNil))))) (sIf (tNx (tV (eOp oEqP (eVar 0) (eC (.int 6))))) (sDrop (eCall F_is_wide_barred (aCons (eC .non) (aCons (eVar 1) (aCons (eC .non) aNil))))) (sIf (tNx (tV (eOp oEqP (eVar 0) (eC (.int 7))))) (sDrop (eCall F_layers_for (aCons (eVar 1) (aCons (eC .non) aNil)))) (sDrop (eCall F_wide_layers_for (aCons (eVar 1) (aCons (eC .non) aNil))))))))))))
noncomputable def F__law_second:FM:=fnM 2 m__law_second
noncomputable abbrev st_below:Stmt:=top 64
noncomputable def m_below:SM:=(sSeq (sDrop (eCall F_need_row_and_number (aCons (eVar 0) (aCons (eVar 1) aNil)))) sBad)
noncomputable def F_below:FM:=fnM 2 m_below
noncomputable abbrev st_first_met:Stmt:=top 60
noncomputable def m_first_met:SM:=(sSeq (sDrop (eCall F_need_row_and_number (aCons (eVar 0) (aCons (eVar 1) aNil)))) sBad)
noncomputable def F_first_met:FM:=fnM 4 m_first_met
noncomputable abbrev st_half_worths:Stmt:=top 56
noncomputable def m_half_worths:SM:=(sSeq (sDrop (eCall F_need_row (aCons (eVar 0) aNil))) sBad)
noncomputable def F_half_worths:FM:=fnM 1 m_half_worths
noncomputable abbrev st_is_rest:Stmt:=top 51
noncomputable def m_is_rest:SM:=(sSeq (sDrop (eCall F_need_few_and_number (aCons (eVar 1) (aCons (eVar 2) aNil)))) sBad)
noncomputable def F_is_rest:FM:=fnM 4 m_is_rest
noncomputable abbrev st_is_stair:Stmt:=top 63
noncomputable def m_is_stair:SM:=(sSeq (sDrop (eCall F_need_row_and_number (aCons (eVar 1) (aCons (eVar 2) aNil)))) sBad)
noncomputable def F_is_stair:FM:=fnM 3 m_is_stair
noncomputable abbrev st_many_met:Stmt:=top 57
noncomputable def m_many_met:SM:=(sSeq (sDrop (eCall F_need_row_and_number (aCons (eVar 0) (aCons (eVar 1) aNil)))) sBad)
noncomputable def F_many_met:FM:=fnM 3 m_many_met
noncomputable abbrev st_rest_for:Stmt:=top 53
noncomputable def m_rest_for:SM:=(sSeq (sDrop (eCall F_need_few_and_number (aCons (eVar 0) (aCons (eVar 1) aNil)))) sBad)
noncomputable def F_rest_for:FM:=fnM 3 m_rest_for
noncomputable abbrev st_stair_for:Stmt:=top 62
noncomputable def m_stair_for:SM:=(sSeq (sDrop (eCall F_need_row_and_number (aCons (eVar 0) (aCons (eVar 1) aNil)))) sBad)
noncomputable def F_stair_for:FM:=fnM 3 m_stair_for
noncomputable abbrev st__law_third:Stmt:=top 101
noncomputable def m__law_third:SM:=(sIf (tNx (tV (eOp oEqP (eVar 0) (eC (.int 0))))) (sDrop (eCall F_is_rest (aCons (eC .non) (aCons (eVar 1) (aCons (eC .non) aNil))))) (sIf (tNx (tV (eOp oEqP (eVar 0) (eC (.int 1))))) (sDrop (eCall F_rest_for (aCons (eVar 1) (aCons (eC .non) aNil)))) (sIf (tNx (tV (eOp oEqP (eVar 0) (eC (.int 2))))) (sDrop (eCall F_half_worths (aCons (eVar 1) aNil))) (sIf (tNx (tV (eOp oEqP (eVar 0) (eC (.int 3))))) (sDrop (eCall F_many_met (aCons (eVar 1) (aCons (eC .non) aNil)))) (sIf (tNx (tV (eOp oEqP (eVar 0) (eC (.int 4))))) (sDrop (eCall F_first_met (aCons (eVar 1) (aCons (eC .non) aNil)))) (sIf (tNx (tV (eOp oEqP (eVar 0) (eC (.int 5))))) (sDrop (eCall F_is_stair (aCons (eC .non) (aCons (eVar 1) (aCons (eC .non) aNil))))) (sIf (tNx (tV (eOp oEqP (eVar 0) (eC (.int 6))))) (sDrop (eCall F_stair_for (aCons (eVar 1) (aCons (eC .non) aNil)))) (sIf (tNx (tV (eOp oEqP (eVar 0) (eC (.int 7))))) (sDrop (eCall F_below (aCons (eVar 1) (aCons (eC .non) aNil)))) (sDrop (eCall F_above (aCons (eVar 1) (aCons (eC .non) aNil))))))))))))
noncomputable def F__law_third:FM:=fnM 2 m__law_third
noncomputable abbrev st__law_said:Stmt:=top 104
noncomputable def m__law_said:SM:=(sSeq (sTry raisedX 3 4 (sIf (tNx (tV (eOp oEqP (eVar 0) (eC (.int 0))))) (sDrop (eCall F__law_first (aCons (eVar 1) (aCons (eVar 2) aNil)))) (sIf (tNx (tV (eOp oEqP (eVar 0) (eC (.int 1))))) (sDrop (eCall F__law_second (aCons (eVar 1) (aCons (eVar 2) aNil)))) (sIf (tNx (tV (eOp oEqP (eVar 0) (eC (.int 2))))) (sDrop (eCall F__law_third (aCons (eVar 1) (aCons (eVar 2) aNil)))) (sIf (tNx (tV (eOp oEqP (eVar 0) (eC (.int 3))))) (sDrop (eCall F__law_fourth (aCons (eVar 1) (aCons (eVar 2) aNil)))) (sDrop (eCall F__law_last (aCons (eNx (eOp oMod (eVar 1) (eC (.int 3)))) (aCons (eVar 2) aNil)))))))) (sRet (eCall F__law_marks (aCons (eVar 3) aNil)))) (sRet (eC (.str "told"))))
noncomputable def F__law_said:FM:=fnM 4 m__law_said
noncomputable abbrev st_law:Stmt:=top 105
noncomputable def m_law:SM:=(sSeq (sFor (aRange1 (aCons (eB fMax (aCons (eC (.int 1)) (aCons (eB fMin (aCons (eB fLen (aCons (eVar 0) aNil)) (aCons (eC (.int 3)) aNil))) aNil))) aNil)) (.nm 1) (sSeq (sSet 2 (eCall F__law_box (aCons (eVar 0) (aCons (eVar 1) aNil)))) (sSeq (sSet 3 (eCall F__law_row (aCons (eVar 2) (aCons (eC (.int 6)) aNil)))) (sSeq (sSet 4 (eLst (aCons (eC .non) (aCons (eB fList (aCons (eVar 3) aNil)) (aCons (eOp oAdd (eVar 3) (eTup (aCons (eC (.int 0)) aNil))) (aCons (eOp oAdd (eTup (aCons (eUn oNeg (eC (.int 1))) aNil)) (eVar 3)) (aCons (eOp oAdd (eVar 3) (eTup (aCons (eC (.bl true)) aNil))) (aCons (eOp oMul (eTup (aCons (eC (.int 1)) aNil)) (eC (.int 17))) (aCons (eC (.str "1")) (aCons (eC (.int 5)) (aCons (eOp oAdd (eVar 3) (eTup (aCons (eC (.str "1")) aNil))) (aCons (eDic []) (aCons (eTup (aCons (eVar 3) aNil)) aNil))))))))))))) (sSeq (sSet 4 (eOp oAdd (eVar 4) (eLst (aCons (eOp oAdd (eVar 3) (eTup (aCons (eC .non) aNil))) (aCons (eLst (aCons (eLst aNil) aNil)) (aCons (eC (.bl false)) aNil)))))) (sFor (aRange1 (aCons (eC (.int 4)) aNil)) (.nm 5) (sSeq (sSet 6 (eOp oIx (eVar 4) (eCall F__law_take (aCons (eVar 2) (aCons (eC (.int 14)) aNil))))) (sFor (aRange1 (aCons (eC (.int 5)) aNil)) (.nm 7) (sFor (aRange1 (aCons (eC (.int 9)) aNil)) (.nm 8) (sIf (tV (eOp oNeP (eCall F__law_said (aCons (eVar 7) (aCons (eVar 8) (aCons (eVar 6) aNil)))) (eC (.str "row")))) (sRet (eC (.bl false))) sSkip)))))))))) (sRet (eC (.bl true))))
noncomputable def F_law:FM:=fnM 9 m_law
structure Gr (b:Nat) (S S':Sto):Prop where
 bx:∃ n,S'[b]?=some (.lst [.int n])
 oth:∀ i,i ≠ b→i < S.length→S'[i]?=S[i]?
 len:S.length≤S'.length
theorem Gr.trans {b:Nat} {S S1 S2:Sto} (x:Gr b S S1) (y:Gr b S1 S2):Gr b S S2:=
 ⟨y.bx,fun i h l=>(y.oth i h (Nat.lt_of_lt_of_le l x.len)).trans (x.oth i h l),Nat.le_trans x.len y.len⟩
theorem Gr.self {b:Nat} {S S1:Sto} (x:Gr b S S1):Gr b S1 S1:=⟨x.bx,fun _ _ _=>rfl,Nat.le_refl _⟩
theorem Gr.more {b:Nat} {S S1:Sto} (x:Gr b S S1) (l:Sto):Gr b S (S1 ++ l):=by
 obtain ⟨n,hn⟩:=x.bx
 have hb:b < S1.length:=(List.getElem?_eq_some_iff.mp hn).1
 refine ⟨⟨n,by rw [List.getElem?_append_left hb]; exact hn⟩,fun i h hl=>?_,by rw [List.length_append]; have:=x.len; omega⟩
 rw [List.getElem?_append_left (Nat.lt_of_lt_of_le hl x.len)]
 exact x.oth i h hl
theorem take_eq {S:Sto} {b:Nat} {n many:Int} (h:S[b]?=some (.lst [.int n])) (h0:0 < many) (h1:many < 1073741824):F__law_take [.ref b,.int many] S=.ok (.int (n % many)) (S.set b (.lst [.int (n / many)])):=by
 simp [F__law_take,fnM,m__law_take,sSeq,sAsg,sPut,sRet,eB,eOp,eVar,eC,aCons,aNil,R.bind,R.of,oIx,seqOf,h,atI,ixN,fDivmod,h0,h1,G.put,G.puts,fPut]
theorem take_ok {S:Sto} {b:Nat} (h:Gr b S S) {many:Int} (h0:0 < many) (h1:many < 1073741824):∃ q S',F__law_take [.ref b,.int many] S=.ok (.int q) S'∧0≤q∧q < many∧Gr b S S':=by
 obtain ⟨n,hn⟩:=h.bx
 have hb:b < S.length:=(List.getElem?_eq_some_iff.mp hn).1
 refine ⟨_,_,take_eq hn h0 h1,Int.emod_nonneg _ (by omega),Int.emod_lt_of_pos _ h0,⟨n / many,by simp [hb]⟩,fun i hi _=>?_,by simp⟩
 rw [List.getElem?_set_ne (Ne.symm hi)]
theorem cell_eq (ns:List Int) (k:Nat) (S:Sto):F__law_cell [.fz (ns.map .int),.int k] S=.ok (.int (ns.getD k 0)) S:=by
 by_cases hk:k < ns.length
 ·simp [F__law_cell,fnM,m__law_cell,sSeq,sIf,sRet,sSkip,tV,eB,eOp,eVar,eC,aCons,aNil,R.bind,R.of,oIx,seqOf,atI,ixN,oCmp,fLen,hk]
 ·simp [F__law_cell,fnM,m__law_cell,sSeq,sIf,sRet,sSkip,tV,eB,eOp,eVar,eC,aCons,aNil,R.bind,R.of,oIx,seqOf,atI,ixN,oCmp,fLen,hk]
theorem at_map (L:List Int) (k:Nat) (h:k < L.length):atI (L.map D.int) (k:Int)=some (.int L[k]):=by
 have e:ixN (L.map D.int).length (k:Int)=some k:=by
  unfold ixN
  rw [if_pos (Int.natCast_nonneg k),List.length_map,if_pos (Int.ofNat_lt.mpr h),Int.toNat_natCast]
 unfold atI
 rw [e]
 show (L.map D.int)[k]?=_
 rw [List.getElem?_map,List.getElem?_eq_getElem h]
 rfl
theorem mix_ok (cell:Int) (j:Nat) (hj:j < 1000) (S:Sto):∃ m:Int,F__law_mix [.int cell,.int j] S=.ok (.int m) S:=by
 have hix:∃ x:Int,smallI x∧atI [D.int 48271,D.int 69621,D.int 16807,D.int 39373,D.int 30269,D.int 40014,D.int 40692,D.int 50021,D.int 61687,D.int 71993,D.int 83869,D.int 95561,D.int 30307] ((j:Int) % 13)=some (.int x):=by
  have hk:j % 13 < 13:=Nat.mod_lt _ (by decide)
  have ha:∀ x ∈ ([48271,69621,16807,39373,30269,40014,40692,50021,61687,71993,83869,95561,30307]:List Int),smallI x:=by decide
  exact ⟨_,ha _ (List.getElem_mem hk),at_map [48271,69621,16807,39373,30269,40014,40692,50021,61687,71993,83869,95561,30307] (j % 13) hk⟩
 obtain ⟨x,hx,hix⟩:=hix
 have h2:∀ y:Int,smallI (y % 1000000007):=fun y=>by
  have:=Int.emod_nonneg y (show (1000000007:Int) ≠ 0 by decide)
  have:=Int.emod_lt_of_pos y (show (0:Int) < 1000000007 by decide)
  exact ⟨by omega,by omega⟩
 have s1:smallI 977:=by decide
 have s2:smallI 7919:=by decide
 have s3:smallI 48271:=by decide
 have hz:(13:Nat)≤sizeLine:=by decide
 simp [F__law_mix,fnM,m__law_mix,sSeq,sSet,sRet,eLst,eOp,eVar,eC,aCons,aNil,R.bind,R.of,oIx,seqOf,oAdd,oMul,oMod,oFdiv,hix,hx,h2,s1,s2,s3,hz]
theorem box_loop (cell:Int):∀ (l:List Nat) (S:Sto) (a b:Option D) (n:Int) (j:Option D),(∀ i ∈ l,i < 1000)→∃ (n':Int) (j':Option D),
  forL (.nm 4) (sSet 3 (eOp oAdd (eOp oMul (eVar 3) (eC (.int 142857143))) (eCall F__law_mix (aCons (eVar 2) (aCons (eVar 4) aNil))))) (l.map fun (i:Nat)=>D.int i) [a,b,some (.int cell),some (.int n),j] S=.ok (.nx [a,b,some (.int cell),some (.int n'),j']) S
 | [],S,a,b,n,j,_=>⟨n,j,rfl⟩
 | i :: l,S,a,b,n,j,h=>by
  obtain ⟨m,hm⟩:=mix_ok cell i (h i List.mem_cons_self) S
  have s1:smallI 142857143:=by decide
  obtain ⟨n',j',e⟩:=box_loop cell l S a b (n * 142857143 + m) (some (.int i)) fun x hx=>h x (List.mem_cons_of_mem _ hx)
  refine ⟨n',j',?_⟩
  simp only [List.map_cons,forL,G.put]
  simp [sSet,eOp,eVar,eC,eCall,aCons,aNil,R.bind,R.of,oAdd,oMul,hm,s1]
  exact e
theorem box_ok (ns:List Int) (k:Nat) (S:Sto):∃ v:Int,F__law_box [.fz (ns.map .int),.int k] S=.ok (.ref S.length) (S ++ [.lst [.int v]]):=by
 have hz:(1:Nat)≤sizeLine:=by decide
 have hc':=cell_eq ns k S
 generalize ns.getD k 0=c at hc'
 by_cases hc:c % 2=0
 ·refine ⟨(if c < 0 then -c else c) / 2,?_⟩
  simp [F__law_box,fnM,m__law_box,sSeq,sSet,sIf,sRet,sSkip,tV,eNew,eB,eCall,eOp,eVar,eC,aCons,aNil,R.bind,R.of,hc',oMod,oEqP,eqP,eqS,hc,fAbs,oFdiv,hz]
 ·obtain ⟨n',j',e⟩:=box_loop c (List.range 40) S (some (.fz (ns.map .int))) (some (.int k)) 0 none (fun i hi=>by have:=List.mem_range.mp hi; omega)
  refine ⟨n',?_⟩
  have hr:(40:Int).toNat=40:=rfl
  simp [F__law_box,fnM,m__law_box,sSeq,sSet,sIf,sRet,sSkip,tV,eNew,eB,eCall,eOp,eVar,eC,aCons,aNil,R.bind,R.of,hc',oMod,oEqP,eqP,eqS,hc,sFor,aRange1,hz]
  rw [e]
  simp [sRet,hz]
noncomputable def okN (x:Int):Prop:=1≤x∧x < 1000000000000000
noncomputable abbrev rowBody:SM:=(sSeq (sSet 7 (eOp oAdd (eC (.int 1)) (eCall F__law_take (aCons (eVar 0) (aCons (eC (.int 12)) aNil))))) (sSeq (sSet 8 (eLst (aCons (eVar 7) (aCons (eVar 7) (aCons (eVar 4) (aCons (eOp oShl (eC (.int 1)) (eVar 6)) (aCons (eOp oAdd (eVar 4) (eOp oMul (eVar 6) (eVar 7))) (aCons (eOp oMul (eVar 7) (eVar 7)) (aCons (eOp oAdd (eOp oMul (eOp oPow (eC (.int 10)) (eC (.int 12))) (eVar 7)) (eVar 7)) aNil))))))))) (sDrop (eMtL mAppend (eVar 5) (aCons (eOp oIx (eLst (aCons (eOp oIx (eVar 8) (eVar 3)) (aCons (eOp oMul (eVar 4) (eVar 7)) aNil))) (eB fInt (aCons (eOp oEqP (eCall F__law_take (aCons (eVar 0) (aCons (eC (.int 9)) aNil))) (eC (.int 8))) aNil))) aNil)))))
theorem row_eval {S S1 S2:Sto} {b f:Nat} {kind base i q q' G P T y:Int} {M1 M2 M3 M4:Int} {xs:List D} {r1 r2 r7 r8:Option D} (e1:F__law_take [.ref b,.int 12] S=.ok (.int q) S1) (e2:F__law_take [.ref b,.int 9] S1=.ok (.int q') S2) (hG:1 + q=G)
  (hf1:S1[f]?=some (.lst xs)) (hf2:S2[f]?=some (.lst xs)) (zl:xs.length < sizeLine)
  (eShl:∀ S:Sto,oShl S (.int 1) (.int i)=some (.int P)) (ePow:∀ S:Sto,oPow S (.int 10) (.int 12)=some (.int T)) (eM1:∀ S:Sto,oMul S (.int i) (.int G)=some (.int M1)) (eM2:∀ S:Sto,oMul S (.int G) (.int G)=some (.int M2)) (eM3:∀ S:Sto,oMul S (.int base) (.int G)=some (.int M3)) (eM4:∀ S:Sto,oMul S (.int T) (.int G)=some (.int M4))
  (hix:atI [D.int G,D.int G,D.int base,D.int P,D.int (base + M1),D.int M2,D.int (M4 + G)] kind=some (.int y)):
  rowBody [some (.ref b),r1,r2,some (.int kind),some (.int base),some (.ref f),some (.int i),r7,r8] S=.ok (.nx [some (.ref b),r1,r2,some (.int kind),some (.int base),some (.ref f),some (.int i),some (.int G),some (.lst [D.int G,D.int G,D.int base,D.int P,D.int (base + M1),D.int M2,D.int (M4 + G)])]) (S2.set f (.lst (xs ++ [.int (if q'=8 then M3 else y)]))):=by
 have z7:(7:Nat)≤sizeLine:=by decide
 have z2:(2:Nat)≤sizeLine:=by decide
 have hA0:∀ a b:D,atI [a,b] 0=some a:=fun _ _=>rfl
 have hA1:∀ a b:D,atI [a,b] 1=some b:=fun _ _=>rfl
 by_cases h8:q'=8
 ·simp only [rowBody,sSeq,sSet,sDrop,eMtL,eLst,eB,eCall,eOp,eVar,eC,aCons,aNil,R.bind,R.of,e1,hG,eShl,ePow,eM1,eM2,eM3,eM4,oAdd,isL,hf1,oIx,seqOf,hix,e2,oEqP,eqP,eqS,h8,fInt,hA0,hA1,mAppend,hf2,zl,List.length_cons,List.length_nil,List.getElem?_cons_zero,List.getElem?_cons_succ,List.set_cons_zero,List.set_cons_succ,if_true,Nat.reduceAdd,decide_true,Option.map_some,z7,z2]
 ·simp only [rowBody,sSeq,sSet,sDrop,eMtL,eLst,eB,eCall,eOp,eVar,eC,aCons,aNil,R.bind,R.of,e1,hG,eShl,ePow,eM1,eM2,eM3,eM4,oAdd,isL,hf1,oIx,seqOf,hix,e2,oEqP,eqP,eqS,h8,fInt,hA0,hA1,mAppend,hf2,zl,List.length_cons,List.length_nil,List.getElem?_cons_zero,List.getElem?_cons_succ,List.set_cons_zero,List.set_cons_succ,if_true,Nat.reduceAdd,decide_true,decide_false,if_false,Bool.false_eq_true,Option.map_some,z7,z2]
theorem row_turn {S0 S:Sto} {b f i:Nat} {kind base:Int} {xs:List Int} {r1 r2 r7 r8:Option D} (hi:i < 16) (hk:0≤kind∧kind < 7) (hb:1≤base∧base < 10) (g:Gr b S0 S) (hf:S[f]?=some (.lst (xs.map .int))) (hfb:f ≠ b) (hf0:S0.length≤f) (hl:xs.length < 1000):
  ∃ (y:Int) (S':Sto) (r7' r8':Option D),rowBody [some (.ref b),r1,r2,some (.int kind),some (.int base),some (.ref f),some (.int i),r7,r8] S=.ok (.nx [some (.ref b),r1,r2,some (.int kind),some (.int base),some (.ref f),some (.int i),r7',r8']) S'∧
   okN y∧S'[f]?=some (.lst ((xs ++ [y]).map .int))∧Gr b S0 S':=by
 obtain ⟨q,S1,e1,q0,q1,g1⟩:=take_ok g.self (many:=12) (by decide) (by decide)
 obtain ⟨q',S2,e2,q0',q1',g2⟩:=take_ok g1.self (many:=9) (by decide) (by decide)
 have hfl:f < S.length:=(List.getElem?_eq_some_iff.mp hf).1
 have hf1:S1[f]?=some (.lst (xs.map .int)):=by rw [g1.oth f hfb hfl]; exact hf
 have hf2:S2[f]?=some (.lst (xs.map .int)):=by rw [g2.oth f hfb (Nat.lt_of_lt_of_le hfl g1.len)]; exact hf1
 have hfl2:f < S2.length:=(List.getElem?_eq_some_iff.mp hf2).1
 generalize hG:(1:Int) + q=G
 have hG0:1≤G∧G≤12:=by omega
 have sG:smallI G:=⟨by omega,by omega⟩
 have sB:smallI base:=⟨by omega,by omega⟩
 have sI:smallI (i:Int):=⟨by omega,by omega⟩
 have m1:(i:Int) * G≤15 * 12:=Int.mul_le_mul (by omega) hG0.2 (by omega) (by omega)
 have m1':0≤(i:Int) * G:=Int.mul_nonneg (by omega) (by omega)
 have m2:G * G≤12 * 12:=Int.mul_le_mul hG0.2 hG0.2 (by omega) (by omega)
 have m2':1 * 1≤G * G:=Int.mul_le_mul hG0.1 hG0.1 (by omega) (by omega)
 have m3:base * G≤9 * 12:=Int.mul_le_mul (by omega) hG0.2 (by omega) (by omega)
 have m3':1 * 1≤base * G:=Int.mul_le_mul hb.1 hG0.1 (by omega) (by omega)
 have m4:(2:Int) ^ i≤32768:=by
  have h:=Nat.pow_le_pow_right (n:=2) (by decide) (show i≤15 by omega)
  have h':((2 ^ i:Nat):Int)≤((2 ^ 15:Nat):Int):=by exact_mod_cast h
  simpa using h'
 have m4':1≤(2:Int) ^ i:=by
  have h:=Nat.one_le_two_pow (n:=i)
  have h':(1:Int)≤((2 ^ i:Nat):Int):=by exact_mod_cast h
  simpa using h'
 have hix:∃ y:Int,okN y∧atI [D.int G,D.int G,D.int base,D.int (2 ^ i),D.int (base + (i:Int) * G),D.int (G * G),D.int (1000000000000 * G + G)] kind=some (.int y):=by
  have h:kind=0 ∨ kind=1 ∨ kind=2 ∨ kind=3 ∨ kind=4 ∨ kind=5 ∨ kind=6:=by omega
  rcases h with h | h | h | h | h | h | h <;> subst h
  ·exact ⟨_,⟨by omega,by omega⟩,rfl⟩
  ·exact ⟨_,⟨by omega,by omega⟩,rfl⟩
  ·exact ⟨_,⟨by omega,by omega⟩,rfl⟩
  ·exact ⟨_,⟨m4',by omega⟩,rfl⟩
  ·exact ⟨_,⟨by omega,by omega⟩,rfl⟩
  ·exact ⟨_,⟨by omega,by omega⟩,rfl⟩
  ·exact ⟨_,⟨by omega,by omega⟩,rfl⟩
 obtain ⟨y,hy,hix⟩:=hix
 have hev:=row_eval (r1:=r1) (r2:=r2) (r7:=r7) (r8:=r8) (base:=base) (i:=(i:Int)) e1 e2 hG hf1 hf2 (by rw [List.length_map]; exact Nat.lt_trans hl (by decide)) (fun S=>oShl_i (by omega)) (fun S=>oPow_10_12) (fun S=>oMul_i (.inl sI)) (fun S=>oMul_i (.inl sG)) (fun S=>oMul_i (.inl sB)) (fun S=>oMul_i (.inr sG)) hix
 have hy':okN (if q'=8 then base * G else y):=by
  split
  ·exact ⟨by omega,by omega⟩
  ·exact hy
 have g02:=(g.trans g1).trans g2
 obtain ⟨n,hn⟩:=g02.bx
 refine ⟨_,_,_,_,hev,hy',by rw [List.map_append]; simp [hfl2],⟨n,by rw [List.getElem?_set_ne hfb]; exact hn⟩,fun j hj hl=>?_,by simp; exact g02.len⟩
 rw [List.getElem?_set_ne (by omega)]
 exact g02.oth j hj hl
theorem row_loop {S0:Sto} {b f:Nat} {kind base:Int} {r1 r2:Option D} (hk:0≤kind∧kind < 7) (hb:1≤base∧base < 10) (hfb:f ≠ b) (hf0:S0.length≤f):∀ (l:List Nat) (S:Sto) (xs:List Int) (r6 r7 r8:Option D),(∀ i ∈ l,i < 16)→Gr b S0 S→S[f]?=some (.lst (xs.map .int))→xs.length + l.length < 1000→(∀ x ∈ xs,okN x)→
  ∃ (ys:List Int) (S':Sto) (r6' r7' r8':Option D),forL (.nm 6) rowBody (l.map fun (i:Nat)=>D.int i) [some (.ref b),r1,r2,some (.int kind),some (.int base),some (.ref f),r6,r7,r8] S=.ok (.nx [some (.ref b),r1,r2,some (.int kind),some (.int base),some (.ref f),r6',r7',r8']) S'∧
   ys.length=xs.length + l.length∧(∀ y ∈ ys,okN y)∧S'[f]?=some (.lst (ys.map .int))∧Gr b S0 S'
 | [],S,xs,r6,r7,r8,_,g,hf,_,hx=>⟨xs,S,r6,r7,r8,rfl,rfl,hx,hf,g⟩
 | i :: l,S,xs,r6,r7,r8,hl,g,hf,hz,hx=>by
  rw [List.length_cons] at hz
  obtain ⟨y,S1,r7',r8',e,hy,hf1,g1⟩:=row_turn (r1:=r1) (r2:=r2) (r7:=r7) (r8:=r8) (hl i List.mem_cons_self) hk hb g hf hfb hf0 (by omega)
  obtain ⟨ys,S2,a6,a7,a8,e2,h1,h2,h3,h4⟩:=row_loop hk hb hfb hf0 l S1 (xs ++ [y]) (some (.int i)) r7' r8' (fun j hj=>hl j (List.mem_cons_of_mem _ hj)) g1 hf1 (by rw [List.length_append,List.length_cons,List.length_nil]; omega) (fun x h=>by
   rcases List.mem_append.mp h with h | h
   ·exact hx x h
   ·rw [List.mem_singleton.mp h]; exact hy)
  refine ⟨ys,S2,a6,a7,a8,?_,by rw [h1,List.length_append,List.length_cons,List.length_nil,List.length_cons]; omega,h2,h3,h4⟩
  rw [List.map_cons,forL]
  simp only [G.put,List.set_cons_zero,List.set_cons_succ,e,R.bind_ok]
  exact e2
theorem row_ok {S:Sto} {b:Nat} {most:Int} (g:Gr b S S) (hm:0≤most∧most≤16):∃ (xs:List Int) (S':Sto),F__law_row [.ref b,.int most] S=.ok (.tup (xs.map .int)) S'∧(xs.length:Int)≤most∧(∀ x ∈ xs,okN x)∧Gr b S S':=by
 obtain ⟨many,S1,e1,a0,a1,g1⟩:=take_ok g (many:=most + 1) (by omega) (by omega)
 obtain ⟨kind,S2,e2,b0,b1,g2⟩:=take_ok g1.self (many:=7) (by decide) (by decide)
 obtain ⟨bs,S3,e3,c0,c1,g3⟩:=take_ok g2.self (many:=9) (by decide) (by decide)
 have gs:=(g1.trans g2).trans g3
 obtain ⟨n0,hn0⟩:=gs.bx
 have hb3:b < S3.length:=(List.getElem?_eq_some_iff.mp hn0).1
 obtain ⟨ys,S4,r6,r7,r8,e4,h1,h2,h3,h4⟩:=row_loop (S0:=S) (b:=b) (f:=S3.length) (kind:=kind) (base:=1 + bs) (r1:=some (.int most)) (r2:=some (.int many)) ⟨b0,b1⟩ ⟨by omega,by omega⟩ (by omega) gs.len (List.range many.toNat) (S3 ++ [.lst []]) [] none none none (fun i hi=>by have:=List.mem_range.mp hi; omega) (gs.more _) (by simp) (by simp; omega) (fun x h=>nomatch h)
 refine ⟨ys,S4,?_,by rw [h1]; simp; omega,h2,h4⟩
 have z0:(0:Nat)≤sizeLine:=Nat.zero_le _
 have hr:many < 2 ^ 62∧-(2 ^ 62)≤many:=⟨by omega,by omega⟩
 simp only [F__law_row,fnM,m__law_row,sSeq,sSet,sFor,aRange1,eNew,eCall,eOp,eVar,eC,aCons,aNil,R.bind,R.of,oAdd,e1,e2,e3,List.map_cons,List.map_nil,List.length_cons,List.length_nil,List.cons_append,List.nil_append,Nat.reduceAdd,Nat.reduceSub,List.replicate,List.getElem?_cons_zero,List.getElem?_cons_succ,List.set_cons_zero,List.set_cons_succ,z0,if_true,hr,and_self]
 rw [show (sSeq (sSet 7 (eOp oAdd (eC (.int 1)) (eCall F__law_take (aCons (eVar 0) (aCons (eC (.int 12)) aNil))))) _)=rowBody from rfl,e4]
 simp only [sRet,eB,aCons,aNil,eVar,R.bind,R.of,List.getElem?_cons_zero,List.getElem?_cons_succ,fTuple,seqOf,h3,Option.map_some]
noncomputable def shal:D→Bool
 | .fz _=>false
 | .ref _=>false
 | .ty _=>false
 | .exc _=>false
 | .cls _=>false
 | _=>true
noncomputable def isI:D→Bool
 | .int _=>true
 | _=>false
theorem whole_eq {d:D} {S:Sto} (h:shal d=true):F_is_whole [d] S=.ok (.bl (isI d)) S:=by
 cases d <;> first | (cases h; done) | (simp [F_is_whole,fnM,m_is_whole,sRet,eAnd,eNot,eB,eVar,eC,aCons,aNil,R.bind,R.of,fIsi,tyD,isiTys,isI])
noncomputable def rowOk:D→Bool
 | .int i=>decide (1≤i)
 | _=>false
theorem boolsOf_map {A:Type} (f:A→Bool):∀ xs:List A,boolsOf (xs.map fun x=>D.bl (f x))=some (xs.map f)
 | []=>rfl
 | x :: xs=>by rw [List.map_cons,boolsOf,boolsOf_map f xs]; rfl
theorem comp_bool {e:EM} {f:D→Bool} {tl:Rho}:∀ (xs:List D) (r0:Option D) (S:Sto),(∀ x ∈ xs,e (some x :: tl) S=.ok (.bl (f x)) S)→compL (.nm 0) tTrue e xs (r0 :: tl) S=.ok (xs.map fun x=>D.bl (f x)) S
 | [],_,_,_=>rfl
 | x :: xs,r0,S,h=>by
  have h1:=h x List.mem_cons_self
  have h2:=comp_bool xs (some x) S fun y hy=>h y (List.mem_cons_of_mem _ hy)
  rw [compL]
  simp only [G.put,List.set_cons_zero,tTrue,R.bind_ok,if_true,h1,h2,List.map_cons]
noncomputable def isRow:D→Bool
 | .tup xs=>decide (xs.length≤16) && xs.all rowOk
 | _=>false
noncomputable def Okay (d:D):Prop:=shal d=true∧∀ xs,d=.tup xs→(∀ x ∈ xs,shal x=true)∧xs.length≤1000
theorem row_el {x:D} {S:Sto} (h:shal x=true):(eAnd (eCall F_is_whole (aCons (eVar 0) aNil)) (eOp oGe (eVar 0) (eC (.int 1)))) [some x] S=.ok (.bl (rowOk x)) S:=by
 have:=whole_eq (S:=S) h
 cases x <;> first | (cases h; done) | (simp [eAnd,eCall,eOp,eVar,eC,aCons,aNil,R.bind,R.of,this,isI,rowOk,oCmp])
theorem isrow_eq {d:D} {S:Sto} (h:Okay d):F_is_row [d] S=.ok (.bl (isRow d)) S:=by
 cases d with
 | tup xs=>
  obtain ⟨hs,hl⟩:=h.2 xs rfl
  have hc:=comp_bool (tl:=[]) (f:=rowOk) xs none S fun x hx=>row_el (hs x hx)
  have z:xs.length≤sizeLine:=Nat.le_trans hl (by decide)
  by_cases h16:xs.length≤16
  ·have h16':¬ (16:Int) < (xs.length:Int):=by omega
   simp only [F_is_row,fnM,m_is_row,sSeq,sIf,sRet,sSkip,PD.tOr,PD.tNot,tV,eB,eComp,aSeq,itSeq,capOf,eOp,eVar,eC,aCons,aNil,R.bind,R.of,fIsi,tyD,fLen,seqOf,oCmp,fAll,List.map_cons,List.map_nil,List.length_cons,List.length_nil,List.replicate,List.cons_append,List.nil_append,List.append_nil,Nat.reduceAdd,Nat.reduceSub,List.getElem?_cons_zero,h16',decide_false,Bool.false_eq_true,if_false,z,if_true,hc,boolsOf_map,Option.map_some,isRow,h16,decide_true,Bool.true_and]
   simp [isiTys]
   simp [z,hc,boolsOf_map,fAll,R.of,R.bind,sRet,eB,aCons]
  ·have h16':(16:Int) < (xs.length:Int):=by omega
   simp [F_is_row,fnM,m_is_row,sSeq,sIf,sRet,sSkip,PD.tOr,PD.tNot,tV,eB,eOp,eVar,eC,aCons,aNil,R.bind,R.of,fIsi,tyD,fLen,seqOf,oCmp,isiTys,isRow,h16,h16']
 | _=>first | (cases h.1; done) | (simp [F_is_row,fnM,m_is_row,sSeq,sIf,sRet,sSkip,PD.tOr,PD.tNot,tV,eB,eOp,eVar,eC,aCons,aNil,R.bind,R.of,fIsi,tyD,isiTys,isRow])
theorem oEqP_i {S:Sto} {i j:Int}:oEqP S (.int i) (.int j)=some (.bl (decide (i=j))):=rfl
theorem one_line:1≤sizeLine:=by decide
theorem sSeq_go {a b:SM} {r r1:Rho} {S S1:Sto} (h:a r S=.ok (.nx r1) S1):sSeq a b r S=b r1 S1:=by
 unfold sSeq
 rw [h]
 rfl
theorem sFor_go {it:AM} {g:PD.G} {b:SM} {r:Rho} {S S1:Sto} {xs:List D} (h:it r S=.ok xs S1):sFor it g b r S=forL g b xs r S1:=by unfold sFor; rw [h,R.bind_ok]
theorem fnM_rt {n:Nat} {b:SM} {ds:List D} {ρ:Rho} {S S1:Sto} {d:D} (hρ:ds.map some ++ List.replicate (n - ds.length) none = ρ) (h:b ρ S=.ok (.rt d) S1):fnM n b ds S=.ok d S1:=by unfold fnM; rw [hρ,h,R.bind_ok]
theorem sSeq_rt {a b:SM} {r:Rho} {S S1:Sto} {d:D} (h:a r S=.ok (.rt d) S1):sSeq a b r S=.ok (.rt d) S1:=by unfold sSeq; rw [h,R.bind_ok]
theorem sSet_go {i:Nat} {a:EM} {r:Rho} {S S1:Sto} {d:D} (h:a r S=.ok d S1):sSet i a r S=.ok (.nx (r.set i (some d))) S1:=by unfold sSet; rw [h,R.bind_ok]
theorem sRet_go {a:EM} {r:Rho} {S S1:Sto} {d:D} (h:a r S=.ok d S1):sRet a r S=.ok (.rt d) S1:=by unfold sRet; rw [h,R.bind_ok]
theorem sIf_t {t:TM} {a b:SM} {r:Rho} {S S1:Sto} (h:t r S=.ok true S1):sIf t a b r S=a r S1:=by unfold sIf; rw [h,R.bind_ok]; exact if_pos rfl
theorem sIf_f {t:TM} {a b:SM} {r:Rho} {S S1:Sto} (h:t r S=.ok false S1):sIf t a b r S=b r S1:=by unfold sIf; rw [h,R.bind_ok]; exact if_neg Bool.false_ne_true
theorem forL_cons {g:PD.G} {b:SM} {x:D} {xs:List D} {r r1 r2:Rho} {S S1:Sto} (hp:g.put x r=some r1) (h:b r1 S=.ok (.nx r2) S1):forL g b (x :: xs) r S=forL g b xs r2 S1:=by rw [forL]; simp only [hp,h,R.bind_ok]
theorem eCall_go {f:FM} {t:AM} {r:Rho} {S S1:Sto} {xs:List D} (h:t r S=.ok xs S1):eCall f t r S=f xs S1:=by unfold eCall; rw [h,R.bind_ok]
theorem eOp_go {f:Sto→D→D→Option D} {a b:EM} {r:Rho} {S S1 S2:Sto} {x y z:D} (h1:a r S=.ok x S1) (h2:b r S1=.ok y S2) (h3:f S2 x y=some z):eOp f a b r S=.ok z S2:=by unfold eOp; rw [h1,R.bind_ok,h2,R.bind_ok,h3]; rfl
theorem eB_go {f:Sto→List D→Option D} {t:AM} {r:Rho} {S S1:Sto} {xs:List D} {z:D} (h1:t r S=.ok xs S1) (h3:f S1 xs=some z):eB f t r S=.ok z S1:=by unfold eB; rw [h1,R.bind_ok,h3]; rfl
theorem aCons_go {a:EM} {t:AM} {r:Rho} {S S1 S2:Sto} {x:D} {xs:List D} (h1:a r S=.ok x S1) (h2:t r S1=.ok xs S2):aCons a t r S=.ok (x :: xs) S2:=by unfold aCons; rw [h1,R.bind_ok,h2,R.bind_ok]
theorem tV_go {a:EM} {r:Rho} {S S1:Sto} {b:Bool} (h:a r S=.ok (.bl b) S1):tV a r S=.ok b S1:=by unfold tV; rw [h,R.bind_ok]
theorem big62 {n:Int} (h0:0≤n) (h:n≤100000):n < 2 ^ 62∧-(2 ^ 62)≤n:=⟨by omega,by omega⟩
theorem aRange1_int {t:AM} {r:Rho} {S S1:Sto} {m:Int} (h:t r S=.ok [.int m] S1) (h0:0≤m) (h1:m≤100000):aRange1 t r S=.ok ((List.range m.toNat).map fun (i:Nat)=>D.int i) S1:=by
 have hr:=big62 h0 h1
 simp only [aRange1,h,R.bind,if_pos hr]
theorem aRange1_ok {t:AM} {r:Rho} {S S1:Sto} {n:Nat} (h:t r S=.ok [.int (n:Int)] S1) (hn:n≤100000):aRange1 t r S=.ok ((List.range n).map fun (i:Nat)=>D.int i) S1:=
 aRange1_int h (Int.natCast_nonneg n) (Int.ofNat_le.mpr hn)
theorem eVar_go {i:Nat} {r:Rho} {S:Sto} {d:D} (h:r[i]?=some (some d)):eVar i r S=.ok d S:=by
 unfold eVar; rw [h]
theorem eTup_go {t:AM} {r:Rho} {S S1:Sto} {xs:List D} (h:t r S=.ok xs S1) (hl:xs.length≤sizeLine):eTup t r S=.ok (.tup xs) S1:=by unfold eTup; rw [h,R.bind_ok,if_pos hl]
theorem eLst_go {t:AM} {r:Rho} {S S1:Sto} {xs:List D} (h:t r S=.ok xs S1) (hl:xs.length≤sizeLine):eLst t r S=.ok (.lst xs) S1:=by unfold eLst; rw [h,R.bind_ok,if_pos hl]
theorem sSeq_err {a b:SM} {r:Rho} {S S1:Sto} {x:XD} (h:a r S=.err x S1):sSeq a b r S=.err x S1:=by unfold sSeq; rw [h]; rfl
theorem sDrop_err {a:EM} {r:Rho} {S S1:Sto} {x:XD} (h:a r S=.err x S1):sDrop a r S=.err x S1:=by unfold sDrop; rw [h]; rfl
theorem sSet_err {i:Nat} {a:EM} {r:Rho} {S S1:Sto} {x:XD} (h:a r S=.err x S1):sSet i a r S=.err x S1:=by unfold sSet; rw [h]; rfl
theorem sRet_err {a:EM} {r:Rho} {S S1:Sto} {x:XD} (h:a r S=.err x S1):sRet a r S=.err x S1:=by unfold sRet; rw [h]; rfl
theorem tV_err {a:EM} {r:Rho} {S S1:Sto} {x:XD} (h:a r S=.err x S1):tV a r S=.err x S1:=by unfold tV; rw [h]; rfl
theorem tNot_err {a:TM} {r:Rho} {S S1:Sto} {x:XD} (h:a r S=.err x S1):PD.tNot a r S=.err x S1:=by unfold PD.tNot; rw [h]; rfl
theorem sIf_err {t:TM} {a b:SM} {r:Rho} {S S1:Sto} {x:XD} (h:t r S=.err x S1):sIf t a b r S=.err x S1:=by unfold sIf; rw [h]; rfl
theorem fnM_err {n:Nat} {b:SM} {ds:List D} {ρ:Rho} {S S1:Sto} {x:XD} (hρ:ds.map some ++ List.replicate (n - ds.length) none = ρ) (h:b ρ S=.err x S1):fnM n b ds S=.err x S1:=by unfold fnM; rw [hρ,h]; rfl
theorem tNx_ok {a:TM} {r:Rho} {S S1:Sto} {b:Bool} (h:a r S=.ok b S1):tNx a r S=.ok b S1:=by unfold tNx; rw [h]; rfl
noncomputable def noRow:XD:=⟨"NoRow",.tup [.str "a row is a tuple of 0 to 16 whole numbers from 1 on"]⟩
theorem no_need_row {d:D} {S:Sto} (h:F_is_row [d] S=.ok (.bl false) S):F_need_row [d] S=.err noRow S:=by
 simp [F_need_row,fnM,m_need_row,sIf,sSkip,tNx,R.nx,PD.tNot,tV,eCall,eVar,eC,aCons,aNil,R.bind,h,sRaise,one_line,noRow]
theorem tst {k c:Int} {b:Bool} {r:Rho} {S:Sto} (h:decide (k=c)=b):tNx (tV (eOp oEqP (eVar 0) (eC (.int c)))) (some (.int k) :: r) S=.ok b S:=by rw [← h]; exact tNx_ok (tV_go (eOp_go (eVar_go rfl) rfl oEqP_i))
section
variable {d:D} {S:Sto} (h:F_is_row [d] S=.ok (.bl false) S)
include h
theorem no_are_parts (x0:D):F_are_parts [x0,d] S=.err noRow S:=fnM_err (ρ:=[some x0,some d]) rfl (sSeq_err (sDrop_err ((eCall_go (aCons_go (eVar_go rfl) rfl)).trans (no_need_row h))))
theorem no_are_signs (x0:D):F_are_signs [x0,d] S=.err noRow S:=fnM_err (ρ:=[some x0,some d]) rfl (sSeq_err (sDrop_err ((eCall_go (aCons_go (eVar_go rfl) rfl)).trans (no_need_row h))))
theorem no_need_parts (x1:D):F_need_parts [d,x1] S=.err noRow S:=fnM_err (ρ:=[some d,some x1]) rfl (sIf_err (tNot_err (tV_err ((eCall_go (aCons_go (eVar_go rfl) (aCons_go (eVar_go rfl) rfl))).trans (no_are_parts h _)))))
theorem no_kept (x1:D):F_kept [d,x1] S=.err noRow S:=fnM_err (ρ:=[some d,some x1,none,none]) rfl (sSeq_err (sDrop_err ((eCall_go (aCons_go (eVar_go rfl) (aCons_go (eVar_go rfl) rfl))).trans (no_need_parts h _))))
theorem no_lots (x1:D):F_lots [d,x1] S=.err noRow S:=fnM_err (ρ:=[some d,some x1]) rfl (sSeq_err (sDrop_err ((eCall_go (aCons_go (eVar_go rfl) (aCons_go (eVar_go rfl) rfl))).trans (no_need_parts h _))))
theorem no_show (x1:D):F_show [d,x1] S=.err noRow S:=fnM_err (ρ:=[some d,some x1]) rfl (sSeq_err (sDrop_err ((eCall_go (aCons_go (eVar_go rfl) (aCons_go (eVar_go rfl) rfl))).trans (no_need_parts h _))))
theorem no_need_few:F_need_few [d] S=.err noRow S:=fnM_err (ρ:=[some d]) rfl (sSeq_err (sDrop_err ((eCall_go (aCons_go (eVar_go rfl) rfl)).trans (no_need_row h))))
theorem no_sign_table:F_sign_table [d] S=.err noRow S:=fnM_err (ρ:=[some d]) rfl (sSeq_err (sDrop_err ((eCall_go (aCons_go (eVar_go rfl) rfl)).trans (no_need_few h))))
theorem no_total:F_total [d] S=.err noRow S:=fnM_err (ρ:=[some d]) rfl (sSeq_err (sDrop_err ((eCall_go (aCons_go (eVar_go rfl) rfl)).trans (no_need_row h))))
theorem no_turned (x1:D):F_turned [d,x1] S=.err noRow S:=fnM_err (ρ:=[some d,some x1]) rfl (sSeq_err (sDrop_err ((eCall_go (aCons_go (eVar_go rfl) (aCons_go (eVar_go rfl) rfl))).trans (no_need_parts h _))))
theorem no_worth (x1:D):F_worth [d,x1] S=.err noRow S:=fnM_err (ρ:=[some d,some x1]) rfl (sSeq_err (sDrop_err ((eCall_go (aCons_go (eVar_go rfl) (aCons_go (eVar_go rfl) rfl))).trans (no_need_parts h _))))
theorem no_difference_signs:F_difference_signs [d] S=.err noRow S:=fnM_err (ρ:=[some d,none]) rfl (sSeq_err (sDrop_err ((eCall_go (aCons_go (eVar_go rfl) rfl)).trans (no_need_row h))))
theorem no_differences:F_differences [d] S=.err noRow S:=fnM_err (ρ:=[some d]) rfl (sSeq_err (sDrop_err ((eCall_go (aCons_go (eVar_go rfl) rfl)).trans (no_need_row h))))
theorem no_need_row_and_number (x1:D):F_need_row_and_number [d,x1] S=.err noRow S:=fnM_err (ρ:=[some d,some x1]) rfl (sSeq_err (sDrop_err ((eCall_go (aCons_go (eVar_go rfl) rfl)).trans (no_need_row h))))
theorem no_above (x1:D):F_above [d,x1] S=.err noRow S:=fnM_err (ρ:=[some d,some x1]) rfl (sSeq_err (sDrop_err ((eCall_go (aCons_go (eVar_go rfl) (aCons_go (eVar_go rfl) rfl))).trans (no_need_row_and_number h _))))
theorem no_unevenness:F_unevenness [d] S=.err noRow S:=fnM_err (ρ:=[some d]) rfl (sRet_err ((eCall_go (aCons_go (eVar_go rfl) (aCons_go rfl rfl))).trans (no_above h _)))
theorem no_evenest:F_evenest [d] S=.err noRow S:=fnM_err (ρ:=[some d,none]) rfl (sSeq_err (sSet_err ((eCall_go (aCons_go (eVar_go rfl) rfl)).trans (no_unevenness h))))
theorem no_evenest_many:F_evenest_many [d] S=.err noRow S:=fnM_err (ρ:=[some d,none,none]) rfl (sSeq_err (sSet_err ((eCall_go (aCons_go (eVar_go rfl) rfl)).trans (no_unevenness h))))
theorem no_every_by_parts:F_every_by_parts [d] S=.err noRow S:=fnM_err (ρ:=[some d]) rfl (sSeq_err (sDrop_err ((eCall_go (aCons_go (eVar_go rfl) rfl)).trans (no_need_row h))))
theorem no_every_by_signs:F_every_by_signs [d] S=.err noRow S:=fnM_err (ρ:=[some d]) rfl (sSeq_err (sDrop_err ((eCall_go (aCons_go (eVar_go rfl) rfl)).trans (no_need_row h))))
theorem no_uneven_bound (x0:D):F_uneven_bound [x0,d] S=.err noRow S:=fnM_err (ρ:=[some x0,some d]) rfl (sSeq_err (sDrop_err ((eCall_go (aCons_go (eVar_go rfl) rfl)).trans (no_need_few h))))
theorem no_uneven_paper:F_uneven_paper [d] S=.err noRow S:=fnM_err (ρ:=[some d]) rfl (sSeq_err (sDrop_err ((eCall_go (aCons_go (eVar_go rfl) rfl)).trans (no_need_few h))))
theorem no_missed_by_parts:F_missed_by_parts [d] S=.err noRow S:=fnM_err (ρ:=[some d,none]) rfl (sSeq_err (sDrop_err ((eCall_go (aCons_go (eVar_go rfl) rfl)).trans (no_need_row h))))
theorem no_missed_by_signs:F_missed_by_signs [d] S=.err noRow S:=fnM_err (ρ:=[some d,none]) rfl (sSeq_err (sDrop_err ((eCall_go (aCons_go (eVar_go rfl) rfl)).trans (no_need_row h))))
theorem no_weighed (x1:D):F_weighed [d,x1] S=.err noRow S:=fnM_err (ρ:=[some d,some x1,none,none,none,none]) rfl (sSeq_err (sDrop_err ((eCall_go (aCons_go (eVar_go rfl) (aCons_go (eVar_go rfl) rfl))).trans (no_need_row_and_number h _))))
theorem no_need_few_and_number (x1:D):F_need_few_and_number [d,x1] S=.err noRow S:=fnM_err (ρ:=[some d,some x1]) rfl (sSeq_err (sDrop_err ((eCall_go (aCons_go (eVar_go rfl) (aCons_go (eVar_go rfl) rfl))).trans (no_need_row_and_number h _))))
theorem no_is_barred (x0 x2:D):F_is_barred [x0,d,x2] S=.err noRow S:=fnM_err (ρ:=[some x0,some d,some x2]) rfl (sSeq_err (sDrop_err ((eCall_go (aCons_go (eVar_go rfl) (aCons_go (eVar_go rfl) rfl))).trans (no_need_few_and_number h _))))
theorem no_is_wide_barred (x0 x2:D):F_is_wide_barred [x0,d,x2] S=.err noRow S:=fnM_err (ρ:=[some x0,some d,some x2]) rfl (sSeq_err (sDrop_err ((eCall_go (aCons_go (eVar_go rfl) (aCons_go (eVar_go rfl) rfl))).trans (no_need_few_and_number h _))))
theorem no_layers_for (x1:D):F_layers_for [d,x1] S=.err noRow S:=fnM_err (ρ:=[some d,some x1]) rfl (sSeq_err (sDrop_err ((eCall_go (aCons_go (eVar_go rfl) (aCons_go (eVar_go rfl) rfl))).trans (no_need_few_and_number h _))))
theorem no_part_table:F_part_table [d] S=.err noRow S:=fnM_err (ρ:=[some d]) rfl (sSeq_err (sDrop_err ((eCall_go (aCons_go (eVar_go rfl) rfl)).trans (no_need_few h))))
theorem no_part_ways (x1:D):F_part_ways [d,x1] S=.err noRow S:=fnM_err (ρ:=[some d,some x1]) rfl (sSeq_err (sDrop_err ((eCall_go (aCons_go (eVar_go rfl) (aCons_go (eVar_go rfl) rfl))).trans (no_need_few_and_number h _))))
theorem no_parts_to (x1:D):F_parts_to [d,x1] S=.err noRow S:=fnM_err (ρ:=[some d,some x1]) rfl (sSeq_err (sDrop_err ((eCall_go (aCons_go (eVar_go rfl) (aCons_go (eVar_go rfl) rfl))).trans (no_need_few_and_number h _))))
theorem no_sign_ways (x1:D):F_sign_ways [d,x1] S=.err noRow S:=fnM_err (ρ:=[some d,some x1]) rfl (sSeq_err (sDrop_err ((eCall_go (aCons_go (eVar_go rfl) (aCons_go (eVar_go rfl) rfl))).trans (no_need_few_and_number h _))))
theorem no_signs_to (x1:D):F_signs_to [d,x1] S=.err noRow S:=fnM_err (ρ:=[some d,some x1]) rfl (sSeq_err (sDrop_err ((eCall_go (aCons_go (eVar_go rfl) (aCons_go (eVar_go rfl) rfl))).trans (no_need_few_and_number h _))))
theorem no_wide_layers_for (x1:D):F_wide_layers_for [d,x1] S=.err noRow S:=fnM_err (ρ:=[some d,some x1]) rfl (sSeq_err (sDrop_err ((eCall_go (aCons_go (eVar_go rfl) (aCons_go (eVar_go rfl) rfl))).trans (no_need_few_and_number h _))))
theorem no_below (x1:D):F_below [d,x1] S=.err noRow S:=fnM_err (ρ:=[some d,some x1]) rfl (sSeq_err (sDrop_err ((eCall_go (aCons_go (eVar_go rfl) (aCons_go (eVar_go rfl) rfl))).trans (no_need_row_and_number h _))))
theorem no_first_met (x1:D):F_first_met [d,x1] S=.err noRow S:=fnM_err (ρ:=[some d,some x1,none,none]) rfl (sSeq_err (sDrop_err ((eCall_go (aCons_go (eVar_go rfl) (aCons_go (eVar_go rfl) rfl))).trans (no_need_row_and_number h _))))
theorem no_half_worths:F_half_worths [d] S=.err noRow S:=fnM_err (ρ:=[some d]) rfl (sSeq_err (sDrop_err ((eCall_go (aCons_go (eVar_go rfl) rfl)).trans (no_need_row h))))
theorem no_is_rest (x0 x2:D):F_is_rest [x0,d,x2] S=.err noRow S:=fnM_err (ρ:=[some x0,some d,some x2,none]) rfl (sSeq_err (sDrop_err ((eCall_go (aCons_go (eVar_go rfl) (aCons_go (eVar_go rfl) rfl))).trans (no_need_few_and_number h _))))
theorem no_is_stair (x0 x2:D):F_is_stair [x0,d,x2] S=.err noRow S:=fnM_err (ρ:=[some x0,some d,some x2]) rfl (sSeq_err (sDrop_err ((eCall_go (aCons_go (eVar_go rfl) (aCons_go (eVar_go rfl) rfl))).trans (no_need_row_and_number h _))))
theorem no_many_met (x1:D):F_many_met [d,x1] S=.err noRow S:=fnM_err (ρ:=[some d,some x1,none]) rfl (sSeq_err (sDrop_err ((eCall_go (aCons_go (eVar_go rfl) (aCons_go (eVar_go rfl) rfl))).trans (no_need_row_and_number h _))))
theorem no_rest_for (x1:D):F_rest_for [d,x1] S=.err noRow S:=fnM_err (ρ:=[some d,some x1,none]) rfl (sSeq_err (sDrop_err ((eCall_go (aCons_go (eVar_go rfl) (aCons_go (eVar_go rfl) rfl))).trans (no_need_few_and_number h _))))
theorem no_stair_for (x1:D):F_stair_for [d,x1] S=.err noRow S:=fnM_err (ρ:=[some d,some x1,none]) rfl (sSeq_err (sDrop_err ((eCall_go (aCons_go (eVar_go rfl) (aCons_go (eVar_go rfl) rfl))).trans (no_need_row_and_number h _))))
theorem no__law_first:∀ k:Nat,k < 9→F__law_first [.int k,d] S=.err noRow S
 | 0,_=>fnM_err (ρ:=[some (.int 0),some d]) rfl ((sIf_t (tst rfl)).trans (sDrop_err ((eCall_go (aCons_go rfl (aCons_go (eVar_go rfl) rfl))).trans (no_are_parts h _))))
 | 1,_=>fnM_err (ρ:=[some (.int 1),some d]) rfl ((sIf_f (tst rfl)).trans ((sIf_t (tst rfl)).trans (sDrop_err ((eCall_go (aCons_go rfl (aCons_go (eVar_go rfl) rfl))).trans (no_are_signs h _)))))
 | 2,_=>fnM_err (ρ:=[some (.int 2),some d]) rfl ((sIf_f (tst rfl)).trans ((sIf_f (tst rfl)).trans ((sIf_t (tst rfl)).trans (sDrop_err ((eCall_go (aCons_go (eVar_go rfl) rfl)).trans (no_total h))))))
 | 3,_=>fnM_err (ρ:=[some (.int 3),some d]) rfl ((sIf_f (tst rfl)).trans ((sIf_f (tst rfl)).trans ((sIf_f (tst rfl)).trans ((sIf_t (tst rfl)).trans (sDrop_err ((eCall_go (aCons_go (eVar_go rfl) (aCons_go rfl rfl))).trans (no_worth h _)))))))
 | 4,_=>fnM_err (ρ:=[some (.int 4),some d]) rfl ((sIf_f (tst rfl)).trans ((sIf_f (tst rfl)).trans ((sIf_f (tst rfl)).trans ((sIf_f (tst rfl)).trans ((sIf_t (tst rfl)).trans (sDrop_err ((eCall_go (aCons_go (eVar_go rfl) (aCons_go rfl rfl))).trans (no_turned h _))))))))
 | 5,_=>fnM_err (ρ:=[some (.int 5),some d]) rfl ((sIf_f (tst rfl)).trans ((sIf_f (tst rfl)).trans ((sIf_f (tst rfl)).trans ((sIf_f (tst rfl)).trans ((sIf_f (tst rfl)).trans ((sIf_t (tst rfl)).trans (sDrop_err ((eCall_go (aCons_go (eVar_go rfl) (aCons_go rfl rfl))).trans (no_lots h _)))))))))
 | 6,_=>fnM_err (ρ:=[some (.int 6),some d]) rfl ((sIf_f (tst rfl)).trans ((sIf_f (tst rfl)).trans ((sIf_f (tst rfl)).trans ((sIf_f (tst rfl)).trans ((sIf_f (tst rfl)).trans ((sIf_f (tst rfl)).trans ((sIf_t (tst rfl)).trans (sDrop_err ((eCall_go (aCons_go (eVar_go rfl) (aCons_go rfl rfl))).trans (no_kept h _))))))))))
 | 7,_=>fnM_err (ρ:=[some (.int 7),some d]) rfl ((sIf_f (tst rfl)).trans ((sIf_f (tst rfl)).trans ((sIf_f (tst rfl)).trans ((sIf_f (tst rfl)).trans ((sIf_f (tst rfl)).trans ((sIf_f (tst rfl)).trans ((sIf_f (tst rfl)).trans ((sIf_t (tst rfl)).trans (sDrop_err ((eCall_go (aCons_go (eVar_go rfl) (aCons_go rfl rfl))).trans (no_show h _)))))))))))
 | 8,_=>fnM_err (ρ:=[some (.int 8),some d]) rfl ((sIf_f (tst rfl)).trans ((sIf_f (tst rfl)).trans ((sIf_f (tst rfl)).trans ((sIf_f (tst rfl)).trans ((sIf_f (tst rfl)).trans ((sIf_f (tst rfl)).trans ((sIf_f (tst rfl)).trans ((sIf_f (tst rfl)).trans (sDrop_err ((eCall_go (aCons_go (eVar_go rfl) rfl)).trans (no_sign_table h)))))))))))
 | k + 9,z=>absurd z (by omega)
theorem no__law_second:∀ k:Nat,k < 9→F__law_second [.int k,d] S=.err noRow S
 | 0,_=>fnM_err (ρ:=[some (.int 0),some d]) rfl ((sIf_t (tst rfl)).trans (sDrop_err ((eCall_go (aCons_go (eVar_go rfl) rfl)).trans (no_part_table h))))
 | 1,_=>fnM_err (ρ:=[some (.int 1),some d]) rfl ((sIf_f (tst rfl)).trans ((sIf_t (tst rfl)).trans (sDrop_err ((eCall_go (aCons_go (eVar_go rfl) (aCons_go rfl rfl))).trans (no_signs_to h _)))))
 | 2,_=>fnM_err (ρ:=[some (.int 2),some d]) rfl ((sIf_f (tst rfl)).trans ((sIf_f (tst rfl)).trans ((sIf_t (tst rfl)).trans (sDrop_err ((eCall_go (aCons_go (eVar_go rfl) (aCons_go rfl rfl))).trans (no_parts_to h _))))))
 | 3,_=>fnM_err (ρ:=[some (.int 3),some d]) rfl ((sIf_f (tst rfl)).trans ((sIf_f (tst rfl)).trans ((sIf_f (tst rfl)).trans ((sIf_t (tst rfl)).trans (sDrop_err ((eCall_go (aCons_go (eVar_go rfl) (aCons_go rfl rfl))).trans (no_sign_ways h _)))))))
 | 4,_=>fnM_err (ρ:=[some (.int 4),some d]) rfl ((sIf_f (tst rfl)).trans ((sIf_f (tst rfl)).trans ((sIf_f (tst rfl)).trans ((sIf_f (tst rfl)).trans ((sIf_t (tst rfl)).trans (sDrop_err ((eCall_go (aCons_go (eVar_go rfl) (aCons_go rfl rfl))).trans (no_part_ways h _))))))))
 | 5,_=>fnM_err (ρ:=[some (.int 5),some d]) rfl ((sIf_f (tst rfl)).trans ((sIf_f (tst rfl)).trans ((sIf_f (tst rfl)).trans ((sIf_f (tst rfl)).trans ((sIf_f (tst rfl)).trans ((sIf_t (tst rfl)).trans (sDrop_err ((eCall_go (aCons_go rfl (aCons_go (eVar_go rfl) (aCons_go rfl rfl)))).trans (no_is_barred h _ _)))))))))
 | 6,_=>fnM_err (ρ:=[some (.int 6),some d]) rfl ((sIf_f (tst rfl)).trans ((sIf_f (tst rfl)).trans ((sIf_f (tst rfl)).trans ((sIf_f (tst rfl)).trans ((sIf_f (tst rfl)).trans ((sIf_f (tst rfl)).trans ((sIf_t (tst rfl)).trans (sDrop_err ((eCall_go (aCons_go rfl (aCons_go (eVar_go rfl) (aCons_go rfl rfl)))).trans (no_is_wide_barred h _ _))))))))))
 | 7,_=>fnM_err (ρ:=[some (.int 7),some d]) rfl ((sIf_f (tst rfl)).trans ((sIf_f (tst rfl)).trans ((sIf_f (tst rfl)).trans ((sIf_f (tst rfl)).trans ((sIf_f (tst rfl)).trans ((sIf_f (tst rfl)).trans ((sIf_f (tst rfl)).trans ((sIf_t (tst rfl)).trans (sDrop_err ((eCall_go (aCons_go (eVar_go rfl) (aCons_go rfl rfl))).trans (no_layers_for h _)))))))))))
 | 8,_=>fnM_err (ρ:=[some (.int 8),some d]) rfl ((sIf_f (tst rfl)).trans ((sIf_f (tst rfl)).trans ((sIf_f (tst rfl)).trans ((sIf_f (tst rfl)).trans ((sIf_f (tst rfl)).trans ((sIf_f (tst rfl)).trans ((sIf_f (tst rfl)).trans ((sIf_f (tst rfl)).trans (sDrop_err ((eCall_go (aCons_go (eVar_go rfl) (aCons_go rfl rfl))).trans (no_wide_layers_for h _)))))))))))
 | k + 9,z=>absurd z (by omega)
theorem no__law_third:∀ k:Nat,k < 9→F__law_third [.int k,d] S=.err noRow S
 | 0,_=>fnM_err (ρ:=[some (.int 0),some d]) rfl ((sIf_t (tst rfl)).trans (sDrop_err ((eCall_go (aCons_go rfl (aCons_go (eVar_go rfl) (aCons_go rfl rfl)))).trans (no_is_rest h _ _))))
 | 1,_=>fnM_err (ρ:=[some (.int 1),some d]) rfl ((sIf_f (tst rfl)).trans ((sIf_t (tst rfl)).trans (sDrop_err ((eCall_go (aCons_go (eVar_go rfl) (aCons_go rfl rfl))).trans (no_rest_for h _)))))
 | 2,_=>fnM_err (ρ:=[some (.int 2),some d]) rfl ((sIf_f (tst rfl)).trans ((sIf_f (tst rfl)).trans ((sIf_t (tst rfl)).trans (sDrop_err ((eCall_go (aCons_go (eVar_go rfl) rfl)).trans (no_half_worths h))))))
 | 3,_=>fnM_err (ρ:=[some (.int 3),some d]) rfl ((sIf_f (tst rfl)).trans ((sIf_f (tst rfl)).trans ((sIf_f (tst rfl)).trans ((sIf_t (tst rfl)).trans (sDrop_err ((eCall_go (aCons_go (eVar_go rfl) (aCons_go rfl rfl))).trans (no_many_met h _)))))))
 | 4,_=>fnM_err (ρ:=[some (.int 4),some d]) rfl ((sIf_f (tst rfl)).trans ((sIf_f (tst rfl)).trans ((sIf_f (tst rfl)).trans ((sIf_f (tst rfl)).trans ((sIf_t (tst rfl)).trans (sDrop_err ((eCall_go (aCons_go (eVar_go rfl) (aCons_go rfl rfl))).trans (no_first_met h _))))))))
 | 5,_=>fnM_err (ρ:=[some (.int 5),some d]) rfl ((sIf_f (tst rfl)).trans ((sIf_f (tst rfl)).trans ((sIf_f (tst rfl)).trans ((sIf_f (tst rfl)).trans ((sIf_f (tst rfl)).trans ((sIf_t (tst rfl)).trans (sDrop_err ((eCall_go (aCons_go rfl (aCons_go (eVar_go rfl) (aCons_go rfl rfl)))).trans (no_is_stair h _ _)))))))))
 | 6,_=>fnM_err (ρ:=[some (.int 6),some d]) rfl ((sIf_f (tst rfl)).trans ((sIf_f (tst rfl)).trans ((sIf_f (tst rfl)).trans ((sIf_f (tst rfl)).trans ((sIf_f (tst rfl)).trans ((sIf_f (tst rfl)).trans ((sIf_t (tst rfl)).trans (sDrop_err ((eCall_go (aCons_go (eVar_go rfl) (aCons_go rfl rfl))).trans (no_stair_for h _))))))))))
 | 7,_=>fnM_err (ρ:=[some (.int 7),some d]) rfl ((sIf_f (tst rfl)).trans ((sIf_f (tst rfl)).trans ((sIf_f (tst rfl)).trans ((sIf_f (tst rfl)).trans ((sIf_f (tst rfl)).trans ((sIf_f (tst rfl)).trans ((sIf_f (tst rfl)).trans ((sIf_t (tst rfl)).trans (sDrop_err ((eCall_go (aCons_go (eVar_go rfl) (aCons_go rfl rfl))).trans (no_below h _)))))))))))
 | 8,_=>fnM_err (ρ:=[some (.int 8),some d]) rfl ((sIf_f (tst rfl)).trans ((sIf_f (tst rfl)).trans ((sIf_f (tst rfl)).trans ((sIf_f (tst rfl)).trans ((sIf_f (tst rfl)).trans ((sIf_f (tst rfl)).trans ((sIf_f (tst rfl)).trans ((sIf_f (tst rfl)).trans (sDrop_err ((eCall_go (aCons_go (eVar_go rfl) (aCons_go rfl rfl))).trans (no_above h _)))))))))))
 | k + 9,z=>absurd z (by omega)
theorem no__law_fourth:∀ k:Nat,k < 9→F__law_fourth [.int k,d] S=.err noRow S
 | 0,_=>fnM_err (ρ:=[some (.int 0),some d]) rfl ((sIf_t (tst rfl)).trans (sDrop_err ((eCall_go (aCons_go (eVar_go rfl) rfl)).trans (no_unevenness h))))
 | 1,_=>fnM_err (ρ:=[some (.int 1),some d]) rfl ((sIf_f (tst rfl)).trans ((sIf_t (tst rfl)).trans (sDrop_err ((eCall_go (aCons_go (eVar_go rfl) rfl)).trans (no_evenest h)))))
 | 2,_=>fnM_err (ρ:=[some (.int 2),some d]) rfl ((sIf_f (tst rfl)).trans ((sIf_f (tst rfl)).trans ((sIf_t (tst rfl)).trans (sDrop_err ((eCall_go (aCons_go (eVar_go rfl) rfl)).trans (no_evenest_many h))))))
 | 3,_=>fnM_err (ρ:=[some (.int 3),some d]) rfl ((sIf_f (tst rfl)).trans ((sIf_f (tst rfl)).trans ((sIf_f (tst rfl)).trans ((sIf_t (tst rfl)).trans (sDrop_err ((eCall_go (aCons_go (eVar_go rfl) rfl)).trans (no_differences h)))))))
 | 4,_=>fnM_err (ρ:=[some (.int 4),some d]) rfl ((sIf_f (tst rfl)).trans ((sIf_f (tst rfl)).trans ((sIf_f (tst rfl)).trans ((sIf_f (tst rfl)).trans ((sIf_t (tst rfl)).trans (sDrop_err ((eCall_go (aCons_go (eVar_go rfl) rfl)).trans (no_difference_signs h))))))))
 | 5,_=>fnM_err (ρ:=[some (.int 5),some d]) rfl ((sIf_f (tst rfl)).trans ((sIf_f (tst rfl)).trans ((sIf_f (tst rfl)).trans ((sIf_f (tst rfl)).trans ((sIf_f (tst rfl)).trans ((sIf_t (tst rfl)).trans (sDrop_err ((eCall_go (aCons_go rfl (aCons_go (eVar_go rfl) rfl))).trans (no_uneven_bound h _)))))))))
 | 6,_=>fnM_err (ρ:=[some (.int 6),some d]) rfl ((sIf_f (tst rfl)).trans ((sIf_f (tst rfl)).trans ((sIf_f (tst rfl)).trans ((sIf_f (tst rfl)).trans ((sIf_f (tst rfl)).trans ((sIf_f (tst rfl)).trans ((sIf_t (tst rfl)).trans (sDrop_err ((eCall_go (aCons_go (eVar_go rfl) rfl)).trans (no_uneven_paper h))))))))))
 | 7,_=>fnM_err (ρ:=[some (.int 7),some d]) rfl ((sIf_f (tst rfl)).trans ((sIf_f (tst rfl)).trans ((sIf_f (tst rfl)).trans ((sIf_f (tst rfl)).trans ((sIf_f (tst rfl)).trans ((sIf_f (tst rfl)).trans ((sIf_f (tst rfl)).trans ((sIf_t (tst rfl)).trans (sDrop_err ((eCall_go (aCons_go (eVar_go rfl) rfl)).trans (no_every_by_parts h)))))))))))
 | 8,_=>fnM_err (ρ:=[some (.int 8),some d]) rfl ((sIf_f (tst rfl)).trans ((sIf_f (tst rfl)).trans ((sIf_f (tst rfl)).trans ((sIf_f (tst rfl)).trans ((sIf_f (tst rfl)).trans ((sIf_f (tst rfl)).trans ((sIf_f (tst rfl)).trans ((sIf_f (tst rfl)).trans (sDrop_err ((eCall_go (aCons_go (eVar_go rfl) rfl)).trans (no_every_by_signs h)))))))))))
 | k + 9,z=>absurd z (by omega)
theorem no__law_last:∀ k:Nat,k < 3→F__law_last [.int k,d] S=.err noRow S
 | 0,_=>fnM_err (ρ:=[some (.int 0),some d]) rfl ((sIf_t (tst rfl)).trans (sDrop_err ((eCall_go (aCons_go (eVar_go rfl) rfl)).trans (no_missed_by_parts h))))
 | 1,_=>fnM_err (ρ:=[some (.int 1),some d]) rfl ((sIf_f (tst rfl)).trans ((sIf_t (tst rfl)).trans (sDrop_err ((eCall_go (aCons_go (eVar_go rfl) rfl)).trans (no_missed_by_signs h)))))
 | 2,_=>fnM_err (ρ:=[some (.int 2),some d]) rfl ((sIf_f (tst rfl)).trans ((sIf_f (tst rfl)).trans (sDrop_err ((eCall_go (aCons_go (eVar_go rfl) (aCons_go rfl rfl))).trans (no_weighed h _)))))
 | k + 3,z=>absurd z (by omega)
end
theorem laps_le (ns:List Int) (c:Nat) (hn:ns.length≤63) (hc:1≤c∧c≤63) (r:Rho) (hr:r[0]?=some (some (.fz (ns.map .int)))) (S:Sto):∃ n:Nat,aRange1 (aCons (eB fMax (aCons (eC (.int 1)) (aCons (eB fMin (aCons (eB fLen (aCons (eVar 0) aNil)) (aCons (eC (.int c)) aNil))) aNil))) aNil) r S=.ok ((List.range n).map (fun (i:Nat)=>D.int i)) S∧n≤c:=by
 refine ⟨max 1 (min ns.length c),aRange1_ok ?_ (by omega),by omega⟩
 have e:(if (1:Int) < (if (c:Int) < (ns.length:Int) then (c:Int) else (ns.length:Int)) then (if (c:Int) < (ns.length:Int) then (c:Int) else (ns.length:Int)) else 1)=((max 1 (min ns.length c):Nat):Int):=by
  split <;> split <;> omega
 rw [← e]
 simp [aCons,aNil,eB,eC,eVar,R.bind,R.of,hr,fLen,seqOf,fMin,fMax]
theorem sTry_err {cs:List Str} {i n:Nat} {b h:SM} {r:Rho} {S S1 S2:Sto} {x:XD} {d:D} (hb:b r S=.err x S1) (hc:cs.contains x.cls=true) (hh:h ((List.replicate n none).set i (some (.exc x.cls))) S1=.ok (.rt d) S2):sTry cs i n b h r S=.ok (.rt d) S2:=by
 unfold sTry
 rw [hb]
 simp only [hc,if_true,hh]
 rfl
theorem eNx_ok {a:EM} {r:Rho} {S S1:Sto} {d:D} (h:a r S=.ok d S1):eNx a r S=.ok d S1:=by unfold eNx; rw [h]; rfl
theorem marks_row (S:Sto):F__law_marks [.exc "NoRow"] S=.ok (.str "row") S:=by kernel_rfl
theorem mod3 {S:Sto}:∀ k:Nat,k < 9→oMod S (.int k) (.int 3)=some (.int ((k % 3:Nat):Int))
 | 0,_=>rfl
 | 1,_=>rfl
 | 2,_=>rfl
 | 3,_=>rfl
 | 4,_=>rfl
 | 5,_=>rfl
 | 6,_=>rfl
 | 7,_=>rfl
 | 8,_=>rfl
 | k + 9,z=>absurd z (by omega)
theorem said_no {d:D} {S:Sto} (h:F_is_row [d] S=.ok (.bl false) S) {k:Nat} (hk:k < 9):∀ p:Nat,p < 5→F__law_said [.int p,.int k,d] S=.ok (.str "row") S
 | 0,_=>fnM_rt (ρ:=[some (.int 0),some (.int k),some d,none]) rfl (sSeq_rt (sTry_err (x:=noRow) ((sIf_t (tst rfl)).trans (sDrop_err ((eCall_go (aCons_go (eVar_go rfl) (aCons_go (eVar_go rfl) rfl))).trans (no__law_first h k hk)))) (by decide +kernel) (sRet_go ((eCall_go (aCons_go (eVar_go rfl) rfl)).trans (marks_row S)))))
 | 1,_=>fnM_rt (ρ:=[some (.int 1),some (.int k),some d,none]) rfl (sSeq_rt (sTry_err (x:=noRow) ((sIf_f (tst rfl)).trans ((sIf_t (tst rfl)).trans (sDrop_err ((eCall_go (aCons_go (eVar_go rfl) (aCons_go (eVar_go rfl) rfl))).trans (no__law_second h k hk))))) (by decide +kernel) (sRet_go ((eCall_go (aCons_go (eVar_go rfl) rfl)).trans (marks_row S)))))
 | 2,_=>fnM_rt (ρ:=[some (.int 2),some (.int k),some d,none]) rfl (sSeq_rt (sTry_err (x:=noRow) ((sIf_f (tst rfl)).trans ((sIf_f (tst rfl)).trans ((sIf_t (tst rfl)).trans (sDrop_err ((eCall_go (aCons_go (eVar_go rfl) (aCons_go (eVar_go rfl) rfl))).trans (no__law_third h k hk)))))) (by decide +kernel) (sRet_go ((eCall_go (aCons_go (eVar_go rfl) rfl)).trans (marks_row S)))))
 | 3,_=>fnM_rt (ρ:=[some (.int 3),some (.int k),some d,none]) rfl (sSeq_rt (sTry_err (x:=noRow) ((sIf_f (tst rfl)).trans ((sIf_f (tst rfl)).trans ((sIf_f (tst rfl)).trans ((sIf_t (tst rfl)).trans (sDrop_err ((eCall_go (aCons_go (eVar_go rfl) (aCons_go (eVar_go rfl) rfl))).trans (no__law_fourth h k hk))))))) (by decide +kernel) (sRet_go ((eCall_go (aCons_go (eVar_go rfl) rfl)).trans (marks_row S)))))
 | 4,_=>fnM_rt (ρ:=[some (.int 4),some (.int k),some d,none]) rfl (sSeq_rt (sTry_err (x:=noRow) ((sIf_f (tst rfl)).trans ((sIf_f (tst rfl)).trans ((sIf_f (tst rfl)).trans ((sIf_f (tst rfl)).trans (sDrop_err ((eCall_go (aCons_go (eNx_ok (eOp_go (eVar_go rfl) rfl (mod3 k hk))) (aCons_go (eVar_go rfl) rfl))).trans (no__law_last h (k % 3) (Nat.mod_lt _ (by decide))))))))) (by decide +kernel) (sRet_go ((eCall_go (aCons_go (eVar_go rfl) rfl)).trans (marks_row S)))))
 | p + 5,z=>absurd z (by omega)
theorem app_no {row:List Int} (h6:row.length≤6) {x:D} (hs:shal x=true) (hx:rowOk x=false):Okay (.tup (row.map .int ++ [x]))∧isRow (.tup (row.map .int ++ [x]))=false:=by
 refine ⟨⟨rfl,fun ys e=>?_⟩,?_⟩
 ·cases e
  refine ⟨fun y hy=>?_,by simp; omega⟩
  rcases List.mem_append.mp hy with hy | hy
  ·obtain ⟨i,_,rfl⟩:=List.mem_map.mp hy; rfl
  ·rw [List.mem_singleton.mp hy]; exact hs
 ·show (decide (_≤16) && List.all _ rowOk)=false
  rw [List.all_append,List.all_cons,hx,Bool.false_and,Bool.and_false,Bool.and_false]
theorem cons_no {row:List Int} (h6:row.length≤6):Okay (.tup (.int (-1) :: row.map .int))∧isRow (.tup (.int (-1) :: row.map .int))=false:=by
 refine ⟨⟨rfl,fun ys e=>?_⟩,?_⟩
 ·cases e
  refine ⟨fun y hy=>?_,by simp; omega⟩
  rcases List.mem_cons.mp hy with rfl | hy
  ·rfl
  ·obtain ⟨i,_,rfl⟩:=List.mem_map.mp hy; rfl
 ·show (decide (_≤16) && List.all _ rowOk)=false
  rw [List.all_cons,show rowOk (.int (-1))=false from rfl,Bool.false_and,Bool.and_false]
theorem okay_no {d:D} (h:shal d=true) (ht:∀ xs,d ≠ .tup xs):Okay d:=⟨h,fun xs e=>absurd e (ht xs)⟩
noncomputable abbrev L17:List D:=[.int 1,.int 1,.int 1,.int 1,.int 1,.int 1,.int 1,.int 1,.int 1,.int 1,.int 1,.int 1,.int 1,.int 1,.int 1,.int 1,.int 1]
noncomputable abbrev thA (row:List Int):List D:=[.non,.lst (row.map .int),.tup (row.map .int ++ [.int 0]),.tup (.int (-1) :: row.map .int),.tup (row.map .int ++ [.bl true]),.tup L17,.str "1",.int 5,.tup (row.map .int ++ [.str "1"]),.dic [],.tup [.tup (row.map .int)]]
noncomputable abbrev thL (row:List Int):List D:=[.non,.lst (row.map .int),.tup (row.map .int ++ [.int 0]),.tup (.int (-1) :: row.map .int),.tup (row.map .int ++ [.bl true]),.tup L17,.str "1",.int 5,.tup (row.map .int ++ [.str "1"]),.dic [],.tup [.tup (row.map .int)],.tup (row.map .int ++ [.non]),.lst [.lst []],.bl false]
theorem th_no {row:List Int} (h6:row.length≤6):∀ d ∈ thL row,Okay d∧isRow d=false:=by
 intro d hd
 simp only [List.mem_cons,List.not_mem_nil,or_false] at hd
 rcases hd with rfl | rfl | rfl | rfl | rfl | rfl | rfl | rfl | rfl | rfl | rfl | rfl | rfl | rfl
 ·exact ⟨okay_no rfl (by rintro _ ⟨⟩),rfl⟩
 ·exact ⟨okay_no rfl (by rintro _ ⟨⟩),rfl⟩
 ·exact app_no h6 rfl rfl
 ·exact cons_no h6
 ·exact app_no h6 rfl rfl
 ·refine ⟨⟨rfl,fun ys e=>?_⟩,rfl⟩
  cases e
  refine ⟨fun x hx=>?_,by decide⟩
  have:L17=List.replicate 17 (.int 1):=rfl
  rw [this] at hx
  rw [List.eq_of_mem_replicate hx]; rfl
 ·exact ⟨okay_no rfl (by rintro _ ⟨⟩),rfl⟩
 ·exact ⟨okay_no rfl (by rintro _ ⟨⟩),rfl⟩
 ·exact app_no h6 rfl rfl
 ·exact ⟨okay_no rfl (by rintro _ ⟨⟩),rfl⟩
 ·refine ⟨⟨rfl,fun ys e=>?_⟩,rfl⟩
  cases e
  refine ⟨fun x hx=>?_,by show 1≤1000; decide⟩
  rw [List.mem_singleton.mp hx]; rfl
 ·exact app_no h6 rfl rfl
 ·exact ⟨okay_no rfl (by rintro _ ⟨⟩),rfl⟩
 ·exact ⟨okay_no rfl (by rintro _ ⟨⟩),rfl⟩
theorem oAdd_l {S:Sto} {a b:List D} (h:a.length + b.length≤sizeLine):oAdd S (.lst a) (.lst b)=some (.lst (a ++ b)):=if_pos h
theorem oAdd_t {S:Sto} {a b:List D} (h:a.length + b.length≤sizeLine):oAdd S (.tup a) (.tup b)=some (.tup (a ++ b)):=if_pos h
theorem ne_row {S:Sto}:oNeP S (.str "row") (.str "row")=some (.bl false):=by kernel_rfl
noncomputable abbrev kindB:SM:=(sIf (tV (eOp oNeP (eCall F__law_said (aCons (eVar 7) (aCons (eVar 8) (aCons (eVar 6) aNil)))) (eC (.str "row")))) (sRet (eC (.bl false))) sSkip)
noncomputable abbrev partB:SM:=(sFor (aRange1 (aCons (eC (.int 9)) aNil)) (.nm 8) kindB)
noncomputable abbrev lapB:SM:=(sSeq (sSet 6 (eOp oIx (eVar 4) (eCall F__law_take (aCons (eVar 2) (aCons (eC (.int 14)) aNil))))) (sFor (aRange1 (aCons (eC (.int 5)) aNil)) (.nm 7) partB))
theorem kind_loop {d:D} {S:Sto} (h:F_is_row [d] S=.ok (.bl false) S) {p:Nat} (hp:p < 5) (r0 r1 r2 r3 r4 r5:Option D):∀ (l:List Nat) (r8:Option D),(∀ k ∈ l,k < 9)→∃ a8:Option D,forL (.nm 8) kindB (l.map fun (i:Nat)=>D.int i) [r0,r1,r2,r3,r4,r5,some d,some (.int p),r8] S=.ok (.nx [r0,r1,r2,r3,r4,r5,some d,some (.int p),a8]) S
 | [],r8,_=>⟨r8,rfl⟩
 | k :: l,r8,hl=>by
  obtain ⟨a8,e⟩:=kind_loop h hp r0 r1 r2 r3 r4 r5 l (some (.int k)) fun x hx=>hl x (.tail _ hx)
  exact ⟨a8,(forL_cons (r1:=[r0,r1,r2,r3,r4,r5,some d,some (.int p),some (.int k)]) rfl ((sIf_f (tV_go (eOp_go ((eCall_go (aCons_go (eVar_go rfl) (aCons_go (eVar_go rfl) (aCons_go (eVar_go rfl) rfl)))).trans (said_no h (hl k (.head _)) p hp)) rfl ne_row))).trans rfl)).trans e⟩
theorem part_loop {d:D} {S:Sto} (h:F_is_row [d] S=.ok (.bl false) S) (r0 r1 r2 r3 r4 r5:Option D):∀ (l:List Nat) (r7 r8:Option D),(∀ k ∈ l,k < 5)→∃ a7 a8:Option D,forL (.nm 7) partB (l.map fun (i:Nat)=>D.int i) [r0,r1,r2,r3,r4,r5,some d,r7,r8] S=.ok (.nx [r0,r1,r2,r3,r4,r5,some d,a7,a8]) S
 | [],r7,r8,_=>⟨r7,r8,rfl⟩
 | p :: l,r7,r8,hl=>by
  obtain ⟨b8,e1⟩:=kind_loop h (hl p (.head _)) r0 r1 r2 r3 r4 r5 (List.range 9) r8 fun k hk=>List.mem_range.mp hk
  obtain ⟨a7,a8,e⟩:=part_loop h r0 r1 r2 r3 r4 r5 l (some (.int p)) b8 fun x hx=>hl x (.tail _ hx)
  exact ⟨a7,a8,(forL_cons (r1:=[r0,r1,r2,r3,r4,r5,some d,some (.int p),r8]) rfl ((sFor_go (aRange1_ok (n:=9) rfl (by decide))).trans e1)).trans e⟩
theorem lap_loop {row:List Int} (h6:row.length≤6) {b:Nat} (r0 r1 r3:Option D):∀ (l:List Nat) (S:Sto) (r5 r6 r7 r8:Option D),Gr b S S→∃ (S':Sto) (a5 a6 a7 a8:Option D),forL (.nm 5) lapB (l.map fun (i:Nat)=>D.int i) [r0,r1,some (.ref b),r3,some (.lst (thL row)),r5,r6,r7,r8] S=.ok (.nx [r0,r1,some (.ref b),r3,some (.lst (thL row)),a5,a6,a7,a8]) S'∧Gr b S S'
 | [],S,r5,r6,r7,r8,g=>⟨S,r5,r6,r7,r8,rfl,g⟩
 | i :: l,S,r5,r6,r7,r8,g=>by
  obtain ⟨q,S1,e1,q0,q1,g1⟩:=take_ok g (many:=14) (by decide) (by decide)
  obtain ⟨n,rfl⟩:∃ n:Nat,q=n:=⟨q.toNat,by omega⟩
  have hn:n < (thL row).length:=by show n < 14; omega
  have hix:oIx S1 (.lst (thL row)) (.int (n:Int))=some (thL row)[n]:=atI_nat' hn
  obtain ⟨ok,no⟩:=th_no h6 _ (List.getElem_mem hn)
  have hr:=isrow_eq (S:=S1) ok
  rw [no] at hr
  generalize (thL row)[n]=d at hix hr
  obtain ⟨b7,b8,e2⟩:=part_loop hr r0 r1 (some (.ref b)) r3 (some (.lst (thL row))) (some (.int i)) (List.range 5) r7 r8 fun k hk=>List.mem_range.mp hk
  obtain ⟨S3,a5,a6,a7,a8,e3,g3⟩:=lap_loop h6 r0 r1 r3 l S1 (some (.int i)) (some d) b7 b8 g1.self
  exact ⟨S3,a5,a6,a7,a8,(forL_cons (r1:=[r0,r1,some (.ref b),r3,some (.lst (thL row)),some (.int i),r6,r7,r8]) rfl ((sSeq_go (sSet_go (eOp_go (eVar_go rfl) ((eCall_go (aCons_go (eVar_go rfl) (aCons_go rfl rfl))).trans e1) hix))).trans ((sFor_go (aRange1_ok (n:=5) rfl (by decide))).trans e2))).trans e3,g1.trans g3⟩
noncomputable abbrev lawB:SM:=(sSeq (sSet 2 (eCall F__law_box (aCons (eVar 0) (aCons (eVar 1) aNil)))) (sSeq (sSet 3 (eCall F__law_row (aCons (eVar 2) (aCons (eC (.int 6)) aNil)))) (sSeq (sSet 4 (eLst (aCons (eC .non) (aCons (eB fList (aCons (eVar 3) aNil)) (aCons (eOp oAdd (eVar 3) (eTup (aCons (eC (.int 0)) aNil))) (aCons (eOp oAdd (eTup (aCons (eUn oNeg (eC (.int 1))) aNil)) (eVar 3)) (aCons (eOp oAdd (eVar 3) (eTup (aCons (eC (.bl true)) aNil))) (aCons (eOp oMul (eTup (aCons (eC (.int 1)) aNil)) (eC (.int 17))) (aCons (eC (.str "1")) (aCons (eC (.int 5)) (aCons (eOp oAdd (eVar 3) (eTup (aCons (eC (.str "1")) aNil))) (aCons (eDic []) (aCons (eTup (aCons (eVar 3) aNil)) aNil))))))))))))) (sSeq (sSet 4 (eOp oAdd (eVar 4) (eLst (aCons (eOp oAdd (eVar 3) (eTup (aCons (eC .non) aNil))) (aCons (eLst (aCons (eLst aNil) aNil)) (aCons (eC (.bl false)) aNil)))))) (sFor (aRange1 (aCons (eC (.int 4)) aNil)) (.nm 5) (sSeq (sSet 6 (eOp oIx (eVar 4) (eCall F__law_take (aCons (eVar 2) (aCons (eC (.int 14)) aNil))))) (sFor (aRange1 (aCons (eC (.int 5)) aNil)) (.nm 7) (sFor (aRange1 (aCons (eC (.int 9)) aNil)) (.nm 8) (sIf (tV (eOp oNeP (eCall F__law_said (aCons (eVar 7) (aCons (eVar 8) (aCons (eVar 6) aNil)))) (eC (.str "row")))) (sRet (eC (.bl false))) sSkip)))))))))
theorem law_turn (ns:List Int) (k:Nat) (S:Sto) (r2 r3 r4 r5 r6 r7 r8:Option D):∃ (S':Sto) (a2 a3 a4 a5 a6 a7 a8:Option D),lawB [some (.fz (ns.map .int)),some (.int k),r2,r3,r4,r5,r6,r7,r8] S=.ok (.nx [some (.fz (ns.map .int)),some (.int k),a2,a3,a4,a5,a6,a7,a8]) S':=by
 obtain ⟨v,e0⟩:=box_ok ns k S
 have g0:Gr S.length (S ++ [.lst [.int v]]) (S ++ [.lst [.int v]]):=⟨⟨v,by simp⟩,fun _ _ _=>rfl,Nat.le_refl _⟩
 obtain ⟨row,S1,e1,l1,p1,g1⟩:=row_ok g0 (most:=6) ⟨by decide,by decide⟩
 have h6:row.length≤6:=by omega
 have z1:(1:Nat)≤sizeLine:=by decide
 have z3:(3:Nat)≤sizeLine:=by decide
 have z11:(11:Nat)≤sizeLine:=by decide
 have z14:(14:Nat)≤sizeLine:=by decide
 have z17:(17:Nat)≤sizeLine:=by decide
 have z100:(100:Nat)≤sizeLine:=by decide
 have hadd:∀ (x:D),oAdd S1 (.tup (row.map .int)) (.tup [x])=some (.tup (row.map .int ++ [x])):=fun x=>oAdd_t (by simp; omega)
 have hcons:oAdd S1 (.tup [.int (-1)]) (.tup (row.map .int))=some (.tup (.int (-1) :: row.map .int)):=oAdd_t (by simp; omega)
 have hm:oMul S1 (.tup [.int 1]) (.int 17)=some (.tup L17):=by
  rw [oMul_t (a:=[.int 1]) (k:=17) ⟨by decide,by decide,z17⟩]; rfl
 have hli:fList S1 [.tup (row.map .int)]=some (.lst (row.map .int)):=rfl
 have hl2:oAdd S1 (.lst (thA row)) (.lst [.tup (row.map .int ++ [.non]),.lst [.lst []],.bl false])=some (.lst (thL row)):=by
  exact oAdd_l (S:=S1) (a:=thA row) z14
 obtain ⟨S2,a5,a6,a7,a8,e2,g2⟩:=lap_loop h6 (some (.fz (ns.map .int))) (some (.int k)) (some (.tup (row.map .int))) (List.range 4) S1 r5 r6 r7 r8 g1.self
 refine ⟨S2,some (.ref S.length),some (.tup (row.map .int)),some (.lst (thL row)),a5,a6,a7,a8,?_⟩
 refine (sSeq_go (sSet_go ((eCall_go (aCons_go (eVar_go rfl) (aCons_go (eVar_go rfl) rfl))).trans e0))).trans ?_
 refine (sSeq_go (sSet_go ((eCall_go (aCons_go (eVar_go rfl) (aCons_go rfl rfl))).trans e1))).trans ?_
 refine (sSeq_go (sSet_go (eLst_go (xs:=thA row) (aCons_go rfl (aCons_go (eB_go (aCons_go (eVar_go rfl) rfl) hli) (aCons_go (eOp_go (eVar_go rfl) (eTup_go (xs:=[.int 0]) rfl z1) (hadd _)) (aCons_go (eOp_go (eTup_go (xs:=[.int (-1)]) rfl z1) (eVar_go rfl) hcons) (aCons_go (eOp_go (eVar_go rfl) (eTup_go (xs:=[.bl true]) rfl z1) (hadd _)) (aCons_go (eOp_go (eTup_go (xs:=[.int 1]) rfl z1) rfl hm) (aCons_go rfl (aCons_go rfl (aCons_go (eOp_go (eVar_go rfl) (eTup_go (xs:=[.str "1"]) rfl z1) (hadd _)) (aCons_go rfl (aCons_go (eTup_go (xs:=[.tup (row.map .int)]) (aCons_go (eVar_go rfl) rfl) z1) rfl))))))))))) z11))).trans ?_
 refine (sSeq_go (sSet_go (eOp_go (eVar_go rfl) (eLst_go (xs:=[.tup (row.map .int ++ [.non]),.lst [.lst []],.bl false]) (aCons_go (eOp_go (eVar_go rfl) (eTup_go (xs:=[.non]) rfl z1) (hadd _)) (aCons_go (eLst_go (xs:=[.lst []]) (aCons_go (eLst_go (xs:=[]) rfl (Nat.zero_le _)) rfl) z1) (aCons_go rfl rfl))) z3) hl2))).trans ?_
 exact (sFor_go (aRange1_ok (n:=4) rfl (by decide))).trans e2
theorem law_loop (ns:List Int):∀ (l:List Nat) (S:Sto) (r1 r2 r3 r4 r5 r6 r7 r8:Option D),∃ (S':Sto) (ρ:Rho),forL (.nm 1) lawB (l.map fun (i:Nat)=>D.int i) [some (.fz (ns.map .int)),r1,r2,r3,r4,r5,r6,r7,r8] S=.ok (.nx ρ) S'
 | [],S,r1,r2,r3,r4,r5,r6,r7,r8=>⟨S,_,rfl⟩
 | k :: l,S,r1,r2,r3,r4,r5,r6,r7,r8=>by
  obtain ⟨S1,a2,a3,a4,a5,a6,a7,a8,e1⟩:=law_turn ns k S r2 r3 r4 r5 r6 r7 r8
  obtain ⟨S2,ρ,e2⟩:=law_loop ns l S1 (some (.int k)) a2 a3 a4 a5 a6 a7 a8
  exact ⟨S2,ρ,(forL_cons (r1:=[some (.fz (ns.map .int)),some (.int k),r2,r3,r4,r5,r6,r7,r8]) rfl e1).trans e2⟩
theorem law_true (ns:List Int) (hn:ns.length≤63):∃ S,F_law [.fz (ns.map .int)] []=.ok (.bl true) S:=by
 obtain ⟨n,hg,hn3⟩:=laps_le ns 3 hn (by decide) [some (.fz (ns.map .int)),none,none,none,none,none,none,none,none] rfl []
 obtain ⟨S,ρ,e⟩:=law_loop ns (List.range n) [] none none none none none none none none
 exact ⟨S,fnM_rt (ρ:=[some (.fz (ns.map .int)),none,none,none,none,none,none,none,none]) rfl ((sSeq_go ((sFor_go hg).trans e)).trans (sRet_go rfl))⟩
set_option maxHeartbeats 4000000
theorem boo_ValueError:bootBuiltins "ValueError" = some (.type "ValueError"):=by decide +kernel
theorem boo_abs:bootBuiltins "abs" = some (.builtin "abs"):=by decide +kernel
theorem boo_all:bootBuiltins "all" = some (.builtin "all"):=by decide +kernel
theorem boo_bool:bootBuiltins "bool" = some (.type "bool"):=by decide +kernel
theorem boo_divmod:bootBuiltins "divmod" = some (.builtin "divmod"):=by decide +kernel
theorem boo_int:bootBuiltins "int" = some (.type "int"):=by decide +kernel
theorem boo_isinstance:bootBuiltins "isinstance" = some (.builtin "isinstance"):=by decide +kernel
theorem boo_len:bootBuiltins "len" = some (.builtin "len"):=by decide +kernel
theorem boo_list:bootBuiltins "list" = some (.type "list"):=by decide +kernel
theorem boo_max:bootBuiltins "max" = some (.builtin "max"):=by decide +kernel
theorem boo_min:bootBuiltins "min" = some (.builtin "min"):=by decide +kernel
theorem boo_tuple:bootBuiltins "tuple" = some (.type "tuple"):=by decide +kernel
structure Txt (K:PySem.W.Frag) (mg:Str→Option Value):Prop where
 cl:Cls K raisedX askedX isaX
 x_NoRow:XC K mg "NoRow"
 x_NoSigns:XC K mg "NoSigns"
 v_Lacking:ClsAt K mg "Lacking"
 v_NoNumber:ClsAt K mg "NoNumber"
 v_NoRow:ClsAt K mg "NoRow"
 v_NoSigns:ClsAt K mg "NoSigns"
 v_NoText:ClsAt K mg "NoText"
 v_PlusError:ClsAt K mg "PlusError"
 v_TooMany:ClsAt K mg "TooMany"
 tr:TryAt K mg "PlusError" raisedX
 b_ValueError:mg "ValueError" = none
 b_abs:mg "abs" = none
 b_all:mg "all" = none
 b_bool:mg "bool" = none
 b_divmod:mg "divmod" = none
 b_int:mg "int" = none
 b_isinstance:mg "isinstance" = none
 b_len:mg "len" = none
 b_list:mg "list" = none
 b_max:mg "max" = none
 b_min:mg "min" = none
 b_range:mg "range" = none
 b_tuple:mg "tuple" = none
 c_LONGEST_ROW:∃ t,mg "LONGEST_ROW" = some (.int 16 t)
section
variable {P:Program} {w:World} {K:PySem.W.Frag} {mg:Str→Option Value} {base:Heap}
theorem sc__law_cell:FnScope ["script","k"] ["script","k"] (defScope st__law_cell):=⟨by kernel_rfl,by kernel_rfl,by kernel_rfl,by decide +kernel,rfl,by decide +kernel,by decide +kernel⟩
theorem ok__law_cell {f:Addr} {fd:FuncData} (F:Fun K "_law_cell" "_law_cell" st__law_cell f fd) (hm:mg "_law_cell" = some (.ref f)) (hb:Binds K fd ["script","k"] []) (T:Txt K mg) :DefN P w K mg base "_law_cell" 1 2 F__law_cell:=
 def_ofN ["script","k"] ["script","k"] 0 1 2 2 rfl rfl rfl F hm hb sc__law_cell (m:=m__law_cell) fun cdv A outer s H E hr=>(ss_cons (ss_if (st_cmp xo_lt (se_var 1 (by kernel_rfl) (Or.inl (by kernel_rfl))) (se_callB xc_len (by unfold Gl; kernel_rfl) T.b_len boo_len (sa_cons (se_var 0 (by kernel_rfl) (Or.inl (by kernel_rfl))) sa_nil))) (ss_one (ss_ret (se_ix xi_ix (se_var 0 (by kernel_rfl) (Or.inl (by kernel_rfl))) (se_var 1 (by kernel_rfl) (Or.inl (by kernel_rfl)))))) ss_nil) (ss_one (ss_ret se_int)))
theorem sc__law_mix:FnScope ["cell","k","some","stir"] ["cell","k"] (defScope st__law_mix):=⟨by kernel_rfl,by kernel_rfl,by kernel_rfl,by decide +kernel,rfl,by decide +kernel,by decide +kernel⟩
theorem ok__law_mix {f:Addr} {fd:FuncData} (F:Fun K "_law_mix" "_law_mix" st__law_mix f fd) (hm:mg "_law_mix" = some (.ref f)) (hb:Binds K fd ["cell","k"] []) (T:Txt K mg) :DefN P w K mg base "_law_mix" 1 2 F__law_mix:=
 def_ofN ["cell","k","some","stir"] ["cell","k"] 0 1 2 4 rfl rfl rfl F hm hb sc__law_mix (m:=m__law_mix) fun cdv A outer s H E hr=>(ss_cons (ss_set sc__law_mix.nd (by kernel_rfl) (Or.inl (by kernel_rfl)) (se_lst (sa_cons se_int (sa_cons se_int (sa_cons se_int (sa_cons se_int (sa_cons se_int (sa_cons se_int (sa_cons se_int (sa_cons se_int (sa_cons se_int (sa_cons se_int (sa_cons se_int (sa_cons se_int (sa_cons se_int sa_nil))))))))))))))) (ss_cons (ss_set sc__law_mix.nd (by kernel_rfl) (Or.inl (by kernel_rfl)) (se_op xo_add (se_op xo_add (se_op xo_mul (se_op xo_add (se_op xo_mod (se_var 0 (by kernel_rfl) (Or.inl (by kernel_rfl))) se_int) se_int) (se_ix xi_ix (se_var 2 (by kernel_rfl) (Or.inl (by kernel_rfl))) (se_op xo_mod (se_var 1 (by kernel_rfl) (Or.inl (by kernel_rfl))) se_int))) (se_op xo_mul se_int (se_var 1 (by kernel_rfl) (Or.inl (by kernel_rfl))))) (se_op xo_mul se_int (se_op xo_fdiv (se_var 1 (by kernel_rfl) (Or.inl (by kernel_rfl))) se_int)))) (ss_cons (ss_set sc__law_mix.nd (by kernel_rfl) (Or.inl (by kernel_rfl)) (se_op xo_mod (se_var 3 (by kernel_rfl) (Or.inl (by kernel_rfl))) se_int)) (ss_one (ss_ret (se_op xo_fdiv (se_op xo_mod (se_op xo_add (se_op xo_mul (se_var 3 (by kernel_rfl) (Or.inl (by kernel_rfl))) (se_var 3 (by kernel_rfl) (Or.inl (by kernel_rfl)))) (se_op xo_mul se_int (se_var 1 (by kernel_rfl) (Or.inl (by kernel_rfl))))) se_int) se_int))))))
theorem sc__law_box:FnScope ["script","k","cell","number","j"] ["script","k"] (defScope st__law_box):=⟨by kernel_rfl,by kernel_rfl,by kernel_rfl,by decide +kernel,rfl,by decide +kernel,by decide +kernel⟩
theorem ok__law_box {f:Addr} {fd:FuncData} (F:Fun K "_law_box" "_law_box" st__law_box f fd) (hm:mg "_law_box" = some (.ref f)) (hb:Binds K fd ["script","k"] []) (T:Txt K mg) (d__law_cell:DefN P w K mg base "_law_cell" 1 2 F__law_cell) (d__law_mix:DefN P w K mg base "_law_mix" 1 2 F__law_mix):DefN P w K mg base "_law_box" 2 2 F__law_box:=
 def_ofN ["script","k","cell","number","j"] ["script","k"] 1 2 2 5 rfl rfl rfl F hm hb sc__law_box (m:=m__law_box) fun cdv A outer s H E hr=>(ss_cons (ss_set sc__law_box.nd (by kernel_rfl) (Or.inl (by kernel_rfl)) (se_fnN d__law_cell (hr.mono (by decide)) (by unfold Gl; kernel_rfl) (sa_cons (se_var 0 (by kernel_rfl) (Or.inl (by kernel_rfl))) (sa_cons (se_var 1 (by kernel_rfl) (Or.inl (by kernel_rfl))) sa_nil)) (alen_cons (alen_cons alen_nil)))) (ss_cons (ss_if (st_cmp (xo_eqP hr) (se_op xo_mod (se_var 2 (by kernel_rfl) (Or.inl (by kernel_rfl))) se_int) se_int) (ss_one (ss_ret (se_new (sa_cons (se_op xo_fdiv (se_callB xc_abs (by unfold Gl; kernel_rfl) T.b_abs boo_abs (sa_cons (se_var 2 (by kernel_rfl) (Or.inl (by kernel_rfl))) sa_nil)) se_int) sa_nil)))) ss_nil) (ss_cons (ss_set sc__law_box.nd (by kernel_rfl) (Or.inl (by kernel_rfl)) se_int) (ss_cons (ss_for PassesOwn.never rfl (si_range1 (by unfold Gl; kernel_rfl) T.b_range (sa_cons se_int sa_nil)) (sg_name sc__law_box.nd (by kernel_rfl) (Or.inl (by kernel_rfl))) (ss_one (ss_set sc__law_box.nd (by kernel_rfl) (Or.inl (by kernel_rfl)) (se_op xo_add (se_op xo_mul (se_var 3 (by kernel_rfl) (Or.inl (by kernel_rfl))) se_int) (se_fnN d__law_mix (hr.mono (by decide)) (by unfold Gl; kernel_rfl) (sa_cons (se_var 2 (by kernel_rfl) (Or.inl (by kernel_rfl))) (sa_cons (se_var 4 (by kernel_rfl) (Or.inl (by kernel_rfl))) sa_nil)) (alen_cons (alen_cons alen_nil))))))) (ss_one (ss_ret (se_new (sa_cons (se_var 3 (by kernel_rfl) (Or.inl (by kernel_rfl))) sa_nil))))))))
theorem sc__law_take:FnScope ["box","many","left","digit"] ["box","many"] (defScope st__law_take):=⟨by kernel_rfl,by kernel_rfl,by kernel_rfl,by decide +kernel,rfl,by decide +kernel,by decide +kernel⟩
theorem ok__law_take {f:Addr} {fd:FuncData} (F:Fun K "_law_take" "_law_take" st__law_take f fd) (hm:mg "_law_take" = some (.ref f)) (hb:Binds K fd ["box","many"] []) (T:Txt K mg) :DefN P w K mg base "_law_take" 1 2 F__law_take:=
 def_ofN ["box","many","left","digit"] ["box","many"] 0 1 2 4 rfl rfl rfl F hm hb sc__law_take (m:=m__law_take) fun cdv A outer s H E hr=>(ss_cons (ss_asg (se_callB xc_divmod (by unfold Gl; kernel_rfl) T.b_divmod boo_divmod (sa_cons (se_ix xi_ix (se_var 0 (by kernel_rfl) (Or.inl (by kernel_rfl))) se_int) (sa_cons (se_var 1 (by kernel_rfl) (Or.inl (by kernel_rfl))) sa_nil))) (sg_tup rfl (sgs_cons (sg_name sc__law_take.nd (by kernel_rfl) (Or.inl (by kernel_rfl))) (sgs_cons (sg_name sc__law_take.nd (by kernel_rfl) (Or.inl (by kernel_rfl))) sgs_nil)))) (ss_cons (ss_put xs_put (se_var 2 (by kernel_rfl) (Or.inl (by kernel_rfl))) (se_var 0 (by kernel_rfl) (Or.inl (by kernel_rfl))) se_int) (ss_one (ss_ret (se_var 3 (by kernel_rfl) (Or.inl (by kernel_rfl)))))))
theorem sc__law_row:FnScope ["box","most","many","kind","base","found","k","given","some"] ["box","most"] (defScope st__law_row):=⟨by kernel_rfl,by kernel_rfl,by kernel_rfl,by decide +kernel,rfl,by decide +kernel,by decide +kernel⟩
theorem ok__law_row {f:Addr} {fd:FuncData} (F:Fun K "_law_row" "_law_row" st__law_row f fd) (hm:mg "_law_row" = some (.ref f)) (hb:Binds K fd ["box","most"] []) (T:Txt K mg) (d__law_take:DefN P w K mg base "_law_take" 1 2 F__law_take):DefN P w K mg base "_law_row" 2 2 F__law_row:=
 def_ofN ["box","most","many","kind","base","found","k","given","some"] ["box","most"] 1 2 2 9 rfl rfl rfl F hm hb sc__law_row (m:=m__law_row) fun cdv A outer s H E hr=>(ss_cons (ss_set sc__law_row.nd (by kernel_rfl) (Or.inl (by kernel_rfl)) (se_fnN d__law_take (hr.mono (by decide)) (by unfold Gl; kernel_rfl) (sa_cons (se_var 0 (by kernel_rfl) (Or.inl (by kernel_rfl))) (sa_cons (se_op xo_add (se_var 1 (by kernel_rfl) (Or.inl (by kernel_rfl))) se_int) sa_nil)) (alen_cons (alen_cons alen_nil)))) (ss_cons (ss_set sc__law_row.nd (by kernel_rfl) (Or.inl (by kernel_rfl)) (se_fnN d__law_take (hr.mono (by decide)) (by unfold Gl; kernel_rfl) (sa_cons (se_var 0 (by kernel_rfl) (Or.inl (by kernel_rfl))) (sa_cons se_int sa_nil)) (alen_cons (alen_cons alen_nil)))) (ss_cons (ss_set sc__law_row.nd (by kernel_rfl) (Or.inl (by kernel_rfl)) (se_op xo_add se_int (se_fnN d__law_take (hr.mono (by decide)) (by unfold Gl; kernel_rfl) (sa_cons (se_var 0 (by kernel_rfl) (Or.inl (by kernel_rfl))) (sa_cons se_int sa_nil)) (alen_cons (alen_cons alen_nil))))) (ss_cons (ss_set sc__law_row.nd (by kernel_rfl) (Or.inl (by kernel_rfl)) (se_new sa_nil)) (ss_cons (ss_for PassesOwn.never rfl (si_range1 (by unfold Gl; kernel_rfl) T.b_range (sa_cons (se_var 2 (by kernel_rfl) (Or.inl (by kernel_rfl))) sa_nil)) (sg_name sc__law_row.nd (by kernel_rfl) (Or.inl (by kernel_rfl))) (ss_cons (ss_set sc__law_row.nd (by kernel_rfl) (Or.inl (by kernel_rfl)) (se_op xo_add se_int (se_fnN d__law_take (hr.mono (by decide)) (by unfold Gl; kernel_rfl) (sa_cons (se_var 0 (by kernel_rfl) (Or.inl (by kernel_rfl))) (sa_cons se_int sa_nil)) (alen_cons (alen_cons alen_nil))))) (ss_cons (ss_set sc__law_row.nd (by kernel_rfl) (Or.inl (by kernel_rfl)) (se_lst (sa_cons (se_var 7 (by kernel_rfl) (Or.inl (by kernel_rfl))) (sa_cons (se_var 7 (by kernel_rfl) (Or.inl (by kernel_rfl))) (sa_cons (se_var 4 (by kernel_rfl) (Or.inl (by kernel_rfl))) (sa_cons (se_op xo_shl se_int (se_var 6 (by kernel_rfl) (Or.inl (by kernel_rfl)))) (sa_cons (se_op xo_add (se_var 4 (by kernel_rfl) (Or.inl (by kernel_rfl))) (se_op xo_mul (se_var 6 (by kernel_rfl) (Or.inl (by kernel_rfl))) (se_var 7 (by kernel_rfl) (Or.inl (by kernel_rfl))))) (sa_cons (se_op xo_mul (se_var 7 (by kernel_rfl) (Or.inl (by kernel_rfl))) (se_var 7 (by kernel_rfl) (Or.inl (by kernel_rfl)))) (sa_cons (se_op xo_add (se_op xo_mul (se_op xo_pow se_int se_int) (se_var 7 (by kernel_rfl) (Or.inl (by kernel_rfl)))) (se_var 7 (by kernel_rfl) (Or.inl (by kernel_rfl)))) sa_nil))))))))) (ss_one (ss_expr (se_mtL PySem.F.plainAttrs_list PySem.F.slot_list_append PySem.F.type_list_append xm_append (se_var 5 (by kernel_rfl) (Or.inl (by kernel_rfl))) (sa_cons (se_ix xi_ix (se_lst (sa_cons (se_ix xi_ix (se_var 8 (by kernel_rfl) (Or.inl (by kernel_rfl))) (se_var 3 (by kernel_rfl) (Or.inl (by kernel_rfl)))) (sa_cons (se_op xo_mul (se_var 4 (by kernel_rfl) (Or.inl (by kernel_rfl))) (se_var 7 (by kernel_rfl) (Or.inl (by kernel_rfl)))) sa_nil))) (se_callTy xc_int (by unfold Gl; kernel_rfl) T.b_int boo_int (sa_cons (se_cmp (xo_eqP hr) (se_fnN d__law_take (hr.mono (by decide)) (by unfold Gl; kernel_rfl) (sa_cons (se_var 0 (by kernel_rfl) (Or.inl (by kernel_rfl))) (sa_cons se_int sa_nil)) (alen_cons (alen_cons alen_nil))) se_int) sa_nil))) sa_nil))))))) (ss_one (ss_ret (se_callTy xc_tuple (by unfold Gl; kernel_rfl) T.b_tuple boo_tuple (sa_cons (se_var 5 (by kernel_rfl) (Or.inl (by kernel_rfl))) sa_nil)))))))))
theorem sc_is_whole:FnScope ["thing"] ["thing"] (defScope st_is_whole):=⟨by kernel_rfl,by kernel_rfl,by kernel_rfl,by decide +kernel,rfl,by decide +kernel,by decide +kernel⟩
theorem ok_is_whole {f:Addr} {fd:FuncData} (F:Fun K "is_whole" "is_whole" st_is_whole f fd) (hm:mg "is_whole" = some (.ref f)) (hb:Binds K fd ["thing"] []) (T:Txt K mg) :DefN P w K mg base "is_whole" 1 1 F_is_whole:=
 def_ofN ["thing"] ["thing"] 0 1 1 1 rfl rfl rfl F hm hb sc_is_whole (m:=m_is_whole) fun cdv A outer s H E hr=>(ss_one (ss_ret (se_and (se_callB xc_isi (by unfold Gl; kernel_rfl) T.b_isinstance boo_isinstance (sa_cons (se_var 0 (by kernel_rfl) (Or.inl (by kernel_rfl))) (sa_cons (se_ty (by unfold Gl; kernel_rfl) T.b_int boo_int) sa_nil))) (se_one (se_not (se_callB xc_isi (by unfold Gl; kernel_rfl) T.b_isinstance boo_isinstance (sa_cons (se_var 0 (by kernel_rfl) (Or.inl (by kernel_rfl))) (sa_cons (se_ty (by unfold Gl; kernel_rfl) T.b_bool boo_bool) sa_nil))))))))
theorem sc_is_row:FnScope ["thing"] ["thing"] (defScope st_is_row):=⟨by kernel_rfl,by kernel_rfl,by kernel_rfl,by decide +kernel,rfl,by decide +kernel,by decide +kernel⟩
theorem ok_is_row {f:Addr} {fd:FuncData} (F:Fun K "is_row" "is_row" st_is_row f fd) (hm:mg "is_row" = some (.ref f)) (hb:Binds K fd ["thing"] []) (T:Txt K mg) (d_is_whole:DefN P w K mg base "is_whole" 1 1 F_is_whole):DefN P w K mg base "is_row" 2 1 F_is_row:=
 def_ofN ["thing"] ["thing"] 1 2 1 1 rfl rfl rfl F hm hb sc_is_row (m:=m_is_row) fun cdv A outer s H E hr=>(ss_cons (ss_if (sw_st (sw_or (st_not (st_val (se_callB xc_isi (by unfold Gl; kernel_rfl) T.b_isinstance boo_isinstance (sa_cons (se_var 0 (by kernel_rfl) (Or.inl (by kernel_rfl))) (sa_cons (se_ty (by unfold Gl; kernel_rfl) T.b_tuple boo_tuple) sa_nil))))) (sw_or1 (st_cmp xo_gt (se_callB xc_len (by unfold Gl; kernel_rfl) T.b_len boo_len (sa_cons (se_var 0 (by kernel_rfl) (Or.inl (by kernel_rfl))) sa_nil)) (se_gi T.c_LONGEST_ROW (by unfold Gl; kernel_rfl)))))) (ss_one (ss_ret se_bl)) ss_nil) (ss_one (ss_ret (se_callB (xc_all rfl) (by unfold Gl; kernel_rfl) T.b_all boo_all (sa_cons (se_comp (N:=["number"]) (k:=1) (caps:=[]) rfl (fun _ _ z=>z) (cs_mk (by kernel_rfl) (by kernel_rfl) (by kernel_rfl) (by kernel_rfl) rfl (by kernel_rfl)) (si_seq (se_var 0 (by kernel_rfl) (Or.inl (by kernel_rfl)))) (fun _ _ _ _=>(sg_name (show (["number"]:List Str).Nodup by decide +kernel) (by kernel_rfl) (Or.inl (by kernel_rfl)))) (fun _ _ _ _=>sif_nil) (fun _ _ _ _=>(se_and (se_fnN d_is_whole (hr.mono (by decide)) (by unfold Gl; kernel_rfl) (sa_cons (se_var 0 (by kernel_rfl) (Or.inl (by kernel_rfl))) sa_nil) (alen_cons alen_nil)) (se_one (se_cmp xo_ge (se_var 0 (by kernel_rfl) (Or.inl (by kernel_rfl))) se_int))))) sa_nil)))))
theorem sc_need_row:FnScope ["thing"] ["thing"] (defScope st_need_row):=⟨by kernel_rfl,by kernel_rfl,by kernel_rfl,by decide +kernel,rfl,by decide +kernel,by decide +kernel⟩
theorem ok_need_row {f:Addr} {fd:FuncData} (F:Fun K "need_row" "need_row" st_need_row f fd) (hm:mg "need_row" = some (.ref f)) (hb:Binds K fd ["thing"] []) (T:Txt K mg) (d_is_row:DefN P w K mg base "is_row" 2 1 F_is_row):DefR P w K mg base "need_row" 3 1 F_need_row:=
 def_ofR ["thing"] ["thing"] 2 3 1 1 rfl rfl rfl F hm hb sc_need_row (m:=m_need_row) fun cdv A outer s H E hr=>(ss_one (ss_if (st_nx (st_not (st_val (se_fnN d_is_row (hr.mono (by decide)) (by unfold Gl; kernel_rfl) (sa_cons (se_var 0 (by kernel_rfl) (Or.inl (by kernel_rfl))) sa_nil) (alen_cons alen_nil))))) (ss_one (ss_raise T.x_NoRow raises_cx hr.hd (by unfold Gl; kernel_rfl) (sa_cons se_str sa_nil))) ss_nil))
theorem sc_are_parts:FnScope ["thing","row"] ["thing","row"] (defScope st_are_parts):=⟨by kernel_rfl,by kernel_rfl,by kernel_rfl,by decide +kernel,rfl,by decide +kernel,by decide +kernel⟩
theorem ok_are_parts {f:Addr} {fd:FuncData} (F:Fun K "are_parts" "are_parts" st_are_parts f fd) (hm:mg "are_parts" = some (.ref f)) (hb:Binds K fd ["thing","row"] []) (T:Txt K mg) (d_need_row:DefR P w K mg base "need_row" 3 1 F_need_row):DefR P w K mg base "are_parts" 4 2 F_are_parts:=
 def_ofR ["thing","row"] ["thing","row"] 3 4 2 2 rfl rfl rfl F hm hb sc_are_parts (m:=m_are_parts) fun cdv A outer s H E hr=>(ss_cons (ss_expr (se_fnR d_need_row passes_cx (hr.mono (by decide)) (by unfold Gl; kernel_rfl) (sa_cons (se_var 1 (by kernel_rfl) (Or.inl (by kernel_rfl))) sa_nil) (alen_cons alen_nil))) sss_bad)
theorem sc_are_signs:FnScope ["thing","row"] ["thing","row"] (defScope st_are_signs):=⟨by kernel_rfl,by kernel_rfl,by kernel_rfl,by decide +kernel,rfl,by decide +kernel,by decide +kernel⟩
theorem ok_are_signs {f:Addr} {fd:FuncData} (F:Fun K "are_signs" "are_signs" st_are_signs f fd) (hm:mg "are_signs" = some (.ref f)) (hb:Binds K fd ["thing","row"] []) (T:Txt K mg) (d_need_row:DefR P w K mg base "need_row" 3 1 F_need_row):DefR P w K mg base "are_signs" 4 2 F_are_signs:=
 def_ofR ["thing","row"] ["thing","row"] 3 4 2 2 rfl rfl rfl F hm hb sc_are_signs (m:=m_are_signs) fun cdv A outer s H E hr=>(ss_cons (ss_expr (se_fnR d_need_row passes_cx (hr.mono (by decide)) (by unfold Gl; kernel_rfl) (sa_cons (se_var 1 (by kernel_rfl) (Or.inl (by kernel_rfl))) sa_nil) (alen_cons alen_nil))) sss_bad)
theorem sc_need_parts:FnScope ["row","thing"] ["row","thing"] (defScope st_need_parts):=⟨by kernel_rfl,by kernel_rfl,by kernel_rfl,by decide +kernel,rfl,by decide +kernel,by decide +kernel⟩
theorem ok_need_parts {f:Addr} {fd:FuncData} (F:Fun K "need_parts" "need_parts" st_need_parts f fd) (hm:mg "need_parts" = some (.ref f)) (hb:Binds K fd ["row","thing"] []) (T:Txt K mg) (d_are_parts:DefR P w K mg base "are_parts" 4 2 F_are_parts):DefR P w K mg base "need_parts" 5 2 F_need_parts:=
 def_ofR ["row","thing"] ["row","thing"] 4 5 2 2 rfl rfl rfl F hm hb sc_need_parts (m:=m_need_parts) fun cdv A outer s H E hr=>(ss_one (ss_if (st_not (st_val (se_fnR d_are_parts passes_cx (hr.mono (by decide)) (by unfold Gl; kernel_rfl) (sa_cons (se_var 1 (by kernel_rfl) (Or.inl (by kernel_rfl))) (sa_cons (se_var 0 (by kernel_rfl) (Or.inl (by kernel_rfl))) sa_nil)) (alen_cons (alen_cons alen_nil))))) (ss_one (ss_raise T.x_NoSigns raises_cx hr.hd (by unfold Gl; kernel_rfl) (sa_cons se_str sa_nil))) ss_nil))
theorem sc_kept:FnScope ["row","parts","numbers","signs"] ["row","parts"] (defScope st_kept):=⟨by kernel_rfl,by kernel_rfl,by kernel_rfl,by decide +kernel,rfl,by decide +kernel,by decide +kernel⟩
theorem ok_kept {f:Addr} {fd:FuncData} (F:Fun K "kept" "kept" st_kept f fd) (hm:mg "kept" = some (.ref f)) (hb:Binds K fd ["row","parts"] []) (T:Txt K mg) (d_need_parts:DefR P w K mg base "need_parts" 5 2 F_need_parts):DefR P w K mg base "kept" 6 2 F_kept:=
 def_ofR ["row","parts","numbers","signs"] ["row","parts"] 5 6 2 4 rfl rfl rfl F hm hb sc_kept (m:=m_kept) fun cdv A outer s H E hr=>(ss_cons (ss_expr (se_fnR d_need_parts passes_cx (hr.mono (by decide)) (by unfold Gl; kernel_rfl) (sa_cons (se_var 0 (by kernel_rfl) (Or.inl (by kernel_rfl))) (sa_cons (se_var 1 (by kernel_rfl) (Or.inl (by kernel_rfl))) sa_nil)) (alen_cons (alen_cons alen_nil)))) sss_bad)
theorem sc_lots:FnScope ["row","parts"] ["row","parts"] (defScope st_lots):=⟨by kernel_rfl,by kernel_rfl,by kernel_rfl,by decide +kernel,rfl,by decide +kernel,by decide +kernel⟩
theorem ok_lots {f:Addr} {fd:FuncData} (F:Fun K "lots" "lots" st_lots f fd) (hm:mg "lots" = some (.ref f)) (hb:Binds K fd ["row","parts"] []) (T:Txt K mg) (d_need_parts:DefR P w K mg base "need_parts" 5 2 F_need_parts):DefR P w K mg base "lots" 6 2 F_lots:=
 def_ofR ["row","parts"] ["row","parts"] 5 6 2 2 rfl rfl rfl F hm hb sc_lots (m:=m_lots) fun cdv A outer s H E hr=>(ss_cons (ss_expr (se_fnR d_need_parts passes_cx (hr.mono (by decide)) (by unfold Gl; kernel_rfl) (sa_cons (se_var 0 (by kernel_rfl) (Or.inl (by kernel_rfl))) (sa_cons (se_var 1 (by kernel_rfl) (Or.inl (by kernel_rfl))) sa_nil)) (alen_cons (alen_cons alen_nil)))) sss_bad)
theorem sc_show:FnScope ["row","parts"] ["row","parts"] (defScope st_show):=⟨by kernel_rfl,by kernel_rfl,by kernel_rfl,by decide +kernel,rfl,by decide +kernel,by decide +kernel⟩
theorem ok_show {f:Addr} {fd:FuncData} (F:Fun K "show" "show" st_show f fd) (hm:mg "show" = some (.ref f)) (hb:Binds K fd ["row","parts"] []) (T:Txt K mg) (d_need_parts:DefR P w K mg base "need_parts" 5 2 F_need_parts):DefR P w K mg base "show" 6 2 F_show:=
 def_ofR ["row","parts"] ["row","parts"] 5 6 2 2 rfl rfl rfl F hm hb sc_show (m:=m_show) fun cdv A outer s H E hr=>(ss_cons (ss_expr (se_fnR d_need_parts passes_cx (hr.mono (by decide)) (by unfold Gl; kernel_rfl) (sa_cons (se_var 0 (by kernel_rfl) (Or.inl (by kernel_rfl))) (sa_cons (se_var 1 (by kernel_rfl) (Or.inl (by kernel_rfl))) sa_nil)) (alen_cons (alen_cons alen_nil)))) sss_bad)
theorem sc_need_few:FnScope ["row"] ["row"] (defScope st_need_few):=⟨by kernel_rfl,by kernel_rfl,by kernel_rfl,by decide +kernel,rfl,by decide +kernel,by decide +kernel⟩
theorem ok_need_few {f:Addr} {fd:FuncData} (F:Fun K "need_few" "need_few" st_need_few f fd) (hm:mg "need_few" = some (.ref f)) (hb:Binds K fd ["row"] []) (T:Txt K mg) (d_need_row:DefR P w K mg base "need_row" 3 1 F_need_row):DefR P w K mg base "need_few" 4 1 F_need_few:=
 def_ofR ["row"] ["row"] 3 4 1 1 rfl rfl rfl F hm hb sc_need_few (m:=m_need_few) fun cdv A outer s H E hr=>(ss_cons (ss_expr (se_fnR d_need_row passes_cx (hr.mono (by decide)) (by unfold Gl; kernel_rfl) (sa_cons (se_var 0 (by kernel_rfl) (Or.inl (by kernel_rfl))) sa_nil) (alen_cons alen_nil))) sss_bad)
theorem sc_sign_table:FnScope ["row"] ["row"] (defScope st_sign_table):=⟨by kernel_rfl,by kernel_rfl,by kernel_rfl,by decide +kernel,rfl,by decide +kernel,by decide +kernel⟩
theorem ok_sign_table {f:Addr} {fd:FuncData} (F:Fun K "sign_table" "sign_table" st_sign_table f fd) (hm:mg "sign_table" = some (.ref f)) (hb:Binds K fd ["row"] []) (T:Txt K mg) (d_need_few:DefR P w K mg base "need_few" 4 1 F_need_few):DefR P w K mg base "sign_table" 5 1 F_sign_table:=
 def_ofR ["row"] ["row"] 4 5 1 1 rfl rfl rfl F hm hb sc_sign_table (m:=m_sign_table) fun cdv A outer s H E hr=>(ss_cons (ss_expr (se_fnR d_need_few passes_cx (hr.mono (by decide)) (by unfold Gl; kernel_rfl) (sa_cons (se_var 0 (by kernel_rfl) (Or.inl (by kernel_rfl))) sa_nil) (alen_cons alen_nil))) sss_bad)
theorem sc_total:FnScope ["row"] ["row"] (defScope st_total):=⟨by kernel_rfl,by kernel_rfl,by kernel_rfl,by decide +kernel,rfl,by decide +kernel,by decide +kernel⟩
theorem ok_total {f:Addr} {fd:FuncData} (F:Fun K "total" "total" st_total f fd) (hm:mg "total" = some (.ref f)) (hb:Binds K fd ["row"] []) (T:Txt K mg) (d_need_row:DefR P w K mg base "need_row" 3 1 F_need_row):DefR P w K mg base "total" 4 1 F_total:=
 def_ofR ["row"] ["row"] 3 4 1 1 rfl rfl rfl F hm hb sc_total (m:=m_total) fun cdv A outer s H E hr=>(ss_cons (ss_expr (se_fnR d_need_row passes_cx (hr.mono (by decide)) (by unfold Gl; kernel_rfl) (sa_cons (se_var 0 (by kernel_rfl) (Or.inl (by kernel_rfl))) sa_nil) (alen_cons alen_nil))) sss_bad)
theorem sc_turned:FnScope ["row","parts"] ["row","parts"] (defScope st_turned):=⟨by kernel_rfl,by kernel_rfl,by kernel_rfl,by decide +kernel,rfl,by decide +kernel,by decide +kernel⟩
theorem ok_turned {f:Addr} {fd:FuncData} (F:Fun K "turned" "turned" st_turned f fd) (hm:mg "turned" = some (.ref f)) (hb:Binds K fd ["row","parts"] []) (T:Txt K mg) (d_need_parts:DefR P w K mg base "need_parts" 5 2 F_need_parts):DefR P w K mg base "turned" 6 2 F_turned:=
 def_ofR ["row","parts"] ["row","parts"] 5 6 2 2 rfl rfl rfl F hm hb sc_turned (m:=m_turned) fun cdv A outer s H E hr=>(ss_cons (ss_expr (se_fnR d_need_parts passes_cx (hr.mono (by decide)) (by unfold Gl; kernel_rfl) (sa_cons (se_var 0 (by kernel_rfl) (Or.inl (by kernel_rfl))) (sa_cons (se_var 1 (by kernel_rfl) (Or.inl (by kernel_rfl))) sa_nil)) (alen_cons (alen_cons alen_nil)))) sss_bad)
theorem sc_worth:FnScope ["row","parts"] ["row","parts"] (defScope st_worth):=⟨by kernel_rfl,by kernel_rfl,by kernel_rfl,by decide +kernel,rfl,by decide +kernel,by decide +kernel⟩
theorem ok_worth {f:Addr} {fd:FuncData} (F:Fun K "worth" "worth" st_worth f fd) (hm:mg "worth" = some (.ref f)) (hb:Binds K fd ["row","parts"] []) (T:Txt K mg) (d_need_parts:DefR P w K mg base "need_parts" 5 2 F_need_parts):DefR P w K mg base "worth" 6 2 F_worth:=
 def_ofR ["row","parts"] ["row","parts"] 5 6 2 2 rfl rfl rfl F hm hb sc_worth (m:=m_worth) fun cdv A outer s H E hr=>(ss_cons (ss_expr (se_fnR d_need_parts passes_cx (hr.mono (by decide)) (by unfold Gl; kernel_rfl) (sa_cons (se_var 0 (by kernel_rfl) (Or.inl (by kernel_rfl))) (sa_cons (se_var 1 (by kernel_rfl) (Or.inl (by kernel_rfl))) sa_nil)) (alen_cons (alen_cons alen_nil)))) sss_bad)
theorem sc__law_first:FnScope ["kind","row"] ["kind","row"] (defScope st__law_first):=⟨by kernel_rfl,by kernel_rfl,by kernel_rfl,by decide +kernel,rfl,by decide +kernel,by decide +kernel⟩
theorem ok__law_first {f:Addr} {fd:FuncData} (F:Fun K "_law_first" "_law_first" st__law_first f fd) (hm:mg "_law_first" = some (.ref f)) (hb:Binds K fd ["kind","row"] []) (T:Txt K mg) (d_are_parts:DefR P w K mg base "are_parts" 4 2 F_are_parts) (d_are_signs:DefR P w K mg base "are_signs" 4 2 F_are_signs) (d_kept:DefR P w K mg base "kept" 6 2 F_kept) (d_lots:DefR P w K mg base "lots" 6 2 F_lots) (d_show:DefR P w K mg base "show" 6 2 F_show) (d_sign_table:DefR P w K mg base "sign_table" 5 1 F_sign_table) (d_total:DefR P w K mg base "total" 4 1 F_total) (d_turned:DefR P w K mg base "turned" 6 2 F_turned) (d_worth:DefR P w K mg base "worth" 6 2 F_worth):DefR P w K mg base "_law_first" 7 2 F__law_first:=
 def_ofR ["kind","row"] ["kind","row"] 6 7 2 2 rfl rfl rfl F hm hb sc__law_first (m:=m__law_first) fun cdv A outer s H E hr=>(ss_one (ss_if (st_nx (st_cmp (xo_eqP hr) (se_var 0 (by kernel_rfl) (Or.inl (by kernel_rfl))) se_int)) (ss_one (ss_expr (se_fnR d_are_parts passes_cx (hr.mono (by decide)) (by unfold Gl; kernel_rfl) (sa_cons se_non (sa_cons (se_var 1 (by kernel_rfl) (Or.inl (by kernel_rfl))) sa_nil)) (alen_cons (alen_cons alen_nil))))) (ss_one (ss_if (st_nx (st_cmp (xo_eqP hr) (se_var 0 (by kernel_rfl) (Or.inl (by kernel_rfl))) se_int)) (ss_one (ss_expr (se_fnR d_are_signs passes_cx (hr.mono (by decide)) (by unfold Gl; kernel_rfl) (sa_cons se_non (sa_cons (se_var 1 (by kernel_rfl) (Or.inl (by kernel_rfl))) sa_nil)) (alen_cons (alen_cons alen_nil))))) (ss_one (ss_if (st_nx (st_cmp (xo_eqP hr) (se_var 0 (by kernel_rfl) (Or.inl (by kernel_rfl))) se_int)) (ss_one (ss_expr (se_fnR d_total passes_cx (hr.mono (by decide)) (by unfold Gl; kernel_rfl) (sa_cons (se_var 1 (by kernel_rfl) (Or.inl (by kernel_rfl))) sa_nil) (alen_cons alen_nil)))) (ss_one (ss_if (st_nx (st_cmp (xo_eqP hr) (se_var 0 (by kernel_rfl) (Or.inl (by kernel_rfl))) se_int)) (ss_one (ss_expr (se_fnR d_worth passes_cx (hr.mono (by decide)) (by unfold Gl; kernel_rfl) (sa_cons (se_var 1 (by kernel_rfl) (Or.inl (by kernel_rfl))) (sa_cons se_non sa_nil)) (alen_cons (alen_cons alen_nil))))) (ss_one (ss_if (st_nx (st_cmp (xo_eqP hr) (se_var 0 (by kernel_rfl) (Or.inl (by kernel_rfl))) se_int)) (ss_one (ss_expr (se_fnR d_turned passes_cx (hr.mono (by decide)) (by unfold Gl; kernel_rfl) (sa_cons (se_var 1 (by kernel_rfl) (Or.inl (by kernel_rfl))) (sa_cons se_non sa_nil)) (alen_cons (alen_cons alen_nil))))) (ss_one (ss_if (st_nx (st_cmp (xo_eqP hr) (se_var 0 (by kernel_rfl) (Or.inl (by kernel_rfl))) se_int)) (ss_one (ss_expr (se_fnR d_lots passes_cx (hr.mono (by decide)) (by unfold Gl; kernel_rfl) (sa_cons (se_var 1 (by kernel_rfl) (Or.inl (by kernel_rfl))) (sa_cons se_non sa_nil)) (alen_cons (alen_cons alen_nil))))) (ss_one (ss_if (st_nx (st_cmp (xo_eqP hr) (se_var 0 (by kernel_rfl) (Or.inl (by kernel_rfl))) se_int)) (ss_one (ss_expr (se_fnR d_kept passes_cx (hr.mono (by decide)) (by unfold Gl; kernel_rfl) (sa_cons (se_var 1 (by kernel_rfl) (Or.inl (by kernel_rfl))) (sa_cons se_non sa_nil)) (alen_cons (alen_cons alen_nil))))) (ss_one (ss_if (st_nx (st_cmp (xo_eqP hr) (se_var 0 (by kernel_rfl) (Or.inl (by kernel_rfl))) se_int)) (ss_one (ss_expr (se_fnR d_show passes_cx (hr.mono (by decide)) (by unfold Gl; kernel_rfl) (sa_cons (se_var 1 (by kernel_rfl) (Or.inl (by kernel_rfl))) (sa_cons se_non sa_nil)) (alen_cons (alen_cons alen_nil))))) (ss_one (ss_expr (se_fnR d_sign_table passes_cx (hr.mono (by decide)) (by unfold Gl; kernel_rfl) (sa_cons (se_var 1 (by kernel_rfl) (Or.inl (by kernel_rfl))) sa_nil) (alen_cons alen_nil))))))))))))))))))))
theorem sc_difference_signs:FnScope ["row","last"] ["row"] (defScope st_difference_signs):=⟨by kernel_rfl,by kernel_rfl,by kernel_rfl,by decide +kernel,rfl,by decide +kernel,by decide +kernel⟩
theorem ok_difference_signs {f:Addr} {fd:FuncData} (F:Fun K "difference_signs" "difference_signs" st_difference_signs f fd) (hm:mg "difference_signs" = some (.ref f)) (hb:Binds K fd ["row"] []) (T:Txt K mg) (d_need_row:DefR P w K mg base "need_row" 3 1 F_need_row):DefR P w K mg base "difference_signs" 4 1 F_difference_signs:=
 def_ofR ["row","last"] ["row"] 3 4 1 2 rfl rfl rfl F hm hb sc_difference_signs (m:=m_difference_signs) fun cdv A outer s H E hr=>(ss_cons (ss_expr (se_fnR d_need_row passes_cx (hr.mono (by decide)) (by unfold Gl; kernel_rfl) (sa_cons (se_var 0 (by kernel_rfl) (Or.inl (by kernel_rfl))) sa_nil) (alen_cons alen_nil))) sss_bad)
theorem sc_differences:FnScope ["row"] ["row"] (defScope st_differences):=⟨by kernel_rfl,by kernel_rfl,by kernel_rfl,by decide +kernel,rfl,by decide +kernel,by decide +kernel⟩
theorem ok_differences {f:Addr} {fd:FuncData} (F:Fun K "differences" "differences" st_differences f fd) (hm:mg "differences" = some (.ref f)) (hb:Binds K fd ["row"] []) (T:Txt K mg) (d_need_row:DefR P w K mg base "need_row" 3 1 F_need_row):DefR P w K mg base "differences" 4 1 F_differences:=
 def_ofR ["row"] ["row"] 3 4 1 1 rfl rfl rfl F hm hb sc_differences (m:=m_differences) fun cdv A outer s H E hr=>(ss_cons (ss_expr (se_fnR d_need_row passes_cx (hr.mono (by decide)) (by unfold Gl; kernel_rfl) (sa_cons (se_var 0 (by kernel_rfl) (Or.inl (by kernel_rfl))) sa_nil) (alen_cons alen_nil))) sss_bad)
theorem sc_need_row_and_number:FnScope ["row","number"] ["row","number"] (defScope st_need_row_and_number):=⟨by kernel_rfl,by kernel_rfl,by kernel_rfl,by decide +kernel,rfl,by decide +kernel,by decide +kernel⟩
theorem ok_need_row_and_number {f:Addr} {fd:FuncData} (F:Fun K "need_row_and_number" "need_row_and_number" st_need_row_and_number f fd) (hm:mg "need_row_and_number" = some (.ref f)) (hb:Binds K fd ["row","number"] []) (T:Txt K mg) (d_need_row:DefR P w K mg base "need_row" 3 1 F_need_row):DefR P w K mg base "need_row_and_number" 4 2 F_need_row_and_number:=
 def_ofR ["row","number"] ["row","number"] 3 4 2 2 rfl rfl rfl F hm hb sc_need_row_and_number (m:=m_need_row_and_number) fun cdv A outer s H E hr=>(ss_cons (ss_expr (se_fnR d_need_row passes_cx (hr.mono (by decide)) (by unfold Gl; kernel_rfl) (sa_cons (se_var 0 (by kernel_rfl) (Or.inl (by kernel_rfl))) sa_nil) (alen_cons alen_nil))) sss_bad)
theorem sc_above:FnScope ["row","number"] ["row","number"] (defScope st_above):=⟨by kernel_rfl,by kernel_rfl,by kernel_rfl,by decide +kernel,rfl,by decide +kernel,by decide +kernel⟩
theorem ok_above {f:Addr} {fd:FuncData} (F:Fun K "above" "above" st_above f fd) (hm:mg "above" = some (.ref f)) (hb:Binds K fd ["row","number"] []) (T:Txt K mg) (d_need_row_and_number:DefR P w K mg base "need_row_and_number" 4 2 F_need_row_and_number):DefR P w K mg base "above" 5 2 F_above:=
 def_ofR ["row","number"] ["row","number"] 4 5 2 2 rfl rfl rfl F hm hb sc_above (m:=m_above) fun cdv A outer s H E hr=>(ss_cons (ss_expr (se_fnR d_need_row_and_number passes_cx (hr.mono (by decide)) (by unfold Gl; kernel_rfl) (sa_cons (se_var 0 (by kernel_rfl) (Or.inl (by kernel_rfl))) (sa_cons (se_var 1 (by kernel_rfl) (Or.inr (Or.inl (by kernel_rfl)))) sa_nil)) (alen_cons (alen_cons alen_nil)))) sss_bad)
theorem sc_unevenness:FnScope ["row"] ["row"] (defScope st_unevenness):=⟨by kernel_rfl,by kernel_rfl,by kernel_rfl,by decide +kernel,rfl,by decide +kernel,by decide +kernel⟩
theorem ok_unevenness {f:Addr} {fd:FuncData} (F:Fun K "unevenness" "unevenness" st_unevenness f fd) (hm:mg "unevenness" = some (.ref f)) (hb:Binds K fd ["row"] []) (T:Txt K mg) (d_above:DefR P w K mg base "above" 5 2 F_above):DefR P w K mg base "unevenness" 6 1 F_unevenness:=
 def_ofR ["row"] ["row"] 5 6 1 1 rfl rfl rfl F hm hb sc_unevenness (m:=m_unevenness) fun cdv A outer s H E hr=>(ss_one (ss_ret (se_fnR d_above passes_cx (hr.mono (by decide)) (by unfold Gl; kernel_rfl) (sa_cons (se_var 0 (by kernel_rfl) (Or.inl (by kernel_rfl))) (sa_cons se_int sa_nil)) (alen_cons (alen_cons alen_nil)))))
theorem sc_evenest:FnScope ["row","least"] ["row"] (defScope st_evenest):=⟨by kernel_rfl,by kernel_rfl,by kernel_rfl,by decide +kernel,rfl,by decide +kernel,by decide +kernel⟩
theorem ok_evenest {f:Addr} {fd:FuncData} (F:Fun K "evenest" "evenest" st_evenest f fd) (hm:mg "evenest" = some (.ref f)) (hb:Binds K fd ["row"] []) (T:Txt K mg) (d_unevenness:DefR P w K mg base "unevenness" 6 1 F_unevenness):DefR P w K mg base "evenest" 7 1 F_evenest:=
 def_ofR ["row","least"] ["row"] 6 7 1 2 rfl rfl rfl F hm hb sc_evenest (m:=m_evenest) fun cdv A outer s H E hr=>(ss_cons (ss_set sc_evenest.nd (by kernel_rfl) (Or.inl (by kernel_rfl)) (se_fnR d_unevenness passes_cx (hr.mono (by decide)) (by unfold Gl; kernel_rfl) (sa_cons (se_var 0 (by kernel_rfl) (Or.inl (by kernel_rfl))) sa_nil) (alen_cons alen_nil))) sss_bad)
theorem sc_evenest_many:FnScope ["row","least","met"] ["row"] (defScope st_evenest_many):=⟨by kernel_rfl,by kernel_rfl,by kernel_rfl,by decide +kernel,rfl,by decide +kernel,by decide +kernel⟩
theorem ok_evenest_many {f:Addr} {fd:FuncData} (F:Fun K "evenest_many" "evenest_many" st_evenest_many f fd) (hm:mg "evenest_many" = some (.ref f)) (hb:Binds K fd ["row"] []) (T:Txt K mg) (d_unevenness:DefR P w K mg base "unevenness" 6 1 F_unevenness):DefR P w K mg base "evenest_many" 7 1 F_evenest_many:=
 def_ofR ["row","least","met"] ["row"] 6 7 1 3 rfl rfl rfl F hm hb sc_evenest_many (m:=m_evenest_many) fun cdv A outer s H E hr=>(ss_cons (ss_set sc_evenest_many.nd (by kernel_rfl) (Or.inl (by kernel_rfl)) (se_fnR d_unevenness passes_cx (hr.mono (by decide)) (by unfold Gl; kernel_rfl) (sa_cons (se_var 0 (by kernel_rfl) (Or.inl (by kernel_rfl))) sa_nil) (alen_cons alen_nil))) sss_bad)
theorem sc_every_by_parts:FnScope ["row"] ["row"] (defScope st_every_by_parts):=⟨by kernel_rfl,by kernel_rfl,by kernel_rfl,by decide +kernel,rfl,by decide +kernel,by decide +kernel⟩
theorem ok_every_by_parts {f:Addr} {fd:FuncData} (F:Fun K "every_by_parts" "every_by_parts" st_every_by_parts f fd) (hm:mg "every_by_parts" = some (.ref f)) (hb:Binds K fd ["row"] []) (T:Txt K mg) (d_need_row:DefR P w K mg base "need_row" 3 1 F_need_row):DefR P w K mg base "every_by_parts" 4 1 F_every_by_parts:=
 def_ofR ["row"] ["row"] 3 4 1 1 rfl rfl rfl F hm hb sc_every_by_parts (m:=m_every_by_parts) fun cdv A outer s H E hr=>(ss_cons (ss_expr (se_fnR d_need_row passes_cx (hr.mono (by decide)) (by unfold Gl; kernel_rfl) (sa_cons (se_var 0 (by kernel_rfl) (Or.inl (by kernel_rfl))) sa_nil) (alen_cons alen_nil))) sss_bad)
theorem sc_every_by_signs:FnScope ["row"] ["row"] (defScope st_every_by_signs):=⟨by kernel_rfl,by kernel_rfl,by kernel_rfl,by decide +kernel,rfl,by decide +kernel,by decide +kernel⟩
theorem ok_every_by_signs {f:Addr} {fd:FuncData} (F:Fun K "every_by_signs" "every_by_signs" st_every_by_signs f fd) (hm:mg "every_by_signs" = some (.ref f)) (hb:Binds K fd ["row"] []) (T:Txt K mg) (d_need_row:DefR P w K mg base "need_row" 3 1 F_need_row):DefR P w K mg base "every_by_signs" 4 1 F_every_by_signs:=
 def_ofR ["row"] ["row"] 3 4 1 1 rfl rfl rfl F hm hb sc_every_by_signs (m:=m_every_by_signs) fun cdv A outer s H E hr=>(ss_cons (ss_expr (se_fnR d_need_row passes_cx (hr.mono (by decide)) (by unfold Gl; kernel_rfl) (sa_cons (se_var 0 (by kernel_rfl) (Or.inl (by kernel_rfl))) sa_nil) (alen_cons alen_nil))) sss_bad)
theorem sc_uneven_bound:FnScope ["thing","row"] ["thing","row"] (defScope st_uneven_bound):=⟨by kernel_rfl,by kernel_rfl,by kernel_rfl,by decide +kernel,rfl,by decide +kernel,by decide +kernel⟩
theorem ok_uneven_bound {f:Addr} {fd:FuncData} (F:Fun K "uneven_bound" "uneven_bound" st_uneven_bound f fd) (hm:mg "uneven_bound" = some (.ref f)) (hb:Binds K fd ["thing","row"] []) (T:Txt K mg) (d_need_few:DefR P w K mg base "need_few" 4 1 F_need_few):DefR P w K mg base "uneven_bound" 5 2 F_uneven_bound:=
 def_ofR ["thing","row"] ["thing","row"] 4 5 2 2 rfl rfl rfl F hm hb sc_uneven_bound (m:=m_uneven_bound) fun cdv A outer s H E hr=>(ss_cons (ss_expr (se_fnR d_need_few passes_cx (hr.mono (by decide)) (by unfold Gl; kernel_rfl) (sa_cons (se_var 1 (by kernel_rfl) (Or.inl (by kernel_rfl))) sa_nil) (alen_cons alen_nil))) sss_bad)
theorem sc_uneven_paper:FnScope ["row"] ["row"] (defScope st_uneven_paper):=⟨by kernel_rfl,by kernel_rfl,by kernel_rfl,by decide +kernel,rfl,by decide +kernel,by decide +kernel⟩
theorem ok_uneven_paper {f:Addr} {fd:FuncData} (F:Fun K "uneven_paper" "uneven_paper" st_uneven_paper f fd) (hm:mg "uneven_paper" = some (.ref f)) (hb:Binds K fd ["row"] []) (T:Txt K mg) (d_need_few:DefR P w K mg base "need_few" 4 1 F_need_few):DefR P w K mg base "uneven_paper" 5 1 F_uneven_paper:=
 def_ofR ["row"] ["row"] 4 5 1 1 rfl rfl rfl F hm hb sc_uneven_paper (m:=m_uneven_paper) fun cdv A outer s H E hr=>(ss_cons (ss_expr (se_fnR d_need_few passes_cx (hr.mono (by decide)) (by unfold Gl; kernel_rfl) (sa_cons (se_var 0 (by kernel_rfl) (Or.inl (by kernel_rfl))) sa_nil) (alen_cons alen_nil))) sss_bad)
theorem sc__law_fourth:FnScope ["kind","row"] ["kind","row"] (defScope st__law_fourth):=⟨by kernel_rfl,by kernel_rfl,by kernel_rfl,by decide +kernel,rfl,by decide +kernel,by decide +kernel⟩
theorem ok__law_fourth {f:Addr} {fd:FuncData} (F:Fun K "_law_fourth" "_law_fourth" st__law_fourth f fd) (hm:mg "_law_fourth" = some (.ref f)) (hb:Binds K fd ["kind","row"] []) (T:Txt K mg) (d_difference_signs:DefR P w K mg base "difference_signs" 4 1 F_difference_signs) (d_differences:DefR P w K mg base "differences" 4 1 F_differences) (d_evenest:DefR P w K mg base "evenest" 7 1 F_evenest) (d_evenest_many:DefR P w K mg base "evenest_many" 7 1 F_evenest_many) (d_every_by_parts:DefR P w K mg base "every_by_parts" 4 1 F_every_by_parts) (d_every_by_signs:DefR P w K mg base "every_by_signs" 4 1 F_every_by_signs) (d_uneven_bound:DefR P w K mg base "uneven_bound" 5 2 F_uneven_bound) (d_uneven_paper:DefR P w K mg base "uneven_paper" 5 1 F_uneven_paper) (d_unevenness:DefR P w K mg base "unevenness" 6 1 F_unevenness):DefR P w K mg base "_law_fourth" 8 2 F__law_fourth:=
 def_ofR ["kind","row"] ["kind","row"] 7 8 2 2 rfl rfl rfl F hm hb sc__law_fourth (m:=m__law_fourth) fun cdv A outer s H E hr=>(ss_one (ss_if (st_nx (st_cmp (xo_eqP hr) (se_var 0 (by kernel_rfl) (Or.inl (by kernel_rfl))) se_int)) (ss_one (ss_expr (se_fnR d_unevenness passes_cx (hr.mono (by decide)) (by unfold Gl; kernel_rfl) (sa_cons (se_var 1 (by kernel_rfl) (Or.inl (by kernel_rfl))) sa_nil) (alen_cons alen_nil)))) (ss_one (ss_if (st_nx (st_cmp (xo_eqP hr) (se_var 0 (by kernel_rfl) (Or.inl (by kernel_rfl))) se_int)) (ss_one (ss_expr (se_fnR d_evenest passes_cx (hr.mono (by decide)) (by unfold Gl; kernel_rfl) (sa_cons (se_var 1 (by kernel_rfl) (Or.inl (by kernel_rfl))) sa_nil) (alen_cons alen_nil)))) (ss_one (ss_if (st_nx (st_cmp (xo_eqP hr) (se_var 0 (by kernel_rfl) (Or.inl (by kernel_rfl))) se_int)) (ss_one (ss_expr (se_fnR d_evenest_many passes_cx (hr.mono (by decide)) (by unfold Gl; kernel_rfl) (sa_cons (se_var 1 (by kernel_rfl) (Or.inl (by kernel_rfl))) sa_nil) (alen_cons alen_nil)))) (ss_one (ss_if (st_nx (st_cmp (xo_eqP hr) (se_var 0 (by kernel_rfl) (Or.inl (by kernel_rfl))) se_int)) (ss_one (ss_expr (se_fnR d_differences passes_cx (hr.mono (by decide)) (by unfold Gl; kernel_rfl) (sa_cons (se_var 1 (by kernel_rfl) (Or.inl (by kernel_rfl))) sa_nil) (alen_cons alen_nil)))) (ss_one (ss_if (st_nx (st_cmp (xo_eqP hr) (se_var 0 (by kernel_rfl) (Or.inl (by kernel_rfl))) se_int)) (ss_one (ss_expr (se_fnR d_difference_signs passes_cx (hr.mono (by decide)) (by unfold Gl; kernel_rfl) (sa_cons (se_var 1 (by kernel_rfl) (Or.inl (by kernel_rfl))) sa_nil) (alen_cons alen_nil)))) (ss_one (ss_if (st_nx (st_cmp (xo_eqP hr) (se_var 0 (by kernel_rfl) (Or.inl (by kernel_rfl))) se_int)) (ss_one (ss_expr (se_fnR d_uneven_bound passes_cx (hr.mono (by decide)) (by unfold Gl; kernel_rfl) (sa_cons se_non (sa_cons (se_var 1 (by kernel_rfl) (Or.inl (by kernel_rfl))) sa_nil)) (alen_cons (alen_cons alen_nil))))) (ss_one (ss_if (st_nx (st_cmp (xo_eqP hr) (se_var 0 (by kernel_rfl) (Or.inl (by kernel_rfl))) se_int)) (ss_one (ss_expr (se_fnR d_uneven_paper passes_cx (hr.mono (by decide)) (by unfold Gl; kernel_rfl) (sa_cons (se_var 1 (by kernel_rfl) (Or.inl (by kernel_rfl))) sa_nil) (alen_cons alen_nil)))) (ss_one (ss_if (st_nx (st_cmp (xo_eqP hr) (se_var 0 (by kernel_rfl) (Or.inl (by kernel_rfl))) se_int)) (ss_one (ss_expr (se_fnR d_every_by_parts passes_cx (hr.mono (by decide)) (by unfold Gl; kernel_rfl) (sa_cons (se_var 1 (by kernel_rfl) (Or.inl (by kernel_rfl))) sa_nil) (alen_cons alen_nil)))) (ss_one (ss_expr (se_fnR d_every_by_signs passes_cx (hr.mono (by decide)) (by unfold Gl; kernel_rfl) (sa_cons (se_var 1 (by kernel_rfl) (Or.inl (by kernel_rfl))) sa_nil) (alen_cons alen_nil))))))))))))))))))))
theorem sc_missed_by_parts:FnScope ["row","ahead"] ["row"] (defScope st_missed_by_parts):=⟨by kernel_rfl,by kernel_rfl,by kernel_rfl,by decide +kernel,rfl,by decide +kernel,by decide +kernel⟩
theorem ok_missed_by_parts {f:Addr} {fd:FuncData} (F:Fun K "missed_by_parts" "missed_by_parts" st_missed_by_parts f fd) (hm:mg "missed_by_parts" = some (.ref f)) (hb:Binds K fd ["row"] []) (T:Txt K mg) (d_need_row:DefR P w K mg base "need_row" 3 1 F_need_row):DefR P w K mg base "missed_by_parts" 4 1 F_missed_by_parts:=
 def_ofR ["row","ahead"] ["row"] 3 4 1 2 rfl rfl rfl F hm hb sc_missed_by_parts (m:=m_missed_by_parts) fun cdv A outer s H E hr=>(ss_cons (ss_expr (se_fnR d_need_row passes_cx (hr.mono (by decide)) (by unfold Gl; kernel_rfl) (sa_cons (se_var 0 (by kernel_rfl) (Or.inl (by kernel_rfl))) sa_nil) (alen_cons alen_nil))) sss_bad)
theorem sc_missed_by_signs:FnScope ["row","ahead"] ["row"] (defScope st_missed_by_signs):=⟨by kernel_rfl,by kernel_rfl,by kernel_rfl,by decide +kernel,rfl,by decide +kernel,by decide +kernel⟩
theorem ok_missed_by_signs {f:Addr} {fd:FuncData} (F:Fun K "missed_by_signs" "missed_by_signs" st_missed_by_signs f fd) (hm:mg "missed_by_signs" = some (.ref f)) (hb:Binds K fd ["row"] []) (T:Txt K mg) (d_need_row:DefR P w K mg base "need_row" 3 1 F_need_row):DefR P w K mg base "missed_by_signs" 4 1 F_missed_by_signs:=
 def_ofR ["row","ahead"] ["row"] 3 4 1 2 rfl rfl rfl F hm hb sc_missed_by_signs (m:=m_missed_by_signs) fun cdv A outer s H E hr=>(ss_cons (ss_expr (se_fnR d_need_row passes_cx (hr.mono (by decide)) (by unfold Gl; kernel_rfl) (sa_cons (se_var 0 (by kernel_rfl) (Or.inl (by kernel_rfl))) sa_nil) (alen_cons alen_nil))) sss_bad)
theorem sc_weighed:FnScope ["row","number","parts","ahead","rest","place"] ["row","number"] (defScope st_weighed):=⟨by kernel_rfl,by kernel_rfl,by kernel_rfl,by decide +kernel,rfl,by decide +kernel,by decide +kernel⟩
theorem ok_weighed {f:Addr} {fd:FuncData} (F:Fun K "weighed" "weighed" st_weighed f fd) (hm:mg "weighed" = some (.ref f)) (hb:Binds K fd ["row","number"] []) (T:Txt K mg) (d_need_row_and_number:DefR P w K mg base "need_row_and_number" 4 2 F_need_row_and_number):DefR P w K mg base "weighed" 5 2 F_weighed:=
 def_ofR ["row","number","parts","ahead","rest","place"] ["row","number"] 4 5 2 6 rfl rfl rfl F hm hb sc_weighed (m:=m_weighed) fun cdv A outer s H E hr=>(ss_cons (ss_expr (se_fnR d_need_row_and_number passes_cx (hr.mono (by decide)) (by unfold Gl; kernel_rfl) (sa_cons (se_var 0 (by kernel_rfl) (Or.inr (Or.inl (by kernel_rfl)))) (sa_cons (se_var 1 (by kernel_rfl) (Or.inl (by kernel_rfl))) sa_nil)) (alen_cons (alen_cons alen_nil)))) sss_bad)
theorem sc__law_last:FnScope ["kind","row"] ["kind","row"] (defScope st__law_last):=⟨by kernel_rfl,by kernel_rfl,by kernel_rfl,by decide +kernel,rfl,by decide +kernel,by decide +kernel⟩
theorem ok__law_last {f:Addr} {fd:FuncData} (F:Fun K "_law_last" "_law_last" st__law_last f fd) (hm:mg "_law_last" = some (.ref f)) (hb:Binds K fd ["kind","row"] []) (T:Txt K mg) (d_missed_by_parts:DefR P w K mg base "missed_by_parts" 4 1 F_missed_by_parts) (d_missed_by_signs:DefR P w K mg base "missed_by_signs" 4 1 F_missed_by_signs) (d_weighed:DefR P w K mg base "weighed" 5 2 F_weighed):DefR P w K mg base "_law_last" 6 2 F__law_last:=
 def_ofR ["kind","row"] ["kind","row"] 5 6 2 2 rfl rfl rfl F hm hb sc__law_last (m:=m__law_last) fun cdv A outer s H E hr=>(ss_one (ss_if (st_nx (st_cmp (xo_eqP hr) (se_var 0 (by kernel_rfl) (Or.inl (by kernel_rfl))) se_int)) (ss_one (ss_expr (se_fnR d_missed_by_parts passes_cx (hr.mono (by decide)) (by unfold Gl; kernel_rfl) (sa_cons (se_var 1 (by kernel_rfl) (Or.inl (by kernel_rfl))) sa_nil) (alen_cons alen_nil)))) (ss_one (ss_if (st_nx (st_cmp (xo_eqP hr) (se_var 0 (by kernel_rfl) (Or.inl (by kernel_rfl))) se_int)) (ss_one (ss_expr (se_fnR d_missed_by_signs passes_cx (hr.mono (by decide)) (by unfold Gl; kernel_rfl) (sa_cons (se_var 1 (by kernel_rfl) (Or.inl (by kernel_rfl))) sa_nil) (alen_cons alen_nil)))) (ss_one (ss_expr (se_fnR d_weighed passes_cx (hr.mono (by decide)) (by unfold Gl; kernel_rfl) (sa_cons (se_var 1 (by kernel_rfl) (Or.inl (by kernel_rfl))) (sa_cons se_non sa_nil)) (alen_cons (alen_cons alen_nil)))))))))
theorem sc__law_marks:FnScope ["e","found"] ["e"] (defScope st__law_marks):=⟨by kernel_rfl,by kernel_rfl,by kernel_rfl,by decide +kernel,rfl,by decide +kernel,by decide +kernel⟩
theorem ok__law_marks {f:Addr} {fd:FuncData} (F:Fun K "_law_marks" "_law_marks" st__law_marks f fd) (hm:mg "_law_marks" = some (.ref f)) (hb:Binds K fd ["e"] []) (T:Txt K mg) :DefM P w K mg base "_law_marks" 1 1 F__law_marks:=
 def_ofM ["e","found"] ["e"] 0 1 1 2 rfl rfl rfl F hm hb sc__law_marks (m:=m__law_marks) fun cdv A outer s H hr hq=>(ss_cons (ss_if (sw_st (sw_or (st_not (st_val (se_callB (xc_isx T.cl) (by unfold Gl; kernel_rfl) T.b_isinstance boo_isinstance (sa_cons (se_var 0 (by kernel_rfl) (Or.inl (by kernel_rfl))) (sa_cons (se_cls T.v_PlusError (by unfold Gl; kernel_rfl)) sa_nil))))) (sw_or1 (st_not (st_val (se_callB (xc_isx T.cl) (by unfold Gl; kernel_rfl) T.b_isinstance boo_isinstance (sa_cons (se_var 0 (by kernel_rfl) (Or.inl (by kernel_rfl))) (sa_cons (se_ty (by unfold Gl; kernel_rfl) T.b_ValueError boo_ValueError) sa_nil)))))))) (ss_one (ss_ret se_str)) ss_nil) (ss_cons (ss_set sc__law_marks.nd (by kernel_rfl) (Or.inl (by kernel_rfl)) (se_lst (sa_cons (se_callB (xc_isx T.cl) (by unfold Gl; kernel_rfl) T.b_isinstance boo_isinstance (sa_cons (se_var 0 (by kernel_rfl) (Or.inl (by kernel_rfl))) (sa_cons (se_cls T.v_NoRow (by unfold Gl; kernel_rfl)) sa_nil))) (sa_cons (se_callB (xc_isx T.cl) (by unfold Gl; kernel_rfl) T.b_isinstance boo_isinstance (sa_cons (se_var 0 (by kernel_rfl) (Or.inl (by kernel_rfl))) (sa_cons (se_cls T.v_NoNumber (by unfold Gl; kernel_rfl)) sa_nil))) (sa_cons (se_callB (xc_isx T.cl) (by unfold Gl; kernel_rfl) T.b_isinstance boo_isinstance (sa_cons (se_var 0 (by kernel_rfl) (Or.inl (by kernel_rfl))) (sa_cons (se_cls T.v_NoSigns (by unfold Gl; kernel_rfl)) sa_nil))) (sa_cons (se_callB (xc_isx T.cl) (by unfold Gl; kernel_rfl) T.b_isinstance boo_isinstance (sa_cons (se_var 0 (by kernel_rfl) (Or.inl (by kernel_rfl))) (sa_cons (se_cls T.v_TooMany (by unfold Gl; kernel_rfl)) sa_nil))) sa_nil)))))) (ss_cons (ss_set sc__law_marks.nd (by kernel_rfl) (Or.inl (by kernel_rfl)) (se_op xo_add (se_var 1 (by kernel_rfl) (Or.inl (by kernel_rfl))) (se_lst (sa_cons (se_callB (xc_isx T.cl) (by unfold Gl; kernel_rfl) T.b_isinstance boo_isinstance (sa_cons (se_var 0 (by kernel_rfl) (Or.inl (by kernel_rfl))) (sa_cons (se_cls T.v_Lacking (by unfold Gl; kernel_rfl)) sa_nil))) (sa_cons (se_callB (xc_isx T.cl) (by unfold Gl; kernel_rfl) T.b_isinstance boo_isinstance (sa_cons (se_var 0 (by kernel_rfl) (Or.inl (by kernel_rfl))) (sa_cons (se_cls T.v_NoText (by unfold Gl; kernel_rfl)) sa_nil))) sa_nil))))) (ss_cons (ss_if (st_cmp xo_ne (se_mtL PySem.F.plainAttrs_list PySem.F.slot_list_count PySem.F.type_list_count xm_count (se_var 1 (by kernel_rfl) (Or.inl (by kernel_rfl))) (sa_cons se_bl sa_nil)) se_int) (ss_one (ss_ret se_str)) ss_nil) (ss_one (ss_ret (se_ix xi_ix (se_lst (sa_cons se_str (sa_cons se_str (sa_cons se_str (sa_cons se_str (sa_cons se_str (sa_cons se_str sa_nil))))))) (se_mtL PySem.F.plainAttrs_list PySem.F.slot_list_index PySem.F.type_list_index xm_index (se_var 1 (by kernel_rfl) (Or.inl (by kernel_rfl))) (sa_cons se_bl sa_nil)))))))))
theorem sc_need_few_and_number:FnScope ["row","number"] ["row","number"] (defScope st_need_few_and_number):=⟨by kernel_rfl,by kernel_rfl,by kernel_rfl,by decide +kernel,rfl,by decide +kernel,by decide +kernel⟩
theorem ok_need_few_and_number {f:Addr} {fd:FuncData} (F:Fun K "need_few_and_number" "need_few_and_number" st_need_few_and_number f fd) (hm:mg "need_few_and_number" = some (.ref f)) (hb:Binds K fd ["row","number"] []) (T:Txt K mg) (d_need_row_and_number:DefR P w K mg base "need_row_and_number" 4 2 F_need_row_and_number):DefR P w K mg base "need_few_and_number" 5 2 F_need_few_and_number:=
 def_ofR ["row","number"] ["row","number"] 4 5 2 2 rfl rfl rfl F hm hb sc_need_few_and_number (m:=m_need_few_and_number) fun cdv A outer s H E hr=>(ss_cons (ss_expr (se_fnR d_need_row_and_number passes_cx (hr.mono (by decide)) (by unfold Gl; kernel_rfl) (sa_cons (se_var 0 (by kernel_rfl) (Or.inl (by kernel_rfl))) (sa_cons (se_var 1 (by kernel_rfl) (Or.inl (by kernel_rfl))) sa_nil)) (alen_cons (alen_cons alen_nil)))) sss_bad)
theorem sc_is_barred:FnScope ["thing","row","number"] ["thing","row","number"] (defScope st_is_barred):=⟨by kernel_rfl,by kernel_rfl,by kernel_rfl,by decide +kernel,rfl,by decide +kernel,by decide +kernel⟩
theorem ok_is_barred {f:Addr} {fd:FuncData} (F:Fun K "is_barred" "is_barred" st_is_barred f fd) (hm:mg "is_barred" = some (.ref f)) (hb:Binds K fd ["thing","row","number"] []) (T:Txt K mg) (d_need_few_and_number:DefR P w K mg base "need_few_and_number" 5 2 F_need_few_and_number):DefR P w K mg base "is_barred" 6 3 F_is_barred:=
 def_ofR ["thing","row","number"] ["thing","row","number"] 5 6 3 3 rfl rfl rfl F hm hb sc_is_barred (m:=m_is_barred) fun cdv A outer s H E hr=>(ss_cons (ss_expr (se_fnR d_need_few_and_number passes_cx (hr.mono (by decide)) (by unfold Gl; kernel_rfl) (sa_cons (se_var 1 (by kernel_rfl) (Or.inl (by kernel_rfl))) (sa_cons (se_var 2 (by kernel_rfl) (Or.inl (by kernel_rfl))) sa_nil)) (alen_cons (alen_cons alen_nil)))) sss_bad)
theorem sc_is_wide_barred:FnScope ["thing","row","number"] ["thing","row","number"] (defScope st_is_wide_barred):=⟨by kernel_rfl,by kernel_rfl,by kernel_rfl,by decide +kernel,rfl,by decide +kernel,by decide +kernel⟩
theorem ok_is_wide_barred {f:Addr} {fd:FuncData} (F:Fun K "is_wide_barred" "is_wide_barred" st_is_wide_barred f fd) (hm:mg "is_wide_barred" = some (.ref f)) (hb:Binds K fd ["thing","row","number"] []) (T:Txt K mg) (d_need_few_and_number:DefR P w K mg base "need_few_and_number" 5 2 F_need_few_and_number):DefR P w K mg base "is_wide_barred" 6 3 F_is_wide_barred:=
 def_ofR ["thing","row","number"] ["thing","row","number"] 5 6 3 3 rfl rfl rfl F hm hb sc_is_wide_barred (m:=m_is_wide_barred) fun cdv A outer s H E hr=>(ss_cons (ss_expr (se_fnR d_need_few_and_number passes_cx (hr.mono (by decide)) (by unfold Gl; kernel_rfl) (sa_cons (se_var 1 (by kernel_rfl) (Or.inl (by kernel_rfl))) (sa_cons (se_var 2 (by kernel_rfl) (Or.inl (by kernel_rfl))) sa_nil)) (alen_cons (alen_cons alen_nil)))) sss_bad)
theorem sc_layers_for:FnScope ["row","number"] ["row","number"] (defScope st_layers_for):=⟨by kernel_rfl,by kernel_rfl,by kernel_rfl,by decide +kernel,rfl,by decide +kernel,by decide +kernel⟩
theorem ok_layers_for {f:Addr} {fd:FuncData} (F:Fun K "layers_for" "layers_for" st_layers_for f fd) (hm:mg "layers_for" = some (.ref f)) (hb:Binds K fd ["row","number"] []) (T:Txt K mg) (d_need_few_and_number:DefR P w K mg base "need_few_and_number" 5 2 F_need_few_and_number):DefR P w K mg base "layers_for" 6 2 F_layers_for:=
 def_ofR ["row","number"] ["row","number"] 5 6 2 2 rfl rfl rfl F hm hb sc_layers_for (m:=m_layers_for) fun cdv A outer s H E hr=>(ss_cons (ss_expr (se_fnR d_need_few_and_number passes_cx (hr.mono (by decide)) (by unfold Gl; kernel_rfl) (sa_cons (se_var 0 (by kernel_rfl) (Or.inl (by kernel_rfl))) (sa_cons (se_var 1 (by kernel_rfl) (Or.inl (by kernel_rfl))) sa_nil)) (alen_cons (alen_cons alen_nil)))) sss_bad)
theorem sc_part_table:FnScope ["row"] ["row"] (defScope st_part_table):=⟨by kernel_rfl,by kernel_rfl,by kernel_rfl,by decide +kernel,rfl,by decide +kernel,by decide +kernel⟩
theorem ok_part_table {f:Addr} {fd:FuncData} (F:Fun K "part_table" "part_table" st_part_table f fd) (hm:mg "part_table" = some (.ref f)) (hb:Binds K fd ["row"] []) (T:Txt K mg) (d_need_few:DefR P w K mg base "need_few" 4 1 F_need_few):DefR P w K mg base "part_table" 5 1 F_part_table:=
 def_ofR ["row"] ["row"] 4 5 1 1 rfl rfl rfl F hm hb sc_part_table (m:=m_part_table) fun cdv A outer s H E hr=>(ss_cons (ss_expr (se_fnR d_need_few passes_cx (hr.mono (by decide)) (by unfold Gl; kernel_rfl) (sa_cons (se_var 0 (by kernel_rfl) (Or.inl (by kernel_rfl))) sa_nil) (alen_cons alen_nil))) sss_bad)
theorem sc_part_ways:FnScope ["row","number"] ["row","number"] (defScope st_part_ways):=⟨by kernel_rfl,by kernel_rfl,by kernel_rfl,by decide +kernel,rfl,by decide +kernel,by decide +kernel⟩
theorem ok_part_ways {f:Addr} {fd:FuncData} (F:Fun K "part_ways" "part_ways" st_part_ways f fd) (hm:mg "part_ways" = some (.ref f)) (hb:Binds K fd ["row","number"] []) (T:Txt K mg) (d_need_few_and_number:DefR P w K mg base "need_few_and_number" 5 2 F_need_few_and_number):DefR P w K mg base "part_ways" 6 2 F_part_ways:=
 def_ofR ["row","number"] ["row","number"] 5 6 2 2 rfl rfl rfl F hm hb sc_part_ways (m:=m_part_ways) fun cdv A outer s H E hr=>(ss_cons (ss_expr (se_fnR d_need_few_and_number passes_cx (hr.mono (by decide)) (by unfold Gl; kernel_rfl) (sa_cons (se_var 0 (by kernel_rfl) (Or.inl (by kernel_rfl))) (sa_cons (se_var 1 (by kernel_rfl) (Or.inl (by kernel_rfl))) sa_nil)) (alen_cons (alen_cons alen_nil)))) sss_bad)
theorem sc_parts_to:FnScope ["row","number"] ["row","number"] (defScope st_parts_to):=⟨by kernel_rfl,by kernel_rfl,by kernel_rfl,by decide +kernel,rfl,by decide +kernel,by decide +kernel⟩
theorem ok_parts_to {f:Addr} {fd:FuncData} (F:Fun K "parts_to" "parts_to" st_parts_to f fd) (hm:mg "parts_to" = some (.ref f)) (hb:Binds K fd ["row","number"] []) (T:Txt K mg) (d_need_few_and_number:DefR P w K mg base "need_few_and_number" 5 2 F_need_few_and_number):DefR P w K mg base "parts_to" 6 2 F_parts_to:=
 def_ofR ["row","number"] ["row","number"] 5 6 2 2 rfl rfl rfl F hm hb sc_parts_to (m:=m_parts_to) fun cdv A outer s H E hr=>(ss_cons (ss_expr (se_fnR d_need_few_and_number passes_cx (hr.mono (by decide)) (by unfold Gl; kernel_rfl) (sa_cons (se_var 0 (by kernel_rfl) (Or.inl (by kernel_rfl))) (sa_cons (se_var 1 (by kernel_rfl) (Or.inl (by kernel_rfl))) sa_nil)) (alen_cons (alen_cons alen_nil)))) sss_bad)
theorem sc_sign_ways:FnScope ["row","number"] ["row","number"] (defScope st_sign_ways):=⟨by kernel_rfl,by kernel_rfl,by kernel_rfl,by decide +kernel,rfl,by decide +kernel,by decide +kernel⟩
theorem ok_sign_ways {f:Addr} {fd:FuncData} (F:Fun K "sign_ways" "sign_ways" st_sign_ways f fd) (hm:mg "sign_ways" = some (.ref f)) (hb:Binds K fd ["row","number"] []) (T:Txt K mg) (d_need_few_and_number:DefR P w K mg base "need_few_and_number" 5 2 F_need_few_and_number):DefR P w K mg base "sign_ways" 6 2 F_sign_ways:=
 def_ofR ["row","number"] ["row","number"] 5 6 2 2 rfl rfl rfl F hm hb sc_sign_ways (m:=m_sign_ways) fun cdv A outer s H E hr=>(ss_cons (ss_expr (se_fnR d_need_few_and_number passes_cx (hr.mono (by decide)) (by unfold Gl; kernel_rfl) (sa_cons (se_var 0 (by kernel_rfl) (Or.inl (by kernel_rfl))) (sa_cons (se_var 1 (by kernel_rfl) (Or.inl (by kernel_rfl))) sa_nil)) (alen_cons (alen_cons alen_nil)))) sss_bad)
theorem sc_signs_to:FnScope ["row","number"] ["row","number"] (defScope st_signs_to):=⟨by kernel_rfl,by kernel_rfl,by kernel_rfl,by decide +kernel,rfl,by decide +kernel,by decide +kernel⟩
theorem ok_signs_to {f:Addr} {fd:FuncData} (F:Fun K "signs_to" "signs_to" st_signs_to f fd) (hm:mg "signs_to" = some (.ref f)) (hb:Binds K fd ["row","number"] []) (T:Txt K mg) (d_need_few_and_number:DefR P w K mg base "need_few_and_number" 5 2 F_need_few_and_number):DefR P w K mg base "signs_to" 6 2 F_signs_to:=
 def_ofR ["row","number"] ["row","number"] 5 6 2 2 rfl rfl rfl F hm hb sc_signs_to (m:=m_signs_to) fun cdv A outer s H E hr=>(ss_cons (ss_expr (se_fnR d_need_few_and_number passes_cx (hr.mono (by decide)) (by unfold Gl; kernel_rfl) (sa_cons (se_var 0 (by kernel_rfl) (Or.inl (by kernel_rfl))) (sa_cons (se_var 1 (by kernel_rfl) (Or.inl (by kernel_rfl))) sa_nil)) (alen_cons (alen_cons alen_nil)))) sss_bad)
theorem sc_wide_layers_for:FnScope ["row","number"] ["row","number"] (defScope st_wide_layers_for):=⟨by kernel_rfl,by kernel_rfl,by kernel_rfl,by decide +kernel,rfl,by decide +kernel,by decide +kernel⟩
theorem ok_wide_layers_for {f:Addr} {fd:FuncData} (F:Fun K "wide_layers_for" "wide_layers_for" st_wide_layers_for f fd) (hm:mg "wide_layers_for" = some (.ref f)) (hb:Binds K fd ["row","number"] []) (T:Txt K mg) (d_need_few_and_number:DefR P w K mg base "need_few_and_number" 5 2 F_need_few_and_number):DefR P w K mg base "wide_layers_for" 6 2 F_wide_layers_for:=
 def_ofR ["row","number"] ["row","number"] 5 6 2 2 rfl rfl rfl F hm hb sc_wide_layers_for (m:=m_wide_layers_for) fun cdv A outer s H E hr=>(ss_cons (ss_expr (se_fnR d_need_few_and_number passes_cx (hr.mono (by decide)) (by unfold Gl; kernel_rfl) (sa_cons (se_var 0 (by kernel_rfl) (Or.inl (by kernel_rfl))) (sa_cons (se_var 1 (by kernel_rfl) (Or.inl (by kernel_rfl))) sa_nil)) (alen_cons (alen_cons alen_nil)))) sss_bad)
theorem sc__law_second:FnScope ["kind","row"] ["kind","row"] (defScope st__law_second):=⟨by kernel_rfl,by kernel_rfl,by kernel_rfl,by decide +kernel,rfl,by decide +kernel,by decide +kernel⟩
theorem ok__law_second {f:Addr} {fd:FuncData} (F:Fun K "_law_second" "_law_second" st__law_second f fd) (hm:mg "_law_second" = some (.ref f)) (hb:Binds K fd ["kind","row"] []) (T:Txt K mg) (d_is_barred:DefR P w K mg base "is_barred" 6 3 F_is_barred) (d_is_wide_barred:DefR P w K mg base "is_wide_barred" 6 3 F_is_wide_barred) (d_layers_for:DefR P w K mg base "layers_for" 6 2 F_layers_for) (d_part_table:DefR P w K mg base "part_table" 5 1 F_part_table) (d_part_ways:DefR P w K mg base "part_ways" 6 2 F_part_ways) (d_parts_to:DefR P w K mg base "parts_to" 6 2 F_parts_to) (d_sign_ways:DefR P w K mg base "sign_ways" 6 2 F_sign_ways) (d_signs_to:DefR P w K mg base "signs_to" 6 2 F_signs_to) (d_wide_layers_for:DefR P w K mg base "wide_layers_for" 6 2 F_wide_layers_for):DefR P w K mg base "_law_second" 7 2 F__law_second:=
 def_ofR ["kind","row"] ["kind","row"] 6 7 2 2 rfl rfl rfl F hm hb sc__law_second (m:=m__law_second) fun cdv A outer s H E hr=>(ss_one (ss_if (st_nx (st_cmp (xo_eqP hr) (se_var 0 (by kernel_rfl) (Or.inl (by kernel_rfl))) se_int)) (ss_one (ss_expr (se_fnR d_part_table passes_cx (hr.mono (by decide)) (by unfold Gl; kernel_rfl) (sa_cons (se_var 1 (by kernel_rfl) (Or.inl (by kernel_rfl))) sa_nil) (alen_cons alen_nil)))) (ss_one (ss_if (st_nx (st_cmp (xo_eqP hr) (se_var 0 (by kernel_rfl) (Or.inl (by kernel_rfl))) se_int)) (ss_one (ss_expr (se_fnR d_signs_to passes_cx (hr.mono (by decide)) (by unfold Gl; kernel_rfl) (sa_cons (se_var 1 (by kernel_rfl) (Or.inl (by kernel_rfl))) (sa_cons se_non sa_nil)) (alen_cons (alen_cons alen_nil))))) (ss_one (ss_if (st_nx (st_cmp (xo_eqP hr) (se_var 0 (by kernel_rfl) (Or.inl (by kernel_rfl))) se_int)) (ss_one (ss_expr (se_fnR d_parts_to passes_cx (hr.mono (by decide)) (by unfold Gl; kernel_rfl) (sa_cons (se_var 1 (by kernel_rfl) (Or.inl (by kernel_rfl))) (sa_cons se_non sa_nil)) (alen_cons (alen_cons alen_nil))))) (ss_one (ss_if (st_nx (st_cmp (xo_eqP hr) (se_var 0 (by kernel_rfl) (Or.inl (by kernel_rfl))) se_int)) (ss_one (ss_expr (se_fnR d_sign_ways passes_cx (hr.mono (by decide)) (by unfold Gl; kernel_rfl) (sa_cons (se_var 1 (by kernel_rfl) (Or.inl (by kernel_rfl))) (sa_cons se_non sa_nil)) (alen_cons (alen_cons alen_nil))))) (ss_one (ss_if (st_nx (st_cmp (xo_eqP hr) (se_var 0 (by kernel_rfl) (Or.inl (by kernel_rfl))) se_int)) (ss_one (ss_expr (se_fnR d_part_ways passes_cx (hr.mono (by decide)) (by unfold Gl; kernel_rfl) (sa_cons (se_var 1 (by kernel_rfl) (Or.inl (by kernel_rfl))) (sa_cons se_non sa_nil)) (alen_cons (alen_cons alen_nil))))) (ss_one (ss_if (st_nx (st_cmp (xo_eqP hr) (se_var 0 (by kernel_rfl) (Or.inl (by kernel_rfl))) se_int)) (ss_one (ss_expr (se_fnR d_is_barred passes_cx (hr.mono (by decide)) (by unfold Gl; kernel_rfl) (sa_cons se_non (sa_cons (se_var 1 (by kernel_rfl) (Or.inl (by kernel_rfl))) (sa_cons se_non sa_nil))) (alen_cons (alen_cons (alen_cons alen_nil)))))) (ss_one (ss_if (st_nx (st_cmp (xo_eqP hr) (se_var 0 (by kernel_rfl) (Or.inl (by kernel_rfl))) se_int)) (ss_one (ss_expr (se_fnR d_is_wide_barred passes_cx (hr.mono (by decide)) (by unfold Gl; kernel_rfl) (sa_cons se_non (sa_cons (se_var 1 (by kernel_rfl) (Or.inl (by kernel_rfl))) (sa_cons se_non sa_nil))) (alen_cons (alen_cons (alen_cons alen_nil)))))) (ss_one (ss_if (st_nx (st_cmp (xo_eqP hr) (se_var 0 (by kernel_rfl) (Or.inl (by kernel_rfl))) se_int)) (ss_one (ss_expr (se_fnR d_layers_for passes_cx (hr.mono (by decide)) (by unfold Gl; kernel_rfl) (sa_cons (se_var 1 (by kernel_rfl) (Or.inl (by kernel_rfl))) (sa_cons se_non sa_nil)) (alen_cons (alen_cons alen_nil))))) (ss_one (ss_expr (se_fnR d_wide_layers_for passes_cx (hr.mono (by decide)) (by unfold Gl; kernel_rfl) (sa_cons (se_var 1 (by kernel_rfl) (Or.inl (by kernel_rfl))) (sa_cons se_non sa_nil)) (alen_cons (alen_cons alen_nil)))))))))))))))))))))
theorem sc_below:FnScope ["row","number"] ["row","number"] (defScope st_below):=⟨by kernel_rfl,by kernel_rfl,by kernel_rfl,by decide +kernel,rfl,by decide +kernel,by decide +kernel⟩
theorem ok_below {f:Addr} {fd:FuncData} (F:Fun K "below" "below" st_below f fd) (hm:mg "below" = some (.ref f)) (hb:Binds K fd ["row","number"] []) (T:Txt K mg) (d_need_row_and_number:DefR P w K mg base "need_row_and_number" 4 2 F_need_row_and_number):DefR P w K mg base "below" 5 2 F_below:=
 def_ofR ["row","number"] ["row","number"] 4 5 2 2 rfl rfl rfl F hm hb sc_below (m:=m_below) fun cdv A outer s H E hr=>(ss_cons (ss_expr (se_fnR d_need_row_and_number passes_cx (hr.mono (by decide)) (by unfold Gl; kernel_rfl) (sa_cons (se_var 0 (by kernel_rfl) (Or.inl (by kernel_rfl))) (sa_cons (se_var 1 (by kernel_rfl) (Or.inr (Or.inl (by kernel_rfl)))) sa_nil)) (alen_cons (alen_cons alen_nil)))) sss_bad)
theorem sc_first_met:FnScope ["row","number","firsts","met"] ["row","number"] (defScope st_first_met):=⟨by kernel_rfl,by kernel_rfl,by kernel_rfl,by decide +kernel,rfl,by decide +kernel,by decide +kernel⟩
theorem ok_first_met {f:Addr} {fd:FuncData} (F:Fun K "first_met" "first_met" st_first_met f fd) (hm:mg "first_met" = some (.ref f)) (hb:Binds K fd ["row","number"] []) (T:Txt K mg) (d_need_row_and_number:DefR P w K mg base "need_row_and_number" 4 2 F_need_row_and_number):DefR P w K mg base "first_met" 5 2 F_first_met:=
 def_ofR ["row","number","firsts","met"] ["row","number"] 4 5 2 4 rfl rfl rfl F hm hb sc_first_met (m:=m_first_met) fun cdv A outer s H E hr=>(ss_cons (ss_expr (se_fnR d_need_row_and_number passes_cx (hr.mono (by decide)) (by unfold Gl; kernel_rfl) (sa_cons (se_var 0 (by kernel_rfl) (Or.inl (by kernel_rfl))) (sa_cons (se_var 1 (by kernel_rfl) (Or.inr (Or.inl (by kernel_rfl)))) sa_nil)) (alen_cons (alen_cons alen_nil)))) sss_bad)
theorem sc_half_worths:FnScope ["row"] ["row"] (defScope st_half_worths):=⟨by kernel_rfl,by kernel_rfl,by kernel_rfl,by decide +kernel,rfl,by decide +kernel,by decide +kernel⟩
theorem ok_half_worths {f:Addr} {fd:FuncData} (F:Fun K "half_worths" "half_worths" st_half_worths f fd) (hm:mg "half_worths" = some (.ref f)) (hb:Binds K fd ["row"] []) (T:Txt K mg) (d_need_row:DefR P w K mg base "need_row" 3 1 F_need_row):DefR P w K mg base "half_worths" 4 1 F_half_worths:=
 def_ofR ["row"] ["row"] 3 4 1 1 rfl rfl rfl F hm hb sc_half_worths (m:=m_half_worths) fun cdv A outer s H E hr=>(ss_cons (ss_expr (se_fnR d_need_row passes_cx (hr.mono (by decide)) (by unfold Gl; kernel_rfl) (sa_cons (se_var 0 (by kernel_rfl) (Or.inl (by kernel_rfl))) sa_nil) (alen_cons alen_nil))) sss_bad)
theorem sc_is_rest:FnScope ["thing","row","number","divides_all"] ["thing","row","number"] (defScope st_is_rest):=⟨by kernel_rfl,by kernel_rfl,by kernel_rfl,by decide +kernel,rfl,by decide +kernel,by decide +kernel⟩
theorem ok_is_rest {f:Addr} {fd:FuncData} (F:Fun K "is_rest" "is_rest" st_is_rest f fd) (hm:mg "is_rest" = some (.ref f)) (hb:Binds K fd ["thing","row","number"] []) (T:Txt K mg) (d_need_few_and_number:DefR P w K mg base "need_few_and_number" 5 2 F_need_few_and_number):DefR P w K mg base "is_rest" 6 3 F_is_rest:=
 def_ofR ["thing","row","number","divides_all"] ["thing","row","number"] 5 6 3 4 rfl rfl rfl F hm hb sc_is_rest (m:=m_is_rest) fun cdv A outer s H E hr=>(ss_cons (ss_expr (se_fnR d_need_few_and_number passes_cx (hr.mono (by decide)) (by unfold Gl; kernel_rfl) (sa_cons (se_var 1 (by kernel_rfl) (Or.inl (by kernel_rfl))) (sa_cons (se_var 2 (by kernel_rfl) (Or.inl (by kernel_rfl))) sa_nil)) (alen_cons (alen_cons alen_nil)))) sss_bad)
theorem sc_is_stair:FnScope ["thing","row","number"] ["thing","row","number"] (defScope st_is_stair):=⟨by kernel_rfl,by kernel_rfl,by kernel_rfl,by decide +kernel,rfl,by decide +kernel,by decide +kernel⟩
theorem ok_is_stair {f:Addr} {fd:FuncData} (F:Fun K "is_stair" "is_stair" st_is_stair f fd) (hm:mg "is_stair" = some (.ref f)) (hb:Binds K fd ["thing","row","number"] []) (T:Txt K mg) (d_need_row_and_number:DefR P w K mg base "need_row_and_number" 4 2 F_need_row_and_number):DefR P w K mg base "is_stair" 5 3 F_is_stair:=
 def_ofR ["thing","row","number"] ["thing","row","number"] 4 5 3 3 rfl rfl rfl F hm hb sc_is_stair (m:=m_is_stair) fun cdv A outer s H E hr=>(ss_cons (ss_expr (se_fnR d_need_row_and_number passes_cx (hr.mono (by decide)) (by unfold Gl; kernel_rfl) (sa_cons (se_var 1 (by kernel_rfl) (Or.inl (by kernel_rfl))) (sa_cons (se_var 2 (by kernel_rfl) (Or.inl (by kernel_rfl))) sa_nil)) (alen_cons (alen_cons alen_nil)))) sss_bad)
theorem sc_many_met:FnScope ["row","number","counts"] ["row","number"] (defScope st_many_met):=⟨by kernel_rfl,by kernel_rfl,by kernel_rfl,by decide +kernel,rfl,by decide +kernel,by decide +kernel⟩
theorem ok_many_met {f:Addr} {fd:FuncData} (F:Fun K "many_met" "many_met" st_many_met f fd) (hm:mg "many_met" = some (.ref f)) (hb:Binds K fd ["row","number"] []) (T:Txt K mg) (d_need_row_and_number:DefR P w K mg base "need_row_and_number" 4 2 F_need_row_and_number):DefR P w K mg base "many_met" 5 2 F_many_met:=
 def_ofR ["row","number","counts"] ["row","number"] 4 5 2 3 rfl rfl rfl F hm hb sc_many_met (m:=m_many_met) fun cdv A outer s H E hr=>(ss_cons (ss_expr (se_fnR d_need_row_and_number passes_cx (hr.mono (by decide)) (by unfold Gl; kernel_rfl) (sa_cons (se_var 0 (by kernel_rfl) (Or.inl (by kernel_rfl))) (sa_cons (se_var 1 (by kernel_rfl) (Or.inr (Or.inl (by kernel_rfl)))) sa_nil)) (alen_cons (alen_cons alen_nil)))) sss_bad)
theorem sc_rest_for:FnScope ["row","number","greatest"] ["row","number"] (defScope st_rest_for):=⟨by kernel_rfl,by kernel_rfl,by kernel_rfl,by decide +kernel,rfl,by decide +kernel,by decide +kernel⟩
theorem ok_rest_for {f:Addr} {fd:FuncData} (F:Fun K "rest_for" "rest_for" st_rest_for f fd) (hm:mg "rest_for" = some (.ref f)) (hb:Binds K fd ["row","number"] []) (T:Txt K mg) (d_need_few_and_number:DefR P w K mg base "need_few_and_number" 5 2 F_need_few_and_number):DefR P w K mg base "rest_for" 6 2 F_rest_for:=
 def_ofR ["row","number","greatest"] ["row","number"] 5 6 2 3 rfl rfl rfl F hm hb sc_rest_for (m:=m_rest_for) fun cdv A outer s H E hr=>(ss_cons (ss_expr (se_fnR d_need_few_and_number passes_cx (hr.mono (by decide)) (by unfold Gl; kernel_rfl) (sa_cons (se_var 0 (by kernel_rfl) (Or.inl (by kernel_rfl))) (sa_cons (se_var 1 (by kernel_rfl) (Or.inl (by kernel_rfl))) sa_nil)) (alen_cons (alen_cons alen_nil)))) sss_bad)
theorem sc_stair_for:FnScope ["row","number","walked"] ["row","number"] (defScope st_stair_for):=⟨by kernel_rfl,by kernel_rfl,by kernel_rfl,by decide +kernel,rfl,by decide +kernel,by decide +kernel⟩
theorem ok_stair_for {f:Addr} {fd:FuncData} (F:Fun K "stair_for" "stair_for" st_stair_for f fd) (hm:mg "stair_for" = some (.ref f)) (hb:Binds K fd ["row","number"] []) (T:Txt K mg) (d_need_row_and_number:DefR P w K mg base "need_row_and_number" 4 2 F_need_row_and_number):DefR P w K mg base "stair_for" 5 2 F_stair_for:=
 def_ofR ["row","number","walked"] ["row","number"] 4 5 2 3 rfl rfl rfl F hm hb sc_stair_for (m:=m_stair_for) fun cdv A outer s H E hr=>(ss_cons (ss_expr (se_fnR d_need_row_and_number passes_cx (hr.mono (by decide)) (by unfold Gl; kernel_rfl) (sa_cons (se_var 0 (by kernel_rfl) (Or.inl (by kernel_rfl))) (sa_cons (se_var 1 (by kernel_rfl) (Or.inr (Or.inl (by kernel_rfl)))) sa_nil)) (alen_cons (alen_cons alen_nil)))) sss_bad)
theorem sc__law_third:FnScope ["kind","row"] ["kind","row"] (defScope st__law_third):=⟨by kernel_rfl,by kernel_rfl,by kernel_rfl,by decide +kernel,rfl,by decide +kernel,by decide +kernel⟩
theorem ok__law_third {f:Addr} {fd:FuncData} (F:Fun K "_law_third" "_law_third" st__law_third f fd) (hm:mg "_law_third" = some (.ref f)) (hb:Binds K fd ["kind","row"] []) (T:Txt K mg) (d_above:DefR P w K mg base "above" 5 2 F_above) (d_below:DefR P w K mg base "below" 5 2 F_below) (d_first_met:DefR P w K mg base "first_met" 5 2 F_first_met) (d_half_worths:DefR P w K mg base "half_worths" 4 1 F_half_worths) (d_is_rest:DefR P w K mg base "is_rest" 6 3 F_is_rest) (d_is_stair:DefR P w K mg base "is_stair" 5 3 F_is_stair) (d_many_met:DefR P w K mg base "many_met" 5 2 F_many_met) (d_rest_for:DefR P w K mg base "rest_for" 6 2 F_rest_for) (d_stair_for:DefR P w K mg base "stair_for" 5 2 F_stair_for):DefR P w K mg base "_law_third" 7 2 F__law_third:=
 def_ofR ["kind","row"] ["kind","row"] 6 7 2 2 rfl rfl rfl F hm hb sc__law_third (m:=m__law_third) fun cdv A outer s H E hr=>(ss_one (ss_if (st_nx (st_cmp (xo_eqP hr) (se_var 0 (by kernel_rfl) (Or.inl (by kernel_rfl))) se_int)) (ss_one (ss_expr (se_fnR d_is_rest passes_cx (hr.mono (by decide)) (by unfold Gl; kernel_rfl) (sa_cons se_non (sa_cons (se_var 1 (by kernel_rfl) (Or.inl (by kernel_rfl))) (sa_cons se_non sa_nil))) (alen_cons (alen_cons (alen_cons alen_nil)))))) (ss_one (ss_if (st_nx (st_cmp (xo_eqP hr) (se_var 0 (by kernel_rfl) (Or.inl (by kernel_rfl))) se_int)) (ss_one (ss_expr (se_fnR d_rest_for passes_cx (hr.mono (by decide)) (by unfold Gl; kernel_rfl) (sa_cons (se_var 1 (by kernel_rfl) (Or.inl (by kernel_rfl))) (sa_cons se_non sa_nil)) (alen_cons (alen_cons alen_nil))))) (ss_one (ss_if (st_nx (st_cmp (xo_eqP hr) (se_var 0 (by kernel_rfl) (Or.inl (by kernel_rfl))) se_int)) (ss_one (ss_expr (se_fnR d_half_worths passes_cx (hr.mono (by decide)) (by unfold Gl; kernel_rfl) (sa_cons (se_var 1 (by kernel_rfl) (Or.inl (by kernel_rfl))) sa_nil) (alen_cons alen_nil)))) (ss_one (ss_if (st_nx (st_cmp (xo_eqP hr) (se_var 0 (by kernel_rfl) (Or.inl (by kernel_rfl))) se_int)) (ss_one (ss_expr (se_fnR d_many_met passes_cx (hr.mono (by decide)) (by unfold Gl; kernel_rfl) (sa_cons (se_var 1 (by kernel_rfl) (Or.inl (by kernel_rfl))) (sa_cons se_non sa_nil)) (alen_cons (alen_cons alen_nil))))) (ss_one (ss_if (st_nx (st_cmp (xo_eqP hr) (se_var 0 (by kernel_rfl) (Or.inl (by kernel_rfl))) se_int)) (ss_one (ss_expr (se_fnR d_first_met passes_cx (hr.mono (by decide)) (by unfold Gl; kernel_rfl) (sa_cons (se_var 1 (by kernel_rfl) (Or.inl (by kernel_rfl))) (sa_cons se_non sa_nil)) (alen_cons (alen_cons alen_nil))))) (ss_one (ss_if (st_nx (st_cmp (xo_eqP hr) (se_var 0 (by kernel_rfl) (Or.inl (by kernel_rfl))) se_int)) (ss_one (ss_expr (se_fnR d_is_stair passes_cx (hr.mono (by decide)) (by unfold Gl; kernel_rfl) (sa_cons se_non (sa_cons (se_var 1 (by kernel_rfl) (Or.inl (by kernel_rfl))) (sa_cons se_non sa_nil))) (alen_cons (alen_cons (alen_cons alen_nil)))))) (ss_one (ss_if (st_nx (st_cmp (xo_eqP hr) (se_var 0 (by kernel_rfl) (Or.inl (by kernel_rfl))) se_int)) (ss_one (ss_expr (se_fnR d_stair_for passes_cx (hr.mono (by decide)) (by unfold Gl; kernel_rfl) (sa_cons (se_var 1 (by kernel_rfl) (Or.inl (by kernel_rfl))) (sa_cons se_non sa_nil)) (alen_cons (alen_cons alen_nil))))) (ss_one (ss_if (st_nx (st_cmp (xo_eqP hr) (se_var 0 (by kernel_rfl) (Or.inl (by kernel_rfl))) se_int)) (ss_one (ss_expr (se_fnR d_below passes_cx (hr.mono (by decide)) (by unfold Gl; kernel_rfl) (sa_cons (se_var 1 (by kernel_rfl) (Or.inl (by kernel_rfl))) (sa_cons se_non sa_nil)) (alen_cons (alen_cons alen_nil))))) (ss_one (ss_expr (se_fnR d_above passes_cx (hr.mono (by decide)) (by unfold Gl; kernel_rfl) (sa_cons (se_var 1 (by kernel_rfl) (Or.inl (by kernel_rfl))) (sa_cons se_non sa_nil)) (alen_cons (alen_cons alen_nil)))))))))))))))))))))
theorem sc__law_said:FnScope ["part","kind","row","e"] ["part","kind","row"] (defScope st__law_said):=⟨by kernel_rfl,by kernel_rfl,by kernel_rfl,by decide +kernel,rfl,by decide +kernel,by decide +kernel⟩
theorem ok__law_said {f:Addr} {fd:FuncData} (F:Fun K "_law_said" "_law_said" st__law_said f fd) (hm:mg "_law_said" = some (.ref f)) (hb:Binds K fd ["part","kind","row"] []) (T:Txt K mg) (d__law_first:DefR P w K mg base "_law_first" 7 2 F__law_first) (d__law_fourth:DefR P w K mg base "_law_fourth" 8 2 F__law_fourth) (d__law_last:DefR P w K mg base "_law_last" 6 2 F__law_last) (d__law_marks:DefM P w K mg base "_law_marks" 1 1 F__law_marks) (d__law_second:DefR P w K mg base "_law_second" 7 2 F__law_second) (d__law_third:DefR P w K mg base "_law_third" 7 2 F__law_third):DefN P w K mg base "_law_said" 9 3 F__law_said:=
 def_ofN ["part","kind","row","e"] ["part","kind","row"] 8 9 3 4 rfl rfl rfl F hm hb sc__law_said (m:=m__law_said) fun cdv A outer s H E hr=>(ss_cons (ss_tryT T.tr rfl ⟨rfl,rfl⟩ (by unfold Gl; kernel_rfl) sc__law_said.nd (by kernel_rfl) rfl (by kernel_rfl) (fun p W E1 hP=>(ss_one (ss_if (st_nx (st_cmp (xo_eqP hr) (se_var 0 (by kernel_rfl) (Or.inl (by kernel_rfl))) se_int)) (ss_one (ss_expr (se_fnR d__law_first hP (hr.mono (by decide)) (by unfold Gl; kernel_rfl) (sa_cons (se_var 1 (by kernel_rfl) (Or.inl (by kernel_rfl))) (sa_cons (se_var 2 (by kernel_rfl) (Or.inl (by kernel_rfl))) sa_nil)) (alen_cons (alen_cons alen_nil))))) (ss_one (ss_if (st_nx (st_cmp (xo_eqP hr) (se_var 0 (by kernel_rfl) (Or.inl (by kernel_rfl))) se_int)) (ss_one (ss_expr (se_fnR d__law_second hP (hr.mono (by decide)) (by unfold Gl; kernel_rfl) (sa_cons (se_var 1 (by kernel_rfl) (Or.inl (by kernel_rfl))) (sa_cons (se_var 2 (by kernel_rfl) (Or.inl (by kernel_rfl))) sa_nil)) (alen_cons (alen_cons alen_nil))))) (ss_one (ss_if (st_nx (st_cmp (xo_eqP hr) (se_var 0 (by kernel_rfl) (Or.inl (by kernel_rfl))) se_int)) (ss_one (ss_expr (se_fnR d__law_third hP (hr.mono (by decide)) (by unfold Gl; kernel_rfl) (sa_cons (se_var 1 (by kernel_rfl) (Or.inl (by kernel_rfl))) (sa_cons (se_var 2 (by kernel_rfl) (Or.inl (by kernel_rfl))) sa_nil)) (alen_cons (alen_cons alen_nil))))) (ss_one (ss_if (st_nx (st_cmp (xo_eqP hr) (se_var 0 (by kernel_rfl) (Or.inl (by kernel_rfl))) se_int)) (ss_one (ss_expr (se_fnR d__law_fourth hP (hr.mono (by decide)) (by unfold Gl; kernel_rfl) (sa_cons (se_var 1 (by kernel_rfl) (Or.inl (by kernel_rfl))) (sa_cons (se_var 2 (by kernel_rfl) (Or.inl (by kernel_rfl))) sa_nil)) (alen_cons (alen_cons alen_nil))))) (ss_one (ss_expr (se_fnR d__law_last hP (hr.mono (by decide)) (by unfold Gl; kernel_rfl) (sa_cons (se_nx (se_op xo_mod (se_var 1 (by kernel_rfl) (Or.inl (by kernel_rfl))) se_int)) (sa_cons (se_var 2 (by kernel_rfl) (Or.inl (by kernel_rfl))) sa_nil)) (alen_cons (alen_cons alen_nil)))))))))))))) (fun ea oe ue zo=>(ss_one (ss_ret (se_fnM d__law_marks ((hr.mono (by decide)).m.mark _) (Or.inr ⟨ea,oe,ue,rfl,upd_same,zo⟩) (by unfold Gl; kernel_rfl) (sa_cons (se_var 3 (by kernel_rfl) (Or.inl (by kernel_rfl))) sa_nil) (alen_cons alen_nil)))))) (ss_one (ss_ret se_str)))
theorem sc_law:FnScope ["script","k","box","row","some","lap","thing","part","kind"] ["script"] (defScope st_law):=⟨by kernel_rfl,by kernel_rfl,by kernel_rfl,by decide +kernel,rfl,by decide +kernel,by decide +kernel⟩
end
/-! what the top has written -/
theorem cls_mk {K:PySem.W.Frag} {C_Lacking:Addr} {C_NoNumber:Addr} {C_NoRow:Addr} {C_NoSigns:Addr} {C_NoText:Addr} {C_PlusError:Addr} {C_TooMany:Addr} {cd_NoRow:ClassData} {cd_NoSigns:ClassData}
  (gt:PySem.W.specialIn K (.builtin "object.__class__") "__get__" = some (some (.builtin "getset_descriptor.__get__")))
  (tk:PySem.W.takesIn K (.builtin "object.__class__")=some true)
  (n_Lacking:PySem.W.nsIn K mainGlobals "Lacking" = some (some (.ref C_Lacking)))
  (n_NoNumber:PySem.W.nsIn K mainGlobals "NoNumber" = some (some (.ref C_NoNumber)))
  (n_NoRow:PySem.W.nsIn K mainGlobals "NoRow" = some (some (.ref C_NoRow)))
  (n_NoSigns:PySem.W.nsIn K mainGlobals "NoSigns" = some (some (.ref C_NoSigns)))
  (n_NoText:PySem.W.nsIn K mainGlobals "NoText" = some (some (.ref C_NoText)))
  (n_PlusError:PySem.W.nsIn K mainGlobals "PlusError" = some (some (.ref C_PlusError)))
  (n_TooMany:PySem.W.nsIn K mainGlobals "TooMany" = some (some (.ref C_TooMany)))
  (q_NoRow:PySem.W.excIn K C_NoRow veMro "ValueError.__new__" = true)
  (g1_NoRow:PySem.W.findIn K (.ref C_NoRow) "__getattribute__" = some (some (.builtin "BaseException.__getattribute__")))
  (g2_NoRow:PySem.W.findIn K (.ref C_NoRow) "__getattr__" = some none)
  (g3_NoRow:PySem.W.findIn K (.ref C_NoRow) "__class__" = some (some (.builtin "object.__class__")))
  (m1_NoRow:PySem.W.mroIn K C_NoRow (.type "BaseException")=some true)
  (m2_NoRow:PySem.W.mroIn K C_NoRow (.type "object")=some true)
  (cc_NoRow:PySem.W.clsIn K C_NoRow=some cd_NoRow)
  (kv_NoRow:PySem.W.kitOne K (.ref C_NoRow) (.type "ValueError")=some true)
  (ex_NoRow:PySem.W.exmOne K (.ref C_NoRow) (.ref C_PlusError)=some true)
  (is_NoRow_Lacking:PySem.W.kitOne K (.ref C_NoRow) (.ref C_Lacking)=some false)
  (is_NoRow_NoNumber:PySem.W.kitOne K (.ref C_NoRow) (.ref C_NoNumber)=some false)
  (is_NoRow_NoRow:PySem.W.kitOne K (.ref C_NoRow) (.ref C_NoRow)=some true)
  (is_NoRow_NoSigns:PySem.W.kitOne K (.ref C_NoRow) (.ref C_NoSigns)=some false)
  (is_NoRow_NoText:PySem.W.kitOne K (.ref C_NoRow) (.ref C_NoText)=some false)
  (is_NoRow_PlusError:PySem.W.kitOne K (.ref C_NoRow) (.ref C_PlusError)=some true)
  (is_NoRow_TooMany:PySem.W.kitOne K (.ref C_NoRow) (.ref C_TooMany)=some false)
  (q_NoSigns:PySem.W.excIn K C_NoSigns veMro "ValueError.__new__" = true)
  (g1_NoSigns:PySem.W.findIn K (.ref C_NoSigns) "__getattribute__" = some (some (.builtin "BaseException.__getattribute__")))
  (g2_NoSigns:PySem.W.findIn K (.ref C_NoSigns) "__getattr__" = some none)
  (g3_NoSigns:PySem.W.findIn K (.ref C_NoSigns) "__class__" = some (some (.builtin "object.__class__")))
  (m1_NoSigns:PySem.W.mroIn K C_NoSigns (.type "BaseException")=some true)
  (m2_NoSigns:PySem.W.mroIn K C_NoSigns (.type "object")=some true)
  (cc_NoSigns:PySem.W.clsIn K C_NoSigns=some cd_NoSigns)
  (kv_NoSigns:PySem.W.kitOne K (.ref C_NoSigns) (.type "ValueError")=some true)
  (ex_NoSigns:PySem.W.exmOne K (.ref C_NoSigns) (.ref C_PlusError)=some true)
  (is_NoSigns_Lacking:PySem.W.kitOne K (.ref C_NoSigns) (.ref C_Lacking)=some false)
  (is_NoSigns_NoNumber:PySem.W.kitOne K (.ref C_NoSigns) (.ref C_NoNumber)=some false)
  (is_NoSigns_NoRow:PySem.W.kitOne K (.ref C_NoSigns) (.ref C_NoRow)=some false)
  (is_NoSigns_NoSigns:PySem.W.kitOne K (.ref C_NoSigns) (.ref C_NoSigns)=some true)
  (is_NoSigns_NoText:PySem.W.kitOne K (.ref C_NoSigns) (.ref C_NoText)=some false)
  (is_NoSigns_PlusError:PySem.W.kitOne K (.ref C_NoSigns) (.ref C_PlusError)=some true)
  (is_NoSigns_TooMany:PySem.W.kitOne K (.ref C_NoSigns) (.ref C_TooMany)=some false):Cls K raisedX askedX isaX:=
 ⟨gt,tk,fun c hc=>by
   simp only [raisedX,List.mem_cons,List.not_mem_nil,or_false] at hc
   rcases hc with rfl | rfl
   ·exact ⟨C_NoRow,n_NoRow,exk_mk g1_NoRow g2_NoRow g3_NoRow m1_NoRow m2_NoRow cc_NoRow,kv_NoRow⟩
   ·exact ⟨C_NoSigns,n_NoSigns,exk_mk g1_NoSigns g2_NoSigns g3_NoSigns m1_NoSigns m2_NoSigns cc_NoSigns,kv_NoSigns⟩,
  fun c hc k hk=>by
   simp only [raisedX,askedX,List.mem_cons,List.not_mem_nil,or_false] at hc hk
   rcases hc with rfl | rfl <;> rcases hk with rfl | rfl | rfl | rfl | rfl | rfl | rfl
   ·exact ⟨_,_,n_NoRow,n_Lacking,is_NoRow_Lacking.trans (by decide +kernel)⟩
   ·exact ⟨_,_,n_NoRow,n_NoNumber,is_NoRow_NoNumber.trans (by decide +kernel)⟩
   ·exact ⟨_,_,n_NoRow,n_NoRow,is_NoRow_NoRow.trans (by decide +kernel)⟩
   ·exact ⟨_,_,n_NoRow,n_NoSigns,is_NoRow_NoSigns.trans (by decide +kernel)⟩
   ·exact ⟨_,_,n_NoRow,n_NoText,is_NoRow_NoText.trans (by decide +kernel)⟩
   ·exact ⟨_,_,n_NoRow,n_PlusError,is_NoRow_PlusError.trans (by decide +kernel)⟩
   ·exact ⟨_,_,n_NoRow,n_TooMany,is_NoRow_TooMany.trans (by decide +kernel)⟩
   ·exact ⟨_,_,n_NoSigns,n_Lacking,is_NoSigns_Lacking.trans (by decide +kernel)⟩
   ·exact ⟨_,_,n_NoSigns,n_NoNumber,is_NoSigns_NoNumber.trans (by decide +kernel)⟩
   ·exact ⟨_,_,n_NoSigns,n_NoRow,is_NoSigns_NoRow.trans (by decide +kernel)⟩
   ·exact ⟨_,_,n_NoSigns,n_NoSigns,is_NoSigns_NoSigns.trans (by decide +kernel)⟩
   ·exact ⟨_,_,n_NoSigns,n_NoText,is_NoSigns_NoText.trans (by decide +kernel)⟩
   ·exact ⟨_,_,n_NoSigns,n_PlusError,is_NoSigns_PlusError.trans (by decide +kernel)⟩
   ·exact ⟨_,_,n_NoSigns,n_TooMany,is_NoSigns_TooMany.trans (by decide +kernel)⟩⟩
theorem try_mk {K:PySem.W.Frag} {h:Heap} {mg:Str→Option Value} (X:K.In h) (G:h.Ns mainGlobals mg) {C_Lacking:Addr} {C_NoNumber:Addr} {C_NoRow:Addr} {C_NoSigns:Addr} {C_NoText:Addr} {C_PlusError:Addr} {C_TooMany:Addr} {cd_NoRow:ClassData} {cd_NoSigns:ClassData}
  (gt:PySem.W.specialIn K (.builtin "object.__class__") "__get__" = some (some (.builtin "getset_descriptor.__get__")))
  (tk:PySem.W.takesIn K (.builtin "object.__class__")=some true)
  (n_Lacking:PySem.W.nsIn K mainGlobals "Lacking" = some (some (.ref C_Lacking)))
  (n_NoNumber:PySem.W.nsIn K mainGlobals "NoNumber" = some (some (.ref C_NoNumber)))
  (n_NoRow:PySem.W.nsIn K mainGlobals "NoRow" = some (some (.ref C_NoRow)))
  (n_NoSigns:PySem.W.nsIn K mainGlobals "NoSigns" = some (some (.ref C_NoSigns)))
  (n_NoText:PySem.W.nsIn K mainGlobals "NoText" = some (some (.ref C_NoText)))
  (n_PlusError:PySem.W.nsIn K mainGlobals "PlusError" = some (some (.ref C_PlusError)))
  (n_TooMany:PySem.W.nsIn K mainGlobals "TooMany" = some (some (.ref C_TooMany)))
  (q_NoRow:PySem.W.excIn K C_NoRow veMro "ValueError.__new__" = true)
  (g1_NoRow:PySem.W.findIn K (.ref C_NoRow) "__getattribute__" = some (some (.builtin "BaseException.__getattribute__")))
  (g2_NoRow:PySem.W.findIn K (.ref C_NoRow) "__getattr__" = some none)
  (g3_NoRow:PySem.W.findIn K (.ref C_NoRow) "__class__" = some (some (.builtin "object.__class__")))
  (m1_NoRow:PySem.W.mroIn K C_NoRow (.type "BaseException")=some true)
  (m2_NoRow:PySem.W.mroIn K C_NoRow (.type "object")=some true)
  (cc_NoRow:PySem.W.clsIn K C_NoRow=some cd_NoRow)
  (kv_NoRow:PySem.W.kitOne K (.ref C_NoRow) (.type "ValueError")=some true)
  (ex_NoRow:PySem.W.exmOne K (.ref C_NoRow) (.ref C_PlusError)=some true)
  (is_NoRow_Lacking:PySem.W.kitOne K (.ref C_NoRow) (.ref C_Lacking)=some false)
  (is_NoRow_NoNumber:PySem.W.kitOne K (.ref C_NoRow) (.ref C_NoNumber)=some false)
  (is_NoRow_NoRow:PySem.W.kitOne K (.ref C_NoRow) (.ref C_NoRow)=some true)
  (is_NoRow_NoSigns:PySem.W.kitOne K (.ref C_NoRow) (.ref C_NoSigns)=some false)
  (is_NoRow_NoText:PySem.W.kitOne K (.ref C_NoRow) (.ref C_NoText)=some false)
  (is_NoRow_PlusError:PySem.W.kitOne K (.ref C_NoRow) (.ref C_PlusError)=some true)
  (is_NoRow_TooMany:PySem.W.kitOne K (.ref C_NoRow) (.ref C_TooMany)=some false)
  (q_NoSigns:PySem.W.excIn K C_NoSigns veMro "ValueError.__new__" = true)
  (g1_NoSigns:PySem.W.findIn K (.ref C_NoSigns) "__getattribute__" = some (some (.builtin "BaseException.__getattribute__")))
  (g2_NoSigns:PySem.W.findIn K (.ref C_NoSigns) "__getattr__" = some none)
  (g3_NoSigns:PySem.W.findIn K (.ref C_NoSigns) "__class__" = some (some (.builtin "object.__class__")))
  (m1_NoSigns:PySem.W.mroIn K C_NoSigns (.type "BaseException")=some true)
  (m2_NoSigns:PySem.W.mroIn K C_NoSigns (.type "object")=some true)
  (cc_NoSigns:PySem.W.clsIn K C_NoSigns=some cd_NoSigns)
  (kv_NoSigns:PySem.W.kitOne K (.ref C_NoSigns) (.type "ValueError")=some true)
  (ex_NoSigns:PySem.W.exmOne K (.ref C_NoSigns) (.ref C_PlusError)=some true)
  (is_NoSigns_Lacking:PySem.W.kitOne K (.ref C_NoSigns) (.ref C_Lacking)=some false)
  (is_NoSigns_NoNumber:PySem.W.kitOne K (.ref C_NoSigns) (.ref C_NoNumber)=some false)
  (is_NoSigns_NoRow:PySem.W.kitOne K (.ref C_NoSigns) (.ref C_NoRow)=some false)
  (is_NoSigns_NoSigns:PySem.W.kitOne K (.ref C_NoSigns) (.ref C_NoSigns)=some true)
  (is_NoSigns_NoText:PySem.W.kitOne K (.ref C_NoSigns) (.ref C_NoText)=some false)
  (is_NoSigns_PlusError:PySem.W.kitOne K (.ref C_NoSigns) (.ref C_PlusError)=some true)
  (is_NoSigns_TooMany:PySem.W.kitOne K (.ref C_NoSigns) (.ref C_TooMany)=some false):TryAt K mg "PlusError" raisedX:=
 ⟨_,PySem.W.mg_of X G n_PlusError,fun c hc=>by
   simp only [raisedX,List.mem_cons,List.not_mem_nil,or_false] at hc
   rcases hc with rfl | rfl
   ·exact ⟨_,n_NoRow,ex_NoRow⟩
   ·exact ⟨_,n_NoSigns,ex_NoSigns⟩⟩
theorem us1 {p:List Value → Prop} (h:∀ a,p [a]) (us:List Value) (e:us.length=1):p us:=by
 rcases us with _ | ⟨a,_ | ⟨b,r⟩⟩
 · simp at e
 · exact h a
 · simp at e
theorem us2 {p:List Value → Prop} (h:∀ a b,p [a,b]) (us:List Value) (e:us.length=2):p us:=by
 rcases us with _ | ⟨a,_ | ⟨b,_ | ⟨c,r⟩⟩⟩
 · simp at e
 · simp at e
 · exact h a b
 · simp at e
theorem us3 {p:List Value → Prop} (h:∀ a b c,p [a,b,c]) (us:List Value) (e:us.length=3):p us:=by
 rcases us with _ | ⟨a,_ | ⟨b,_ | ⟨c,_ | ⟨d,r⟩⟩⟩⟩
 · simp at e
 · simp at e
 · simp at e
 · exact h a b c
 · simp at e
theorem all_mk {P:Program} {w:World} {K:PySem.W.Frag} {h:Heap} {mg:Str→Option Value} {fa:Addr} (X:K.In h) (G:h.Ns mainGlobals mg) (hfa:mg "law" = some (.ref fa))  {f0:Addr} {od0 an0:Option Addr} {sl0:Array (Option Value)} {oc0 kV0 dc0 pm0 cd0 ct0:Value} {f1:Addr} {od1 an1:Option Addr} {sl1:Array (Option Value)} {oc1 kV1 dc1 pm1 cd1 ct1:Value} {f2:Addr} {od2 an2:Option Addr} {sl2:Array (Option Value)} {oc2 kV2 dc2 pm2 cd2 ct2:Value} {f3:Addr} {od3 an3:Option Addr} {sl3:Array (Option Value)} {oc3 kV3 dc3 pm3 cd3 ct3:Value} {f4:Addr} {od4 an4:Option Addr} {sl4:Array (Option Value)} {oc4 kV4 dc4 pm4 cd4 ct4:Value} {f5:Addr} {od5 an5:Option Addr} {sl5:Array (Option Value)} {oc5 kV5 dc5 pm5 cd5 ct5:Value} {f6:Addr} {od6 an6:Option Addr} {sl6:Array (Option Value)} {oc6 kV6 dc6 pm6 cd6 ct6:Value} {f7:Addr} {od7 an7:Option Addr} {sl7:Array (Option Value)} {oc7 kV7 dc7 pm7 cd7 ct7:Value} {f8:Addr} {od8 an8:Option Addr} {sl8:Array (Option Value)} {oc8 kV8 dc8 pm8 cd8 ct8:Value} {f9:Addr} {od9 an9:Option Addr} {sl9:Array (Option Value)} {oc9 kV9 dc9 pm9 cd9 ct9:Value} {f10:Addr} {od10 an10:Option Addr} {sl10:Array (Option Value)} {oc10 kV10 dc10 pm10 cd10 ct10:Value} {f11:Addr} {od11 an11:Option Addr} {sl11:Array (Option Value)} {oc11 kV11 dc11 pm11 cd11 ct11:Value} {f12:Addr} {od12 an12:Option Addr} {sl12:Array (Option Value)} {oc12 kV12 dc12 pm12 cd12 ct12:Value} {f13:Addr} {od13 an13:Option Addr} {sl13:Array (Option Value)} {oc13 kV13 dc13 pm13 cd13 ct13:Value} {f14:Addr} {od14 an14:Option Addr} {sl14:Array (Option Value)} {oc14 kV14 dc14 pm14 cd14 ct14:Value} {f15:Addr} {od15 an15:Option Addr} {sl15:Array (Option Value)} {oc15 kV15 dc15 pm15 cd15 ct15:Value} {f16:Addr} {od16 an16:Option Addr} {sl16:Array (Option Value)} {oc16 kV16 dc16 pm16 cd16 ct16:Value} {f17:Addr} {od17 an17:Option Addr} {sl17:Array (Option Value)} {oc17 kV17 dc17 pm17 cd17 ct17:Value} {f18:Addr} {od18 an18:Option Addr} {sl18:Array (Option Value)} {oc18 kV18 dc18 pm18 cd18 ct18:Value} {f19:Addr} {od19 an19:Option Addr} {sl19:Array (Option Value)} {oc19 kV19 dc19 pm19 cd19 ct19:Value} {f20:Addr} {od20 an20:Option Addr} {sl20:Array (Option Value)} {oc20 kV20 dc20 pm20 cd20 ct20:Value} {f21:Addr} {od21 an21:Option Addr} {sl21:Array (Option Value)} {oc21 kV21 dc21 pm21 cd21 ct21:Value} {f22:Addr} {od22 an22:Option Addr} {sl22:Array (Option Value)} {oc22 kV22 dc22 pm22 cd22 ct22:Value} {f23:Addr} {od23 an23:Option Addr} {sl23:Array (Option Value)} {oc23 kV23 dc23 pm23 cd23 ct23:Value} {f24:Addr} {od24 an24:Option Addr} {sl24:Array (Option Value)} {oc24 kV24 dc24 pm24 cd24 ct24:Value} {f25:Addr} {od25 an25:Option Addr} {sl25:Array (Option Value)} {oc25 kV25 dc25 pm25 cd25 ct25:Value} {f26:Addr} {od26 an26:Option Addr} {sl26:Array (Option Value)} {oc26 kV26 dc26 pm26 cd26 ct26:Value} {f27:Addr} {od27 an27:Option Addr} {sl27:Array (Option Value)} {oc27 kV27 dc27 pm27 cd27 ct27:Value} {f28:Addr} {od28 an28:Option Addr} {sl28:Array (Option Value)} {oc28 kV28 dc28 pm28 cd28 ct28:Value} {f29:Addr} {od29 an29:Option Addr} {sl29:Array (Option Value)} {oc29 kV29 dc29 pm29 cd29 ct29:Value} {f30:Addr} {od30 an30:Option Addr} {sl30:Array (Option Value)} {oc30 kV30 dc30 pm30 cd30 ct30:Value} {f31:Addr} {od31 an31:Option Addr} {sl31:Array (Option Value)} {oc31 kV31 dc31 pm31 cd31 ct31:Value} {f32:Addr} {od32 an32:Option Addr} {sl32:Array (Option Value)} {oc32 kV32 dc32 pm32 cd32 ct32:Value} {f33:Addr} {od33 an33:Option Addr} {sl33:Array (Option Value)} {oc33 kV33 dc33 pm33 cd33 ct33:Value} {f34:Addr} {od34 an34:Option Addr} {sl34:Array (Option Value)} {oc34 kV34 dc34 pm34 cd34 ct34:Value} {f35:Addr} {od35 an35:Option Addr} {sl35:Array (Option Value)} {oc35 kV35 dc35 pm35 cd35 ct35:Value} {f36:Addr} {od36 an36:Option Addr} {sl36:Array (Option Value)} {oc36 kV36 dc36 pm36 cd36 ct36:Value} {f37:Addr} {od37 an37:Option Addr} {sl37:Array (Option Value)} {oc37 kV37 dc37 pm37 cd37 ct37:Value} {f38:Addr} {od38 an38:Option Addr} {sl38:Array (Option Value)} {oc38 kV38 dc38 pm38 cd38 ct38:Value} {f39:Addr} {od39 an39:Option Addr} {sl39:Array (Option Value)} {oc39 kV39 dc39 pm39 cd39 ct39:Value} {f40:Addr} {od40 an40:Option Addr} {sl40:Array (Option Value)} {oc40 kV40 dc40 pm40 cd40 ct40:Value} {f41:Addr} {od41 an41:Option Addr} {sl41:Array (Option Value)} {oc41 kV41 dc41 pm41 cd41 ct41:Value} {f42:Addr} {od42 an42:Option Addr} {sl42:Array (Option Value)} {oc42 kV42 dc42 pm42 cd42 ct42:Value} {f43:Addr} {od43 an43:Option Addr} {sl43:Array (Option Value)} {oc43 kV43 dc43 pm43 cd43 ct43:Value} {f44:Addr} {od44 an44:Option Addr} {sl44:Array (Option Value)} {oc44 kV44 dc44 pm44 cd44 ct44:Value} {f45:Addr} {od45 an45:Option Addr} {sl45:Array (Option Value)} {oc45 kV45 dc45 pm45 cd45 ct45:Value} {f46:Addr} {od46 an46:Option Addr} {sl46:Array (Option Value)} {oc46 kV46 dc46 pm46 cd46 ct46:Value} {f47:Addr} {od47 an47:Option Addr} {sl47:Array (Option Value)} {oc47 kV47 dc47 pm47 cd47 ct47:Value} {f48:Addr} {od48 an48:Option Addr} {sl48:Array (Option Value)} {oc48 kV48 dc48 pm48 cd48 ct48:Value} {f49:Addr} {od49 an49:Option Addr} {sl49:Array (Option Value)} {oc49 kV49 dc49 pm49 cd49 ct49:Value} {f50:Addr} {od50 an50:Option Addr} {sl50:Array (Option Value)} {oc50 kV50 dc50 pm50 cd50 ct50:Value} {f51:Addr} {od51 an51:Option Addr} {sl51:Array (Option Value)} {oc51 kV51 dc51 pm51 cd51 ct51:Value} {f52:Addr} {od52 an52:Option Addr} {sl52:Array (Option Value)} {oc52 kV52 dc52 pm52 cd52 ct52:Value} {f53:Addr} {od53 an53:Option Addr} {sl53:Array (Option Value)} {oc53 kV53 dc53 pm53 cd53 ct53:Value} {f54:Addr} {od54 an54:Option Addr} {sl54:Array (Option Value)} {oc54 kV54 dc54 pm54 cd54 ct54:Value} {f55:Addr} {od55 an55:Option Addr} {sl55:Array (Option Value)} {oc55 kV55 dc55 pm55 cd55 ct55:Value} {f56:Addr} {od56 an56:Option Addr} {sl56:Array (Option Value)} {oc56 kV56 dc56 pm56 cd56 ct56:Value} {f57:Addr} {od57 an57:Option Addr} {sl57:Array (Option Value)} {oc57 kV57 dc57 pm57 cd57 ct57:Value} {f58:Addr} {od58 an58:Option Addr} {sl58:Array (Option Value)} {oc58 kV58 dc58 pm58 cd58 ct58:Value} {t_LONGEST_ROW:Tok} {C_Lacking:Addr} {C_NoNumber:Addr} {C_NoRow:Addr} {C_NoSigns:Addr} {C_NoText:Addr} {C_PlusError:Addr} {C_TooMany:Addr} {cd_NoRow:ClassData} {cd_NoSigns:ClassData}
  (a0:PySem.W.nsIn K mainGlobals "_law_cell" = some (some (.ref f0))) (l0:K.lookup f0=some ⟨oc0,od0,.func (PySem.W.fnOf "_law_cell" "_law_cell" (defArgs st__law_cell) (defBody st__law_cell) (defScope st__law_cell) .none kV0 dc0 pm0 an0 cd0 ct0),sl0⟩) (c0:PySem.W.codeIn K cd0 "_law_cell" = true) (k0:PySem.W.keepIn K (.ref f0)=true)
  (a1:PySem.W.nsIn K mainGlobals "_law_mix" = some (some (.ref f1))) (l1:K.lookup f1=some ⟨oc1,od1,.func (PySem.W.fnOf "_law_mix" "_law_mix" (defArgs st__law_mix) (defBody st__law_mix) (defScope st__law_mix) .none kV1 dc1 pm1 an1 cd1 ct1),sl1⟩) (c1:PySem.W.codeIn K cd1 "_law_mix" = true) (k1:PySem.W.keepIn K (.ref f1)=true)
  (a2:PySem.W.nsIn K mainGlobals "_law_box" = some (some (.ref f2))) (l2:K.lookup f2=some ⟨oc2,od2,.func (PySem.W.fnOf "_law_box" "_law_box" (defArgs st__law_box) (defBody st__law_box) (defScope st__law_box) .none kV2 dc2 pm2 an2 cd2 ct2),sl2⟩) (c2:PySem.W.codeIn K cd2 "_law_box" = true) (k2:PySem.W.keepIn K (.ref f2)=true)
  (a3:PySem.W.nsIn K mainGlobals "_law_take" = some (some (.ref f3))) (l3:K.lookup f3=some ⟨oc3,od3,.func (PySem.W.fnOf "_law_take" "_law_take" (defArgs st__law_take) (defBody st__law_take) (defScope st__law_take) .none kV3 dc3 pm3 an3 cd3 ct3),sl3⟩) (c3:PySem.W.codeIn K cd3 "_law_take" = true) (k3:PySem.W.keepIn K (.ref f3)=true)
  (a4:PySem.W.nsIn K mainGlobals "_law_row" = some (some (.ref f4))) (l4:K.lookup f4=some ⟨oc4,od4,.func (PySem.W.fnOf "_law_row" "_law_row" (defArgs st__law_row) (defBody st__law_row) (defScope st__law_row) .none kV4 dc4 pm4 an4 cd4 ct4),sl4⟩) (c4:PySem.W.codeIn K cd4 "_law_row" = true) (k4:PySem.W.keepIn K (.ref f4)=true)
  (a5:PySem.W.nsIn K mainGlobals "is_whole" = some (some (.ref f5))) (l5:K.lookup f5=some ⟨oc5,od5,.func (PySem.W.fnOf "is_whole" "is_whole" (defArgs st_is_whole) (defBody st_is_whole) (defScope st_is_whole) .none kV5 dc5 pm5 an5 cd5 ct5),sl5⟩) (c5:PySem.W.codeIn K cd5 "is_whole" = true) (k5:PySem.W.keepIn K (.ref f5)=true)
  (a6:PySem.W.nsIn K mainGlobals "is_row" = some (some (.ref f6))) (l6:K.lookup f6=some ⟨oc6,od6,.func (PySem.W.fnOf "is_row" "is_row" (defArgs st_is_row) (defBody st_is_row) (defScope st_is_row) .none kV6 dc6 pm6 an6 cd6 ct6),sl6⟩) (c6:PySem.W.codeIn K cd6 "is_row" = true) (k6:PySem.W.keepIn K (.ref f6)=true)
  (a7:PySem.W.nsIn K mainGlobals "need_row" = some (some (.ref f7))) (l7:K.lookup f7=some ⟨oc7,od7,.func (PySem.W.fnOf "need_row" "need_row" (defArgs st_need_row) (defBody st_need_row) (defScope st_need_row) .none kV7 dc7 pm7 an7 cd7 ct7),sl7⟩) (c7:PySem.W.codeIn K cd7 "need_row" = true) (k7:PySem.W.keepIn K (.ref f7)=true)
  (a8:PySem.W.nsIn K mainGlobals "are_parts" = some (some (.ref f8))) (l8:K.lookup f8=some ⟨oc8,od8,.func (PySem.W.fnOf "are_parts" "are_parts" (defArgs st_are_parts) (defBody st_are_parts) (defScope st_are_parts) .none kV8 dc8 pm8 an8 cd8 ct8),sl8⟩) (c8:PySem.W.codeIn K cd8 "are_parts" = true) (k8:PySem.W.keepIn K (.ref f8)=true)
  (a9:PySem.W.nsIn K mainGlobals "are_signs" = some (some (.ref f9))) (l9:K.lookup f9=some ⟨oc9,od9,.func (PySem.W.fnOf "are_signs" "are_signs" (defArgs st_are_signs) (defBody st_are_signs) (defScope st_are_signs) .none kV9 dc9 pm9 an9 cd9 ct9),sl9⟩) (c9:PySem.W.codeIn K cd9 "are_signs" = true) (k9:PySem.W.keepIn K (.ref f9)=true)
  (a10:PySem.W.nsIn K mainGlobals "need_parts" = some (some (.ref f10))) (l10:K.lookup f10=some ⟨oc10,od10,.func (PySem.W.fnOf "need_parts" "need_parts" (defArgs st_need_parts) (defBody st_need_parts) (defScope st_need_parts) .none kV10 dc10 pm10 an10 cd10 ct10),sl10⟩) (c10:PySem.W.codeIn K cd10 "need_parts" = true) (k10:PySem.W.keepIn K (.ref f10)=true)
  (a11:PySem.W.nsIn K mainGlobals "kept" = some (some (.ref f11))) (l11:K.lookup f11=some ⟨oc11,od11,.func (PySem.W.fnOf "kept" "kept" (defArgs st_kept) (defBody st_kept) (defScope st_kept) .none kV11 dc11 pm11 an11 cd11 ct11),sl11⟩) (c11:PySem.W.codeIn K cd11 "kept" = true) (k11:PySem.W.keepIn K (.ref f11)=true)
  (a12:PySem.W.nsIn K mainGlobals "lots" = some (some (.ref f12))) (l12:K.lookup f12=some ⟨oc12,od12,.func (PySem.W.fnOf "lots" "lots" (defArgs st_lots) (defBody st_lots) (defScope st_lots) .none kV12 dc12 pm12 an12 cd12 ct12),sl12⟩) (c12:PySem.W.codeIn K cd12 "lots" = true) (k12:PySem.W.keepIn K (.ref f12)=true)
  (a13:PySem.W.nsIn K mainGlobals "show" = some (some (.ref f13))) (l13:K.lookup f13=some ⟨oc13,od13,.func (PySem.W.fnOf "show" "show" (defArgs st_show) (defBody st_show) (defScope st_show) .none kV13 dc13 pm13 an13 cd13 ct13),sl13⟩) (c13:PySem.W.codeIn K cd13 "show" = true) (k13:PySem.W.keepIn K (.ref f13)=true)
  (a14:PySem.W.nsIn K mainGlobals "need_few" = some (some (.ref f14))) (l14:K.lookup f14=some ⟨oc14,od14,.func (PySem.W.fnOf "need_few" "need_few" (defArgs st_need_few) (defBody st_need_few) (defScope st_need_few) .none kV14 dc14 pm14 an14 cd14 ct14),sl14⟩) (c14:PySem.W.codeIn K cd14 "need_few" = true) (k14:PySem.W.keepIn K (.ref f14)=true)
  (a15:PySem.W.nsIn K mainGlobals "sign_table" = some (some (.ref f15))) (l15:K.lookup f15=some ⟨oc15,od15,.func (PySem.W.fnOf "sign_table" "sign_table" (defArgs st_sign_table) (defBody st_sign_table) (defScope st_sign_table) .none kV15 dc15 pm15 an15 cd15 ct15),sl15⟩) (c15:PySem.W.codeIn K cd15 "sign_table" = true) (k15:PySem.W.keepIn K (.ref f15)=true)
  (a16:PySem.W.nsIn K mainGlobals "total" = some (some (.ref f16))) (l16:K.lookup f16=some ⟨oc16,od16,.func (PySem.W.fnOf "total" "total" (defArgs st_total) (defBody st_total) (defScope st_total) .none kV16 dc16 pm16 an16 cd16 ct16),sl16⟩) (c16:PySem.W.codeIn K cd16 "total" = true) (k16:PySem.W.keepIn K (.ref f16)=true)
  (a17:PySem.W.nsIn K mainGlobals "turned" = some (some (.ref f17))) (l17:K.lookup f17=some ⟨oc17,od17,.func (PySem.W.fnOf "turned" "turned" (defArgs st_turned) (defBody st_turned) (defScope st_turned) .none kV17 dc17 pm17 an17 cd17 ct17),sl17⟩) (c17:PySem.W.codeIn K cd17 "turned" = true) (k17:PySem.W.keepIn K (.ref f17)=true)
  (a18:PySem.W.nsIn K mainGlobals "worth" = some (some (.ref f18))) (l18:K.lookup f18=some ⟨oc18,od18,.func (PySem.W.fnOf "worth" "worth" (defArgs st_worth) (defBody st_worth) (defScope st_worth) .none kV18 dc18 pm18 an18 cd18 ct18),sl18⟩) (c18:PySem.W.codeIn K cd18 "worth" = true) (k18:PySem.W.keepIn K (.ref f18)=true)
  (a19:PySem.W.nsIn K mainGlobals "_law_first" = some (some (.ref f19))) (l19:K.lookup f19=some ⟨oc19,od19,.func (PySem.W.fnOf "_law_first" "_law_first" (defArgs st__law_first) (defBody st__law_first) (defScope st__law_first) .none kV19 dc19 pm19 an19 cd19 ct19),sl19⟩) (c19:PySem.W.codeIn K cd19 "_law_first" = true) (k19:PySem.W.keepIn K (.ref f19)=true)
  (a20:PySem.W.nsIn K mainGlobals "difference_signs" = some (some (.ref f20))) (l20:K.lookup f20=some ⟨oc20,od20,.func (PySem.W.fnOf "difference_signs" "difference_signs" (defArgs st_difference_signs) (defBody st_difference_signs) (defScope st_difference_signs) .none kV20 dc20 pm20 an20 cd20 ct20),sl20⟩) (c20:PySem.W.codeIn K cd20 "difference_signs" = true) (k20:PySem.W.keepIn K (.ref f20)=true)
  (a21:PySem.W.nsIn K mainGlobals "differences" = some (some (.ref f21))) (l21:K.lookup f21=some ⟨oc21,od21,.func (PySem.W.fnOf "differences" "differences" (defArgs st_differences) (defBody st_differences) (defScope st_differences) .none kV21 dc21 pm21 an21 cd21 ct21),sl21⟩) (c21:PySem.W.codeIn K cd21 "differences" = true) (k21:PySem.W.keepIn K (.ref f21)=true)
  (a22:PySem.W.nsIn K mainGlobals "need_row_and_number" = some (some (.ref f22))) (l22:K.lookup f22=some ⟨oc22,od22,.func (PySem.W.fnOf "need_row_and_number" "need_row_and_number" (defArgs st_need_row_and_number) (defBody st_need_row_and_number) (defScope st_need_row_and_number) .none kV22 dc22 pm22 an22 cd22 ct22),sl22⟩) (c22:PySem.W.codeIn K cd22 "need_row_and_number" = true) (k22:PySem.W.keepIn K (.ref f22)=true)
  (a23:PySem.W.nsIn K mainGlobals "above" = some (some (.ref f23))) (l23:K.lookup f23=some ⟨oc23,od23,.func (PySem.W.fnOf "above" "above" (defArgs st_above) (defBody st_above) (defScope st_above) .none kV23 dc23 pm23 an23 cd23 ct23),sl23⟩) (c23:PySem.W.codeIn K cd23 "above" = true) (k23:PySem.W.keepIn K (.ref f23)=true)
  (a24:PySem.W.nsIn K mainGlobals "unevenness" = some (some (.ref f24))) (l24:K.lookup f24=some ⟨oc24,od24,.func (PySem.W.fnOf "unevenness" "unevenness" (defArgs st_unevenness) (defBody st_unevenness) (defScope st_unevenness) .none kV24 dc24 pm24 an24 cd24 ct24),sl24⟩) (c24:PySem.W.codeIn K cd24 "unevenness" = true) (k24:PySem.W.keepIn K (.ref f24)=true)
  (a25:PySem.W.nsIn K mainGlobals "evenest" = some (some (.ref f25))) (l25:K.lookup f25=some ⟨oc25,od25,.func (PySem.W.fnOf "evenest" "evenest" (defArgs st_evenest) (defBody st_evenest) (defScope st_evenest) .none kV25 dc25 pm25 an25 cd25 ct25),sl25⟩) (c25:PySem.W.codeIn K cd25 "evenest" = true) (k25:PySem.W.keepIn K (.ref f25)=true)
  (a26:PySem.W.nsIn K mainGlobals "evenest_many" = some (some (.ref f26))) (l26:K.lookup f26=some ⟨oc26,od26,.func (PySem.W.fnOf "evenest_many" "evenest_many" (defArgs st_evenest_many) (defBody st_evenest_many) (defScope st_evenest_many) .none kV26 dc26 pm26 an26 cd26 ct26),sl26⟩) (c26:PySem.W.codeIn K cd26 "evenest_many" = true) (k26:PySem.W.keepIn K (.ref f26)=true)
  (a27:PySem.W.nsIn K mainGlobals "every_by_parts" = some (some (.ref f27))) (l27:K.lookup f27=some ⟨oc27,od27,.func (PySem.W.fnOf "every_by_parts" "every_by_parts" (defArgs st_every_by_parts) (defBody st_every_by_parts) (defScope st_every_by_parts) .none kV27 dc27 pm27 an27 cd27 ct27),sl27⟩) (c27:PySem.W.codeIn K cd27 "every_by_parts" = true) (k27:PySem.W.keepIn K (.ref f27)=true)
  (a28:PySem.W.nsIn K mainGlobals "every_by_signs" = some (some (.ref f28))) (l28:K.lookup f28=some ⟨oc28,od28,.func (PySem.W.fnOf "every_by_signs" "every_by_signs" (defArgs st_every_by_signs) (defBody st_every_by_signs) (defScope st_every_by_signs) .none kV28 dc28 pm28 an28 cd28 ct28),sl28⟩) (c28:PySem.W.codeIn K cd28 "every_by_signs" = true) (k28:PySem.W.keepIn K (.ref f28)=true)
  (a29:PySem.W.nsIn K mainGlobals "uneven_bound" = some (some (.ref f29))) (l29:K.lookup f29=some ⟨oc29,od29,.func (PySem.W.fnOf "uneven_bound" "uneven_bound" (defArgs st_uneven_bound) (defBody st_uneven_bound) (defScope st_uneven_bound) .none kV29 dc29 pm29 an29 cd29 ct29),sl29⟩) (c29:PySem.W.codeIn K cd29 "uneven_bound" = true) (k29:PySem.W.keepIn K (.ref f29)=true)
  (a30:PySem.W.nsIn K mainGlobals "uneven_paper" = some (some (.ref f30))) (l30:K.lookup f30=some ⟨oc30,od30,.func (PySem.W.fnOf "uneven_paper" "uneven_paper" (defArgs st_uneven_paper) (defBody st_uneven_paper) (defScope st_uneven_paper) .none kV30 dc30 pm30 an30 cd30 ct30),sl30⟩) (c30:PySem.W.codeIn K cd30 "uneven_paper" = true) (k30:PySem.W.keepIn K (.ref f30)=true)
  (a31:PySem.W.nsIn K mainGlobals "_law_fourth" = some (some (.ref f31))) (l31:K.lookup f31=some ⟨oc31,od31,.func (PySem.W.fnOf "_law_fourth" "_law_fourth" (defArgs st__law_fourth) (defBody st__law_fourth) (defScope st__law_fourth) .none kV31 dc31 pm31 an31 cd31 ct31),sl31⟩) (c31:PySem.W.codeIn K cd31 "_law_fourth" = true) (k31:PySem.W.keepIn K (.ref f31)=true)
  (a32:PySem.W.nsIn K mainGlobals "missed_by_parts" = some (some (.ref f32))) (l32:K.lookup f32=some ⟨oc32,od32,.func (PySem.W.fnOf "missed_by_parts" "missed_by_parts" (defArgs st_missed_by_parts) (defBody st_missed_by_parts) (defScope st_missed_by_parts) .none kV32 dc32 pm32 an32 cd32 ct32),sl32⟩) (c32:PySem.W.codeIn K cd32 "missed_by_parts" = true) (k32:PySem.W.keepIn K (.ref f32)=true)
  (a33:PySem.W.nsIn K mainGlobals "missed_by_signs" = some (some (.ref f33))) (l33:K.lookup f33=some ⟨oc33,od33,.func (PySem.W.fnOf "missed_by_signs" "missed_by_signs" (defArgs st_missed_by_signs) (defBody st_missed_by_signs) (defScope st_missed_by_signs) .none kV33 dc33 pm33 an33 cd33 ct33),sl33⟩) (c33:PySem.W.codeIn K cd33 "missed_by_signs" = true) (k33:PySem.W.keepIn K (.ref f33)=true)
  (a34:PySem.W.nsIn K mainGlobals "weighed" = some (some (.ref f34))) (l34:K.lookup f34=some ⟨oc34,od34,.func (PySem.W.fnOf "weighed" "weighed" (defArgs st_weighed) (defBody st_weighed) (defScope st_weighed) .none kV34 dc34 pm34 an34 cd34 ct34),sl34⟩) (c34:PySem.W.codeIn K cd34 "weighed" = true) (k34:PySem.W.keepIn K (.ref f34)=true)
  (a35:PySem.W.nsIn K mainGlobals "_law_last" = some (some (.ref f35))) (l35:K.lookup f35=some ⟨oc35,od35,.func (PySem.W.fnOf "_law_last" "_law_last" (defArgs st__law_last) (defBody st__law_last) (defScope st__law_last) .none kV35 dc35 pm35 an35 cd35 ct35),sl35⟩) (c35:PySem.W.codeIn K cd35 "_law_last" = true) (k35:PySem.W.keepIn K (.ref f35)=true)
  (a36:PySem.W.nsIn K mainGlobals "_law_marks" = some (some (.ref f36))) (l36:K.lookup f36=some ⟨oc36,od36,.func (PySem.W.fnOf "_law_marks" "_law_marks" (defArgs st__law_marks) (defBody st__law_marks) (defScope st__law_marks) .none kV36 dc36 pm36 an36 cd36 ct36),sl36⟩) (c36:PySem.W.codeIn K cd36 "_law_marks" = true) (k36:PySem.W.keepIn K (.ref f36)=true)
  (a37:PySem.W.nsIn K mainGlobals "need_few_and_number" = some (some (.ref f37))) (l37:K.lookup f37=some ⟨oc37,od37,.func (PySem.W.fnOf "need_few_and_number" "need_few_and_number" (defArgs st_need_few_and_number) (defBody st_need_few_and_number) (defScope st_need_few_and_number) .none kV37 dc37 pm37 an37 cd37 ct37),sl37⟩) (c37:PySem.W.codeIn K cd37 "need_few_and_number" = true) (k37:PySem.W.keepIn K (.ref f37)=true)
  (a38:PySem.W.nsIn K mainGlobals "is_barred" = some (some (.ref f38))) (l38:K.lookup f38=some ⟨oc38,od38,.func (PySem.W.fnOf "is_barred" "is_barred" (defArgs st_is_barred) (defBody st_is_barred) (defScope st_is_barred) .none kV38 dc38 pm38 an38 cd38 ct38),sl38⟩) (c38:PySem.W.codeIn K cd38 "is_barred" = true) (k38:PySem.W.keepIn K (.ref f38)=true)
  (a39:PySem.W.nsIn K mainGlobals "is_wide_barred" = some (some (.ref f39))) (l39:K.lookup f39=some ⟨oc39,od39,.func (PySem.W.fnOf "is_wide_barred" "is_wide_barred" (defArgs st_is_wide_barred) (defBody st_is_wide_barred) (defScope st_is_wide_barred) .none kV39 dc39 pm39 an39 cd39 ct39),sl39⟩) (c39:PySem.W.codeIn K cd39 "is_wide_barred" = true) (k39:PySem.W.keepIn K (.ref f39)=true)
  (a40:PySem.W.nsIn K mainGlobals "layers_for" = some (some (.ref f40))) (l40:K.lookup f40=some ⟨oc40,od40,.func (PySem.W.fnOf "layers_for" "layers_for" (defArgs st_layers_for) (defBody st_layers_for) (defScope st_layers_for) .none kV40 dc40 pm40 an40 cd40 ct40),sl40⟩) (c40:PySem.W.codeIn K cd40 "layers_for" = true) (k40:PySem.W.keepIn K (.ref f40)=true)
  (a41:PySem.W.nsIn K mainGlobals "part_table" = some (some (.ref f41))) (l41:K.lookup f41=some ⟨oc41,od41,.func (PySem.W.fnOf "part_table" "part_table" (defArgs st_part_table) (defBody st_part_table) (defScope st_part_table) .none kV41 dc41 pm41 an41 cd41 ct41),sl41⟩) (c41:PySem.W.codeIn K cd41 "part_table" = true) (k41:PySem.W.keepIn K (.ref f41)=true)
  (a42:PySem.W.nsIn K mainGlobals "part_ways" = some (some (.ref f42))) (l42:K.lookup f42=some ⟨oc42,od42,.func (PySem.W.fnOf "part_ways" "part_ways" (defArgs st_part_ways) (defBody st_part_ways) (defScope st_part_ways) .none kV42 dc42 pm42 an42 cd42 ct42),sl42⟩) (c42:PySem.W.codeIn K cd42 "part_ways" = true) (k42:PySem.W.keepIn K (.ref f42)=true)
  (a43:PySem.W.nsIn K mainGlobals "parts_to" = some (some (.ref f43))) (l43:K.lookup f43=some ⟨oc43,od43,.func (PySem.W.fnOf "parts_to" "parts_to" (defArgs st_parts_to) (defBody st_parts_to) (defScope st_parts_to) .none kV43 dc43 pm43 an43 cd43 ct43),sl43⟩) (c43:PySem.W.codeIn K cd43 "parts_to" = true) (k43:PySem.W.keepIn K (.ref f43)=true)
  (a44:PySem.W.nsIn K mainGlobals "sign_ways" = some (some (.ref f44))) (l44:K.lookup f44=some ⟨oc44,od44,.func (PySem.W.fnOf "sign_ways" "sign_ways" (defArgs st_sign_ways) (defBody st_sign_ways) (defScope st_sign_ways) .none kV44 dc44 pm44 an44 cd44 ct44),sl44⟩) (c44:PySem.W.codeIn K cd44 "sign_ways" = true) (k44:PySem.W.keepIn K (.ref f44)=true)
  (a45:PySem.W.nsIn K mainGlobals "signs_to" = some (some (.ref f45))) (l45:K.lookup f45=some ⟨oc45,od45,.func (PySem.W.fnOf "signs_to" "signs_to" (defArgs st_signs_to) (defBody st_signs_to) (defScope st_signs_to) .none kV45 dc45 pm45 an45 cd45 ct45),sl45⟩) (c45:PySem.W.codeIn K cd45 "signs_to" = true) (k45:PySem.W.keepIn K (.ref f45)=true)
  (a46:PySem.W.nsIn K mainGlobals "wide_layers_for" = some (some (.ref f46))) (l46:K.lookup f46=some ⟨oc46,od46,.func (PySem.W.fnOf "wide_layers_for" "wide_layers_for" (defArgs st_wide_layers_for) (defBody st_wide_layers_for) (defScope st_wide_layers_for) .none kV46 dc46 pm46 an46 cd46 ct46),sl46⟩) (c46:PySem.W.codeIn K cd46 "wide_layers_for" = true) (k46:PySem.W.keepIn K (.ref f46)=true)
  (a47:PySem.W.nsIn K mainGlobals "_law_second" = some (some (.ref f47))) (l47:K.lookup f47=some ⟨oc47,od47,.func (PySem.W.fnOf "_law_second" "_law_second" (defArgs st__law_second) (defBody st__law_second) (defScope st__law_second) .none kV47 dc47 pm47 an47 cd47 ct47),sl47⟩) (c47:PySem.W.codeIn K cd47 "_law_second" = true) (k47:PySem.W.keepIn K (.ref f47)=true)
  (a48:PySem.W.nsIn K mainGlobals "below" = some (some (.ref f48))) (l48:K.lookup f48=some ⟨oc48,od48,.func (PySem.W.fnOf "below" "below" (defArgs st_below) (defBody st_below) (defScope st_below) .none kV48 dc48 pm48 an48 cd48 ct48),sl48⟩) (c48:PySem.W.codeIn K cd48 "below" = true) (k48:PySem.W.keepIn K (.ref f48)=true)
  (a49:PySem.W.nsIn K mainGlobals "first_met" = some (some (.ref f49))) (l49:K.lookup f49=some ⟨oc49,od49,.func (PySem.W.fnOf "first_met" "first_met" (defArgs st_first_met) (defBody st_first_met) (defScope st_first_met) .none kV49 dc49 pm49 an49 cd49 ct49),sl49⟩) (c49:PySem.W.codeIn K cd49 "first_met" = true) (k49:PySem.W.keepIn K (.ref f49)=true)
  (a50:PySem.W.nsIn K mainGlobals "half_worths" = some (some (.ref f50))) (l50:K.lookup f50=some ⟨oc50,od50,.func (PySem.W.fnOf "half_worths" "half_worths" (defArgs st_half_worths) (defBody st_half_worths) (defScope st_half_worths) .none kV50 dc50 pm50 an50 cd50 ct50),sl50⟩) (c50:PySem.W.codeIn K cd50 "half_worths" = true) (k50:PySem.W.keepIn K (.ref f50)=true)
  (a51:PySem.W.nsIn K mainGlobals "is_rest" = some (some (.ref f51))) (l51:K.lookup f51=some ⟨oc51,od51,.func (PySem.W.fnOf "is_rest" "is_rest" (defArgs st_is_rest) (defBody st_is_rest) (defScope st_is_rest) .none kV51 dc51 pm51 an51 cd51 ct51),sl51⟩) (c51:PySem.W.codeIn K cd51 "is_rest" = true) (k51:PySem.W.keepIn K (.ref f51)=true)
  (a52:PySem.W.nsIn K mainGlobals "is_stair" = some (some (.ref f52))) (l52:K.lookup f52=some ⟨oc52,od52,.func (PySem.W.fnOf "is_stair" "is_stair" (defArgs st_is_stair) (defBody st_is_stair) (defScope st_is_stair) .none kV52 dc52 pm52 an52 cd52 ct52),sl52⟩) (c52:PySem.W.codeIn K cd52 "is_stair" = true) (k52:PySem.W.keepIn K (.ref f52)=true)
  (a53:PySem.W.nsIn K mainGlobals "many_met" = some (some (.ref f53))) (l53:K.lookup f53=some ⟨oc53,od53,.func (PySem.W.fnOf "many_met" "many_met" (defArgs st_many_met) (defBody st_many_met) (defScope st_many_met) .none kV53 dc53 pm53 an53 cd53 ct53),sl53⟩) (c53:PySem.W.codeIn K cd53 "many_met" = true) (k53:PySem.W.keepIn K (.ref f53)=true)
  (a54:PySem.W.nsIn K mainGlobals "rest_for" = some (some (.ref f54))) (l54:K.lookup f54=some ⟨oc54,od54,.func (PySem.W.fnOf "rest_for" "rest_for" (defArgs st_rest_for) (defBody st_rest_for) (defScope st_rest_for) .none kV54 dc54 pm54 an54 cd54 ct54),sl54⟩) (c54:PySem.W.codeIn K cd54 "rest_for" = true) (k54:PySem.W.keepIn K (.ref f54)=true)
  (a55:PySem.W.nsIn K mainGlobals "stair_for" = some (some (.ref f55))) (l55:K.lookup f55=some ⟨oc55,od55,.func (PySem.W.fnOf "stair_for" "stair_for" (defArgs st_stair_for) (defBody st_stair_for) (defScope st_stair_for) .none kV55 dc55 pm55 an55 cd55 ct55),sl55⟩) (c55:PySem.W.codeIn K cd55 "stair_for" = true) (k55:PySem.W.keepIn K (.ref f55)=true)
  (a56:PySem.W.nsIn K mainGlobals "_law_third" = some (some (.ref f56))) (l56:K.lookup f56=some ⟨oc56,od56,.func (PySem.W.fnOf "_law_third" "_law_third" (defArgs st__law_third) (defBody st__law_third) (defScope st__law_third) .none kV56 dc56 pm56 an56 cd56 ct56),sl56⟩) (c56:PySem.W.codeIn K cd56 "_law_third" = true) (k56:PySem.W.keepIn K (.ref f56)=true)
  (a57:PySem.W.nsIn K mainGlobals "_law_said" = some (some (.ref f57))) (l57:K.lookup f57=some ⟨oc57,od57,.func (PySem.W.fnOf "_law_said" "_law_said" (defArgs st__law_said) (defBody st__law_said) (defScope st__law_said) .none kV57 dc57 pm57 an57 cd57 ct57),sl57⟩) (c57:PySem.W.codeIn K cd57 "_law_said" = true) (k57:PySem.W.keepIn K (.ref f57)=true)
  (a58:PySem.W.nsIn K mainGlobals "law" = some (some (.ref f58))) (l58:K.lookup f58=some ⟨oc58,od58,.func (PySem.W.fnOf "law" "law" (defArgs st_law) (defBody st_law) (defScope st_law) .none kV58 dc58 pm58 an58 cd58 ct58),sl58⟩) (c58:PySem.W.codeIn K cd58 "law" = true) (k58:PySem.W.keepIn K (.ref f58)=true)
  (z_ValueError:PySem.W.nsIn K mainGlobals "ValueError" = some none)
  (z_abs:PySem.W.nsIn K mainGlobals "abs" = some none)
  (z_all:PySem.W.nsIn K mainGlobals "all" = some none)
  (z_bool:PySem.W.nsIn K mainGlobals "bool" = some none)
  (z_divmod:PySem.W.nsIn K mainGlobals "divmod" = some none)
  (z_int:PySem.W.nsIn K mainGlobals "int" = some none)
  (z_isinstance:PySem.W.nsIn K mainGlobals "isinstance" = some none)
  (z_len:PySem.W.nsIn K mainGlobals "len" = some none)
  (z_list:PySem.W.nsIn K mainGlobals "list" = some none)
  (z_max:PySem.W.nsIn K mainGlobals "max" = some none)
  (z_min:PySem.W.nsIn K mainGlobals "min" = some none)
  (z_range:PySem.W.nsIn K mainGlobals "range" = some none)
  (z_tuple:PySem.W.nsIn K mainGlobals "tuple" = some none)
  (z_LONGEST_ROW:PySem.W.nsIn K mainGlobals "LONGEST_ROW" = some (some (.int 16 t_LONGEST_ROW)))
  (gt:PySem.W.specialIn K (.builtin "object.__class__") "__get__" = some (some (.builtin "getset_descriptor.__get__")))
  (tk:PySem.W.takesIn K (.builtin "object.__class__")=some true)
  (n_Lacking:PySem.W.nsIn K mainGlobals "Lacking" = some (some (.ref C_Lacking)))
  (n_NoNumber:PySem.W.nsIn K mainGlobals "NoNumber" = some (some (.ref C_NoNumber)))
  (n_NoRow:PySem.W.nsIn K mainGlobals "NoRow" = some (some (.ref C_NoRow)))
  (n_NoSigns:PySem.W.nsIn K mainGlobals "NoSigns" = some (some (.ref C_NoSigns)))
  (n_NoText:PySem.W.nsIn K mainGlobals "NoText" = some (some (.ref C_NoText)))
  (n_PlusError:PySem.W.nsIn K mainGlobals "PlusError" = some (some (.ref C_PlusError)))
  (n_TooMany:PySem.W.nsIn K mainGlobals "TooMany" = some (some (.ref C_TooMany)))
  (q_NoRow:PySem.W.excIn K C_NoRow veMro "ValueError.__new__" = true)
  (g1_NoRow:PySem.W.findIn K (.ref C_NoRow) "__getattribute__" = some (some (.builtin "BaseException.__getattribute__")))
  (g2_NoRow:PySem.W.findIn K (.ref C_NoRow) "__getattr__" = some none)
  (g3_NoRow:PySem.W.findIn K (.ref C_NoRow) "__class__" = some (some (.builtin "object.__class__")))
  (m1_NoRow:PySem.W.mroIn K C_NoRow (.type "BaseException")=some true)
  (m2_NoRow:PySem.W.mroIn K C_NoRow (.type "object")=some true)
  (cc_NoRow:PySem.W.clsIn K C_NoRow=some cd_NoRow)
  (kv_NoRow:PySem.W.kitOne K (.ref C_NoRow) (.type "ValueError")=some true)
  (ex_NoRow:PySem.W.exmOne K (.ref C_NoRow) (.ref C_PlusError)=some true)
  (is_NoRow_Lacking:PySem.W.kitOne K (.ref C_NoRow) (.ref C_Lacking)=some false)
  (is_NoRow_NoNumber:PySem.W.kitOne K (.ref C_NoRow) (.ref C_NoNumber)=some false)
  (is_NoRow_NoRow:PySem.W.kitOne K (.ref C_NoRow) (.ref C_NoRow)=some true)
  (is_NoRow_NoSigns:PySem.W.kitOne K (.ref C_NoRow) (.ref C_NoSigns)=some false)
  (is_NoRow_NoText:PySem.W.kitOne K (.ref C_NoRow) (.ref C_NoText)=some false)
  (is_NoRow_PlusError:PySem.W.kitOne K (.ref C_NoRow) (.ref C_PlusError)=some true)
  (is_NoRow_TooMany:PySem.W.kitOne K (.ref C_NoRow) (.ref C_TooMany)=some false)
  (q_NoSigns:PySem.W.excIn K C_NoSigns veMro "ValueError.__new__" = true)
  (g1_NoSigns:PySem.W.findIn K (.ref C_NoSigns) "__getattribute__" = some (some (.builtin "BaseException.__getattribute__")))
  (g2_NoSigns:PySem.W.findIn K (.ref C_NoSigns) "__getattr__" = some none)
  (g3_NoSigns:PySem.W.findIn K (.ref C_NoSigns) "__class__" = some (some (.builtin "object.__class__")))
  (m1_NoSigns:PySem.W.mroIn K C_NoSigns (.type "BaseException")=some true)
  (m2_NoSigns:PySem.W.mroIn K C_NoSigns (.type "object")=some true)
  (cc_NoSigns:PySem.W.clsIn K C_NoSigns=some cd_NoSigns)
  (kv_NoSigns:PySem.W.kitOne K (.ref C_NoSigns) (.type "ValueError")=some true)
  (ex_NoSigns:PySem.W.exmOne K (.ref C_NoSigns) (.ref C_PlusError)=some true)
  (is_NoSigns_Lacking:PySem.W.kitOne K (.ref C_NoSigns) (.ref C_Lacking)=some false)
  (is_NoSigns_NoNumber:PySem.W.kitOne K (.ref C_NoSigns) (.ref C_NoNumber)=some false)
  (is_NoSigns_NoRow:PySem.W.kitOne K (.ref C_NoSigns) (.ref C_NoRow)=some false)
  (is_NoSigns_NoSigns:PySem.W.kitOne K (.ref C_NoSigns) (.ref C_NoSigns)=some true)
  (is_NoSigns_NoText:PySem.W.kitOne K (.ref C_NoSigns) (.ref C_NoText)=some false)
  (is_NoSigns_PlusError:PySem.W.kitOne K (.ref C_NoSigns) (.ref C_PlusError)=some true)
  (is_NoSigns_TooMany:PySem.W.kitOne K (.ref C_NoSigns) (.ref C_TooMany)=some false):
  ∃ fd:FuncData,(∀ (s:Shared) (v:Value),BindsTo s fd ⟨[v],[]⟩ [("script",v)])∧∀ base:Heap,K.In base→base.Ns mainGlobals mg→FnOk P w K mg base (CX1 P w) 10 fa fd ["script"] (spN K 1 F_law):=by
 have e:=hfa.symm.trans (PySem.W.mg_of X G a58)
 cases e
 have T:Txt K mg:=⟨cls_mk gt tk n_Lacking n_NoNumber n_NoRow n_NoSigns n_NoText n_PlusError n_TooMany q_NoRow g1_NoRow g2_NoRow g3_NoRow m1_NoRow m2_NoRow cc_NoRow kv_NoRow ex_NoRow is_NoRow_Lacking is_NoRow_NoNumber is_NoRow_NoRow is_NoRow_NoSigns is_NoRow_NoText is_NoRow_PlusError is_NoRow_TooMany q_NoSigns g1_NoSigns g2_NoSigns g3_NoSigns m1_NoSigns m2_NoSigns cc_NoSigns kv_NoSigns ex_NoSigns is_NoSigns_Lacking is_NoSigns_NoNumber is_NoSigns_NoRow is_NoSigns_NoSigns is_NoSigns_NoText is_NoSigns_PlusError is_NoSigns_TooMany,⟨_,PySem.W.mg_of X G n_NoRow,n_NoRow,q_NoRow⟩,⟨_,PySem.W.mg_of X G n_NoSigns,n_NoSigns,q_NoSigns⟩,⟨_,PySem.W.mg_of X G n_Lacking,n_Lacking⟩,⟨_,PySem.W.mg_of X G n_NoNumber,n_NoNumber⟩,⟨_,PySem.W.mg_of X G n_NoRow,n_NoRow⟩,⟨_,PySem.W.mg_of X G n_NoSigns,n_NoSigns⟩,⟨_,PySem.W.mg_of X G n_NoText,n_NoText⟩,⟨_,PySem.W.mg_of X G n_PlusError,n_PlusError⟩,⟨_,PySem.W.mg_of X G n_TooMany,n_TooMany⟩,try_mk X G gt tk n_Lacking n_NoNumber n_NoRow n_NoSigns n_NoText n_PlusError n_TooMany q_NoRow g1_NoRow g2_NoRow g3_NoRow m1_NoRow m2_NoRow cc_NoRow kv_NoRow ex_NoRow is_NoRow_Lacking is_NoRow_NoNumber is_NoRow_NoRow is_NoRow_NoSigns is_NoRow_NoText is_NoRow_PlusError is_NoRow_TooMany q_NoSigns g1_NoSigns g2_NoSigns g3_NoSigns m1_NoSigns m2_NoSigns cc_NoSigns kv_NoSigns ex_NoSigns is_NoSigns_Lacking is_NoSigns_NoNumber is_NoSigns_NoRow is_NoSigns_NoSigns is_NoSigns_NoText is_NoSigns_PlusError is_NoSigns_TooMany,PySem.W.mg_none_of X G z_ValueError,PySem.W.mg_none_of X G z_abs,PySem.W.mg_none_of X G z_all,PySem.W.mg_none_of X G z_bool,PySem.W.mg_none_of X G z_divmod,PySem.W.mg_none_of X G z_int,PySem.W.mg_none_of X G z_isinstance,PySem.W.mg_none_of X G z_len,PySem.W.mg_none_of X G z_list,PySem.W.mg_none_of X G z_max,PySem.W.mg_none_of X G z_min,PySem.W.mg_none_of X G z_range,PySem.W.mg_none_of X G z_tuple,⟨_,PySem.W.mg_of X G z_LONGEST_ROW⟩⟩
 have F0:=fun_mk (st:=st__law_cell) l0 c0 k0
 have b0:=F0.binds (ps:=["script","k"]) fun _ _ _ _ _ _=>us2 fun _ _=>rfl
 have F1:=fun_mk (st:=st__law_mix) l1 c1 k1
 have b1:=F1.binds (ps:=["cell","k"]) fun _ _ _ _ _ _=>us2 fun _ _=>rfl
 have F2:=fun_mk (st:=st__law_box) l2 c2 k2
 have b2:=F2.binds (ps:=["script","k"]) fun _ _ _ _ _ _=>us2 fun _ _=>rfl
 have F3:=fun_mk (st:=st__law_take) l3 c3 k3
 have b3:=F3.binds (ps:=["box","many"]) fun _ _ _ _ _ _=>us2 fun _ _=>rfl
 have F4:=fun_mk (st:=st__law_row) l4 c4 k4
 have b4:=F4.binds (ps:=["box","most"]) fun _ _ _ _ _ _=>us2 fun _ _=>rfl
 have F5:=fun_mk (st:=st_is_whole) l5 c5 k5
 have b5:=F5.binds (ps:=["thing"]) fun _ _ _ _ _ _=>us1 fun _=>rfl
 have F6:=fun_mk (st:=st_is_row) l6 c6 k6
 have b6:=F6.binds (ps:=["thing"]) fun _ _ _ _ _ _=>us1 fun _=>rfl
 have F7:=fun_mk (st:=st_need_row) l7 c7 k7
 have b7:=F7.binds (ps:=["thing"]) fun _ _ _ _ _ _=>us1 fun _=>rfl
 have F8:=fun_mk (st:=st_are_parts) l8 c8 k8
 have b8:=F8.binds (ps:=["thing","row"]) fun _ _ _ _ _ _=>us2 fun _ _=>rfl
 have F9:=fun_mk (st:=st_are_signs) l9 c9 k9
 have b9:=F9.binds (ps:=["thing","row"]) fun _ _ _ _ _ _=>us2 fun _ _=>rfl
 have F10:=fun_mk (st:=st_need_parts) l10 c10 k10
 have b10:=F10.binds (ps:=["row","thing"]) fun _ _ _ _ _ _=>us2 fun _ _=>rfl
 have F11:=fun_mk (st:=st_kept) l11 c11 k11
 have b11:=F11.binds (ps:=["row","parts"]) fun _ _ _ _ _ _=>us2 fun _ _=>rfl
 have F12:=fun_mk (st:=st_lots) l12 c12 k12
 have b12:=F12.binds (ps:=["row","parts"]) fun _ _ _ _ _ _=>us2 fun _ _=>rfl
 have F13:=fun_mk (st:=st_show) l13 c13 k13
 have b13:=F13.binds (ps:=["row","parts"]) fun _ _ _ _ _ _=>us2 fun _ _=>rfl
 have F14:=fun_mk (st:=st_need_few) l14 c14 k14
 have b14:=F14.binds (ps:=["row"]) fun _ _ _ _ _ _=>us1 fun _=>rfl
 have F15:=fun_mk (st:=st_sign_table) l15 c15 k15
 have b15:=F15.binds (ps:=["row"]) fun _ _ _ _ _ _=>us1 fun _=>rfl
 have F16:=fun_mk (st:=st_total) l16 c16 k16
 have b16:=F16.binds (ps:=["row"]) fun _ _ _ _ _ _=>us1 fun _=>rfl
 have F17:=fun_mk (st:=st_turned) l17 c17 k17
 have b17:=F17.binds (ps:=["row","parts"]) fun _ _ _ _ _ _=>us2 fun _ _=>rfl
 have F18:=fun_mk (st:=st_worth) l18 c18 k18
 have b18:=F18.binds (ps:=["row","parts"]) fun _ _ _ _ _ _=>us2 fun _ _=>rfl
 have F19:=fun_mk (st:=st__law_first) l19 c19 k19
 have b19:=F19.binds (ps:=["kind","row"]) fun _ _ _ _ _ _=>us2 fun _ _=>rfl
 have F20:=fun_mk (st:=st_difference_signs) l20 c20 k20
 have b20:=F20.binds (ps:=["row"]) fun _ _ _ _ _ _=>us1 fun _=>rfl
 have F21:=fun_mk (st:=st_differences) l21 c21 k21
 have b21:=F21.binds (ps:=["row"]) fun _ _ _ _ _ _=>us1 fun _=>rfl
 have F22:=fun_mk (st:=st_need_row_and_number) l22 c22 k22
 have b22:=F22.binds (ps:=["row","number"]) fun _ _ _ _ _ _=>us2 fun _ _=>rfl
 have F23:=fun_mk (st:=st_above) l23 c23 k23
 have b23:=F23.binds (ps:=["row","number"]) fun _ _ _ _ _ _=>us2 fun _ _=>rfl
 have F24:=fun_mk (st:=st_unevenness) l24 c24 k24
 have b24:=F24.binds (ps:=["row"]) fun _ _ _ _ _ _=>us1 fun _=>rfl
 have F25:=fun_mk (st:=st_evenest) l25 c25 k25
 have b25:=F25.binds (ps:=["row"]) fun _ _ _ _ _ _=>us1 fun _=>rfl
 have F26:=fun_mk (st:=st_evenest_many) l26 c26 k26
 have b26:=F26.binds (ps:=["row"]) fun _ _ _ _ _ _=>us1 fun _=>rfl
 have F27:=fun_mk (st:=st_every_by_parts) l27 c27 k27
 have b27:=F27.binds (ps:=["row"]) fun _ _ _ _ _ _=>us1 fun _=>rfl
 have F28:=fun_mk (st:=st_every_by_signs) l28 c28 k28
 have b28:=F28.binds (ps:=["row"]) fun _ _ _ _ _ _=>us1 fun _=>rfl
 have F29:=fun_mk (st:=st_uneven_bound) l29 c29 k29
 have b29:=F29.binds (ps:=["thing","row"]) fun _ _ _ _ _ _=>us2 fun _ _=>rfl
 have F30:=fun_mk (st:=st_uneven_paper) l30 c30 k30
 have b30:=F30.binds (ps:=["row"]) fun _ _ _ _ _ _=>us1 fun _=>rfl
 have F31:=fun_mk (st:=st__law_fourth) l31 c31 k31
 have b31:=F31.binds (ps:=["kind","row"]) fun _ _ _ _ _ _=>us2 fun _ _=>rfl
 have F32:=fun_mk (st:=st_missed_by_parts) l32 c32 k32
 have b32:=F32.binds (ps:=["row"]) fun _ _ _ _ _ _=>us1 fun _=>rfl
 have F33:=fun_mk (st:=st_missed_by_signs) l33 c33 k33
 have b33:=F33.binds (ps:=["row"]) fun _ _ _ _ _ _=>us1 fun _=>rfl
 have F34:=fun_mk (st:=st_weighed) l34 c34 k34
 have b34:=F34.binds (ps:=["row","number"]) fun _ _ _ _ _ _=>us2 fun _ _=>rfl
 have F35:=fun_mk (st:=st__law_last) l35 c35 k35
 have b35:=F35.binds (ps:=["kind","row"]) fun _ _ _ _ _ _=>us2 fun _ _=>rfl
 have F36:=fun_mk (st:=st__law_marks) l36 c36 k36
 have b36:=F36.binds (ps:=["e"]) fun _ _ _ _ _ _=>us1 fun _=>rfl
 have F37:=fun_mk (st:=st_need_few_and_number) l37 c37 k37
 have b37:=F37.binds (ps:=["row","number"]) fun _ _ _ _ _ _=>us2 fun _ _=>rfl
 have F38:=fun_mk (st:=st_is_barred) l38 c38 k38
 have b38:=F38.binds (ps:=["thing","row","number"]) fun _ _ _ _ _ _=>us3 fun _ _ _=>rfl
 have F39:=fun_mk (st:=st_is_wide_barred) l39 c39 k39
 have b39:=F39.binds (ps:=["thing","row","number"]) fun _ _ _ _ _ _=>us3 fun _ _ _=>rfl
 have F40:=fun_mk (st:=st_layers_for) l40 c40 k40
 have b40:=F40.binds (ps:=["row","number"]) fun _ _ _ _ _ _=>us2 fun _ _=>rfl
 have F41:=fun_mk (st:=st_part_table) l41 c41 k41
 have b41:=F41.binds (ps:=["row"]) fun _ _ _ _ _ _=>us1 fun _=>rfl
 have F42:=fun_mk (st:=st_part_ways) l42 c42 k42
 have b42:=F42.binds (ps:=["row","number"]) fun _ _ _ _ _ _=>us2 fun _ _=>rfl
 have F43:=fun_mk (st:=st_parts_to) l43 c43 k43
 have b43:=F43.binds (ps:=["row","number"]) fun _ _ _ _ _ _=>us2 fun _ _=>rfl
 have F44:=fun_mk (st:=st_sign_ways) l44 c44 k44
 have b44:=F44.binds (ps:=["row","number"]) fun _ _ _ _ _ _=>us2 fun _ _=>rfl
 have F45:=fun_mk (st:=st_signs_to) l45 c45 k45
 have b45:=F45.binds (ps:=["row","number"]) fun _ _ _ _ _ _=>us2 fun _ _=>rfl
 have F46:=fun_mk (st:=st_wide_layers_for) l46 c46 k46
 have b46:=F46.binds (ps:=["row","number"]) fun _ _ _ _ _ _=>us2 fun _ _=>rfl
 have F47:=fun_mk (st:=st__law_second) l47 c47 k47
 have b47:=F47.binds (ps:=["kind","row"]) fun _ _ _ _ _ _=>us2 fun _ _=>rfl
 have F48:=fun_mk (st:=st_below) l48 c48 k48
 have b48:=F48.binds (ps:=["row","number"]) fun _ _ _ _ _ _=>us2 fun _ _=>rfl
 have F49:=fun_mk (st:=st_first_met) l49 c49 k49
 have b49:=F49.binds (ps:=["row","number"]) fun _ _ _ _ _ _=>us2 fun _ _=>rfl
 have F50:=fun_mk (st:=st_half_worths) l50 c50 k50
 have b50:=F50.binds (ps:=["row"]) fun _ _ _ _ _ _=>us1 fun _=>rfl
 have F51:=fun_mk (st:=st_is_rest) l51 c51 k51
 have b51:=F51.binds (ps:=["thing","row","number"]) fun _ _ _ _ _ _=>us3 fun _ _ _=>rfl
 have F52:=fun_mk (st:=st_is_stair) l52 c52 k52
 have b52:=F52.binds (ps:=["thing","row","number"]) fun _ _ _ _ _ _=>us3 fun _ _ _=>rfl
 have F53:=fun_mk (st:=st_many_met) l53 c53 k53
 have b53:=F53.binds (ps:=["row","number"]) fun _ _ _ _ _ _=>us2 fun _ _=>rfl
 have F54:=fun_mk (st:=st_rest_for) l54 c54 k54
 have b54:=F54.binds (ps:=["row","number"]) fun _ _ _ _ _ _=>us2 fun _ _=>rfl
 have F55:=fun_mk (st:=st_stair_for) l55 c55 k55
 have b55:=F55.binds (ps:=["row","number"]) fun _ _ _ _ _ _=>us2 fun _ _=>rfl
 have F56:=fun_mk (st:=st__law_third) l56 c56 k56
 have b56:=F56.binds (ps:=["kind","row"]) fun _ _ _ _ _ _=>us2 fun _ _=>rfl
 have F57:=fun_mk (st:=st__law_said) l57 c57 k57
 have b57:=F57.binds (ps:=["part","kind","row"]) fun _ _ _ _ _ _=>us3 fun _ _ _=>rfl
 have F58:=fun_mk (st:=st_law) l58 c58 k58
 have b58:=F58.binds (ps:=["script"]) fun _ _ _ _ _ _=>us1 fun _=>rfl
 refine ⟨PySem.W.fnOf "law" "law" (defArgs st_law) (defBody st_law) (defScope st_law) .none kV58 dc58 pm58 an58 cd58 ct58,fun s v=>.of_eq rfl,fun base _ _=>?_⟩
 have d__law_cell:DefN P w K mg base "_law_cell" 1 2 F__law_cell:=ok__law_cell F0 (PySem.W.mg_of X G a0) b0 T
 have d__law_mix:DefN P w K mg base "_law_mix" 1 2 F__law_mix:=ok__law_mix F1 (PySem.W.mg_of X G a1) b1 T
 have d__law_box:DefN P w K mg base "_law_box" 2 2 F__law_box:=ok__law_box F2 (PySem.W.mg_of X G a2) b2 T d__law_cell d__law_mix
 have d__law_take:DefN P w K mg base "_law_take" 1 2 F__law_take:=ok__law_take F3 (PySem.W.mg_of X G a3) b3 T
 have d__law_row:DefN P w K mg base "_law_row" 2 2 F__law_row:=ok__law_row F4 (PySem.W.mg_of X G a4) b4 T d__law_take
 have d_is_whole:DefN P w K mg base "is_whole" 1 1 F_is_whole:=ok_is_whole F5 (PySem.W.mg_of X G a5) b5 T
 have d_is_row:DefN P w K mg base "is_row" 2 1 F_is_row:=ok_is_row F6 (PySem.W.mg_of X G a6) b6 T d_is_whole
 have d_need_row:DefR P w K mg base "need_row" 3 1 F_need_row:=ok_need_row F7 (PySem.W.mg_of X G a7) b7 T d_is_row
 have d_are_parts:DefR P w K mg base "are_parts" 4 2 F_are_parts:=ok_are_parts F8 (PySem.W.mg_of X G a8) b8 T d_need_row
 have d_are_signs:DefR P w K mg base "are_signs" 4 2 F_are_signs:=ok_are_signs F9 (PySem.W.mg_of X G a9) b9 T d_need_row
 have d_need_parts:DefR P w K mg base "need_parts" 5 2 F_need_parts:=ok_need_parts F10 (PySem.W.mg_of X G a10) b10 T d_are_parts
 have d_kept:DefR P w K mg base "kept" 6 2 F_kept:=ok_kept F11 (PySem.W.mg_of X G a11) b11 T d_need_parts
 have d_lots:DefR P w K mg base "lots" 6 2 F_lots:=ok_lots F12 (PySem.W.mg_of X G a12) b12 T d_need_parts
 have d_show:DefR P w K mg base "show" 6 2 F_show:=ok_show F13 (PySem.W.mg_of X G a13) b13 T d_need_parts
 have d_need_few:DefR P w K mg base "need_few" 4 1 F_need_few:=ok_need_few F14 (PySem.W.mg_of X G a14) b14 T d_need_row
 have d_sign_table:DefR P w K mg base "sign_table" 5 1 F_sign_table:=ok_sign_table F15 (PySem.W.mg_of X G a15) b15 T d_need_few
 have d_total:DefR P w K mg base "total" 4 1 F_total:=ok_total F16 (PySem.W.mg_of X G a16) b16 T d_need_row
 have d_turned:DefR P w K mg base "turned" 6 2 F_turned:=ok_turned F17 (PySem.W.mg_of X G a17) b17 T d_need_parts
 have d_worth:DefR P w K mg base "worth" 6 2 F_worth:=ok_worth F18 (PySem.W.mg_of X G a18) b18 T d_need_parts
 have d__law_first:DefR P w K mg base "_law_first" 7 2 F__law_first:=ok__law_first F19 (PySem.W.mg_of X G a19) b19 T d_are_parts d_are_signs d_kept d_lots d_show d_sign_table d_total d_turned d_worth
 have d_difference_signs:DefR P w K mg base "difference_signs" 4 1 F_difference_signs:=ok_difference_signs F20 (PySem.W.mg_of X G a20) b20 T d_need_row
 have d_differences:DefR P w K mg base "differences" 4 1 F_differences:=ok_differences F21 (PySem.W.mg_of X G a21) b21 T d_need_row
 have d_need_row_and_number:DefR P w K mg base "need_row_and_number" 4 2 F_need_row_and_number:=ok_need_row_and_number F22 (PySem.W.mg_of X G a22) b22 T d_need_row
 have d_above:DefR P w K mg base "above" 5 2 F_above:=ok_above F23 (PySem.W.mg_of X G a23) b23 T d_need_row_and_number
 have d_unevenness:DefR P w K mg base "unevenness" 6 1 F_unevenness:=ok_unevenness F24 (PySem.W.mg_of X G a24) b24 T d_above
 have d_evenest:DefR P w K mg base "evenest" 7 1 F_evenest:=ok_evenest F25 (PySem.W.mg_of X G a25) b25 T d_unevenness
 have d_evenest_many:DefR P w K mg base "evenest_many" 7 1 F_evenest_many:=ok_evenest_many F26 (PySem.W.mg_of X G a26) b26 T d_unevenness
 have d_every_by_parts:DefR P w K mg base "every_by_parts" 4 1 F_every_by_parts:=ok_every_by_parts F27 (PySem.W.mg_of X G a27) b27 T d_need_row
 have d_every_by_signs:DefR P w K mg base "every_by_signs" 4 1 F_every_by_signs:=ok_every_by_signs F28 (PySem.W.mg_of X G a28) b28 T d_need_row
 have d_uneven_bound:DefR P w K mg base "uneven_bound" 5 2 F_uneven_bound:=ok_uneven_bound F29 (PySem.W.mg_of X G a29) b29 T d_need_few
 have d_uneven_paper:DefR P w K mg base "uneven_paper" 5 1 F_uneven_paper:=ok_uneven_paper F30 (PySem.W.mg_of X G a30) b30 T d_need_few
 have d__law_fourth:DefR P w K mg base "_law_fourth" 8 2 F__law_fourth:=ok__law_fourth F31 (PySem.W.mg_of X G a31) b31 T d_difference_signs d_differences d_evenest d_evenest_many d_every_by_parts d_every_by_signs d_uneven_bound d_uneven_paper d_unevenness
 have d_missed_by_parts:DefR P w K mg base "missed_by_parts" 4 1 F_missed_by_parts:=ok_missed_by_parts F32 (PySem.W.mg_of X G a32) b32 T d_need_row
 have d_missed_by_signs:DefR P w K mg base "missed_by_signs" 4 1 F_missed_by_signs:=ok_missed_by_signs F33 (PySem.W.mg_of X G a33) b33 T d_need_row
 have d_weighed:DefR P w K mg base "weighed" 5 2 F_weighed:=ok_weighed F34 (PySem.W.mg_of X G a34) b34 T d_need_row_and_number
 have d__law_last:DefR P w K mg base "_law_last" 6 2 F__law_last:=ok__law_last F35 (PySem.W.mg_of X G a35) b35 T d_missed_by_parts d_missed_by_signs d_weighed
 have d__law_marks:DefM P w K mg base "_law_marks" 1 1 F__law_marks:=ok__law_marks F36 (PySem.W.mg_of X G a36) b36 T
 have d_need_few_and_number:DefR P w K mg base "need_few_and_number" 5 2 F_need_few_and_number:=ok_need_few_and_number F37 (PySem.W.mg_of X G a37) b37 T d_need_row_and_number
 have d_is_barred:DefR P w K mg base "is_barred" 6 3 F_is_barred:=ok_is_barred F38 (PySem.W.mg_of X G a38) b38 T d_need_few_and_number
 have d_is_wide_barred:DefR P w K mg base "is_wide_barred" 6 3 F_is_wide_barred:=ok_is_wide_barred F39 (PySem.W.mg_of X G a39) b39 T d_need_few_and_number
 have d_layers_for:DefR P w K mg base "layers_for" 6 2 F_layers_for:=ok_layers_for F40 (PySem.W.mg_of X G a40) b40 T d_need_few_and_number
 have d_part_table:DefR P w K mg base "part_table" 5 1 F_part_table:=ok_part_table F41 (PySem.W.mg_of X G a41) b41 T d_need_few
 have d_part_ways:DefR P w K mg base "part_ways" 6 2 F_part_ways:=ok_part_ways F42 (PySem.W.mg_of X G a42) b42 T d_need_few_and_number
 have d_parts_to:DefR P w K mg base "parts_to" 6 2 F_parts_to:=ok_parts_to F43 (PySem.W.mg_of X G a43) b43 T d_need_few_and_number
 have d_sign_ways:DefR P w K mg base "sign_ways" 6 2 F_sign_ways:=ok_sign_ways F44 (PySem.W.mg_of X G a44) b44 T d_need_few_and_number
 have d_signs_to:DefR P w K mg base "signs_to" 6 2 F_signs_to:=ok_signs_to F45 (PySem.W.mg_of X G a45) b45 T d_need_few_and_number
 have d_wide_layers_for:DefR P w K mg base "wide_layers_for" 6 2 F_wide_layers_for:=ok_wide_layers_for F46 (PySem.W.mg_of X G a46) b46 T d_need_few_and_number
 have d__law_second:DefR P w K mg base "_law_second" 7 2 F__law_second:=ok__law_second F47 (PySem.W.mg_of X G a47) b47 T d_is_barred d_is_wide_barred d_layers_for d_part_table d_part_ways d_parts_to d_sign_ways d_signs_to d_wide_layers_for
 have d_below:DefR P w K mg base "below" 5 2 F_below:=ok_below F48 (PySem.W.mg_of X G a48) b48 T d_need_row_and_number
 have d_first_met:DefR P w K mg base "first_met" 5 2 F_first_met:=ok_first_met F49 (PySem.W.mg_of X G a49) b49 T d_need_row_and_number
 have d_half_worths:DefR P w K mg base "half_worths" 4 1 F_half_worths:=ok_half_worths F50 (PySem.W.mg_of X G a50) b50 T d_need_row
 have d_is_rest:DefR P w K mg base "is_rest" 6 3 F_is_rest:=ok_is_rest F51 (PySem.W.mg_of X G a51) b51 T d_need_few_and_number
 have d_is_stair:DefR P w K mg base "is_stair" 5 3 F_is_stair:=ok_is_stair F52 (PySem.W.mg_of X G a52) b52 T d_need_row_and_number
 have d_many_met:DefR P w K mg base "many_met" 5 2 F_many_met:=ok_many_met F53 (PySem.W.mg_of X G a53) b53 T d_need_row_and_number
 have d_rest_for:DefR P w K mg base "rest_for" 6 2 F_rest_for:=ok_rest_for F54 (PySem.W.mg_of X G a54) b54 T d_need_few_and_number
 have d_stair_for:DefR P w K mg base "stair_for" 5 2 F_stair_for:=ok_stair_for F55 (PySem.W.mg_of X G a55) b55 T d_need_row_and_number
 have d__law_third:DefR P w K mg base "_law_third" 7 2 F__law_third:=ok__law_third F56 (PySem.W.mg_of X G a56) b56 T d_above d_below d_first_met d_half_worths d_is_rest d_is_stair d_many_met d_rest_for d_stair_for
 have d__law_said:DefN P w K mg base "_law_said" 9 3 F__law_said:=ok__law_said F57 (PySem.W.mg_of X G a57) b57 T d__law_first d__law_fourth d__law_last d__law_marks d__law_second d__law_third
 exact law_ofN ["script","k","box","row","some","lap","thing","part","kind"] ["script"] 9 10 1 9 rfl rfl rfl (m:=m_law) F58 sc_law fun cdv A outer s H E hr=>(ss_cons (ss_for PassesOwn.never rfl (si_range1 (by unfold Gl; kernel_rfl) T.b_range (sa_cons (se_callB (xc_max rfl) (by unfold Gl; kernel_rfl) T.b_max boo_max (sa_cons se_int (sa_cons (se_callB (xc_min rfl) (by unfold Gl; kernel_rfl) T.b_min boo_min (sa_cons (se_callB xc_len (by unfold Gl; kernel_rfl) T.b_len boo_len (sa_cons (se_var 0 (by kernel_rfl) (Or.inl (by kernel_rfl))) sa_nil)) (sa_cons se_int sa_nil))) sa_nil))) sa_nil)) (sg_name sc_law.nd (by kernel_rfl) (Or.inl (by kernel_rfl))) (ss_cons (ss_set sc_law.nd (by kernel_rfl) (Or.inl (by kernel_rfl)) (se_fnN d__law_box (hr.mono (by decide)) (by unfold Gl; kernel_rfl) (sa_cons (se_var 0 (by kernel_rfl) (Or.inl (by kernel_rfl))) (sa_cons (se_var 1 (by kernel_rfl) (Or.inl (by kernel_rfl))) sa_nil)) (alen_cons (alen_cons alen_nil)))) (ss_cons (ss_set sc_law.nd (by kernel_rfl) (Or.inl (by kernel_rfl)) (se_fnN d__law_row (hr.mono (by decide)) (by unfold Gl; kernel_rfl) (sa_cons (se_var 2 (by kernel_rfl) (Or.inl (by kernel_rfl))) (sa_cons se_int sa_nil)) (alen_cons (alen_cons alen_nil)))) (ss_cons (ss_set sc_law.nd (by kernel_rfl) (Or.inl (by kernel_rfl)) (se_lst (sa_cons se_non (sa_cons (se_callTy xc_list (by unfold Gl; kernel_rfl) T.b_list boo_list (sa_cons (se_var 3 (by kernel_rfl) (Or.inl (by kernel_rfl))) sa_nil)) (sa_cons (se_op xo_add (se_var 3 (by kernel_rfl) (Or.inl (by kernel_rfl))) (se_tup (sa_cons se_int sa_nil))) (sa_cons (se_op xo_add (se_tup (sa_cons (se_un xu_neg se_int) sa_nil)) (se_var 3 (by kernel_rfl) (Or.inl (by kernel_rfl)))) (sa_cons (se_op xo_add (se_var 3 (by kernel_rfl) (Or.inl (by kernel_rfl))) (se_tup (sa_cons se_bl sa_nil))) (sa_cons (se_op xo_mul (se_tup (sa_cons se_int sa_nil)) se_int) (sa_cons se_str (sa_cons se_int (sa_cons (se_op xo_add (se_var 3 (by kernel_rfl) (Or.inl (by kernel_rfl))) (se_tup (sa_cons se_str sa_nil))) (sa_cons se_dic0 (sa_cons (se_tup (sa_cons (se_var 3 (by kernel_rfl) (Or.inl (by kernel_rfl))) sa_nil)) sa_nil))))))))))))) (ss_cons (ss_set sc_law.nd (by kernel_rfl) (Or.inl (by kernel_rfl)) (se_op xo_add (se_var 4 (by kernel_rfl) (Or.inl (by kernel_rfl))) (se_lst (sa_cons (se_op xo_add (se_var 3 (by kernel_rfl) (Or.inl (by kernel_rfl))) (se_tup (sa_cons se_non sa_nil))) (sa_cons (se_lst (sa_cons (se_lst sa_nil) sa_nil)) (sa_cons se_bl sa_nil)))))) (ss_one (ss_for PassesOwn.never rfl (si_range1 (by unfold Gl; kernel_rfl) T.b_range (sa_cons se_int sa_nil)) (sg_name sc_law.nd (by kernel_rfl) (Or.inl (by kernel_rfl))) (ss_cons (ss_set sc_law.nd (by kernel_rfl) (Or.inl (by kernel_rfl)) (se_ix xi_ix (se_var 4 (by kernel_rfl) (Or.inl (by kernel_rfl))) (se_fnN d__law_take (hr.mono (by decide)) (by unfold Gl; kernel_rfl) (sa_cons (se_var 2 (by kernel_rfl) (Or.inl (by kernel_rfl))) (sa_cons se_int sa_nil)) (alen_cons (alen_cons alen_nil))))) (ss_one (ss_for PassesOwn.never rfl (si_range1 (by unfold Gl; kernel_rfl) T.b_range (sa_cons se_int sa_nil)) (sg_name sc_law.nd (by kernel_rfl) (Or.inl (by kernel_rfl))) (ss_one (ss_for PassesOwn.never rfl (si_range1 (by unfold Gl; kernel_rfl) T.b_range (sa_cons se_int sa_nil)) (sg_name sc_law.nd (by kernel_rfl) (Or.inl (by kernel_rfl))) (ss_one (ss_if (st_cmp (xo_neP hr) (se_fnN d__law_said (hr.mono (by decide)) (by unfold Gl; kernel_rfl) (sa_cons (se_var 7 (by kernel_rfl) (Or.inl (by kernel_rfl))) (sa_cons (se_var 8 (by kernel_rfl) (Or.inl (by kernel_rfl))) (sa_cons (se_var 6 (by kernel_rfl) (Or.inl (by kernel_rfl))) sa_nil))) (alen_cons (alen_cons (alen_cons alen_nil)))) se_str) (ss_one (ss_ret se_bl)) ss_nil)))))))))))))) (ss_one (ss_ret se_bl)))
theorem walk {l:PySem.W.OpenLaw} {q:Program} {loose:List Str} {XP:(Str→Option Value)→Heap→Prop} {YP:World→Heap→Prop} {d:DefRec} {K:Params→PySem.W.Frag} (hn:l.most=some 63) (hdf:d.params.defaults=[])
  (hY:∀ (w:World) (h:Heap),YP w h→(K w.params).In h)
  (F:∀ (w:World) (mg:Str→Option Value) (fa:Addr) (h:Heap),(K w.params).In h→h.Ns mainGlobals mg→mg d.name=some (.ref fa)→
   ∃ fd:FuncData,(∀ (s:Shared) (u:Value),BindsTo s fd ⟨[u],[]⟩ [("script",u)])∧∀ base:Heap,(K w.params).In base→base.Ns mainGlobals mg→FnOk l.prog w (K w.params) mg base (CX1 l.prog w) 10 fa fd ["script"] (spN (K w.params) 1 F_law)):
  PySem.W.WalkO q loose XP YP l.row.toRowW d [] (fun f vs=>PySem.call f vs):=
 L2.walk_of (n:=63) (k:=10) (x:="script") (CX:=fun w=>CX1 l.prog w) (sp:=fun w=>spN (K w.params) 1 F_law) hn (by decide) hdf ⟨rfl,by decide,by decide,rfl⟩ hY F (fun w H a ns hl ho hS=>law_spN law_true (K w.params) H a ns hl ho hS) fun _ _ _ _ _ z=>cx1_no z
end Lw
open PySem PySem.W PyProof.Rows
set_option maxRecDepth 100000 in
set_option maxHeartbeats 0 in
theorem PySem.Challenge.cw_plusless_k06_what_is_no_row_holds : PySem.Challenge.rw_plusless_k06_what_is_no_row.Holds := by
  w_on; o_law
  refine holds_open (q := Lw.hV) (loose := ["MARK_OF"]) (Xt := Lw.hX) (XP := XL Lw.hV []) (Yf := Hook.obs (kHook Lw.hK Lw.hA Lw.hKA)) (Ya := Hook.val (kHook Lw.hK Lw.hA Lw.hKA)) (YP := Hook.says (kHook Lw.hK Lw.hA Lw.hKA)) (N := 10800) Lw.left (Hook.of (kHook Lw.hK Lw.hA Lw.hKA)) (Hook.keeps (kHook Lw.hK Lw.hA Lw.hKA)) (fun s e => xl_of s (Bool.and_eq_true_iff.mp e).1) XL.keeps (by rfl) (by rfl) (by rfl) (fun s e => recFacts_of (Bool.and_eq_true_iff.mp e).2) (by rfl) (by first | assumption | decide +kernel) (by decide +kernel) ⟨rfl, rfl, rfl, rfl, rfl, by decide +kernel⟩ ?hw ?hc
  case hw => w_witness2
  k_fill
  refine Lw.walk (l := PySem.Challenge.rw_plusless_k06_what_is_no_row) rfl rfl (fun w h Y => by first | exact PySem.W.kIn_of Y | exact Y.1) ?F
  case F =>
    intro w mg fa h KX G hmg
    refine' Lw.all_mk KX G hmg ?a0 ?l0 ?c0 ?k0 ?a1 ?l1 ?c1 ?k1 ?a2 ?l2 ?c2 ?k2 ?a3 ?l3 ?c3 ?k3 ?a4 ?l4 ?c4 ?k4 ?a5 ?l5 ?c5 ?k5 ?a6 ?l6 ?c6 ?k6 ?a7 ?l7 ?c7 ?k7 ?a8 ?l8 ?c8 ?k8 ?a9 ?l9 ?c9 ?k9 ?a10 ?l10 ?c10 ?k10 ?a11 ?l11 ?c11 ?k11 ?a12 ?l12 ?c12 ?k12 ?a13 ?l13 ?c13 ?k13 ?a14 ?l14 ?c14 ?k14 ?a15 ?l15 ?c15 ?k15 ?a16 ?l16 ?c16 ?k16 ?a17 ?l17 ?c17 ?k17 ?a18 ?l18 ?c18 ?k18 ?a19 ?l19 ?c19 ?k19 ?a20 ?l20 ?c20 ?k20 ?a21 ?l21 ?c21 ?k21 ?a22 ?l22 ?c22 ?k22 ?a23 ?l23 ?c23 ?k23 ?a24 ?l24 ?c24 ?k24 ?a25 ?l25 ?c25 ?k25 ?a26 ?l26 ?c26 ?k26 ?a27 ?l27 ?c27 ?k27 ?a28 ?l28 ?c28 ?k28 ?a29 ?l29 ?c29 ?k29 ?a30 ?l30 ?c30 ?k30 ?a31 ?l31 ?c31 ?k31 ?a32 ?l32 ?c32 ?k32 ?a33 ?l33 ?c33 ?k33 ?a34 ?l34 ?c34 ?k34 ?a35 ?l35 ?c35 ?k35 ?a36 ?l36 ?c36 ?k36 ?a37 ?l37 ?c37 ?k37 ?a38 ?l38 ?c38 ?k38 ?a39 ?l39 ?c39 ?k39 ?a40 ?l40 ?c40 ?k40 ?a41 ?l41 ?c41 ?k41 ?a42 ?l42 ?c42 ?k42 ?a43 ?l43 ?c43 ?k43 ?a44 ?l44 ?c44 ?k44 ?a45 ?l45 ?c45 ?k45 ?a46 ?l46 ?c46 ?k46 ?a47 ?l47 ?c47 ?k47 ?a48 ?l48 ?c48 ?k48 ?a49 ?l49 ?c49 ?k49 ?a50 ?l50 ?c50 ?k50 ?a51 ?l51 ?c51 ?k51 ?a52 ?l52 ?c52 ?k52 ?a53 ?l53 ?c53 ?k53 ?a54 ?l54 ?c54 ?k54 ?a55 ?l55 ?c55 ?k55 ?a56 ?l56 ?c56 ?k56 ?a57 ?l57 ?c57 ?k57 ?a58 ?l58 ?c58 ?k58 ?z_ValueError ?z_abs ?z_all ?z_bool ?z_divmod ?z_int ?z_isinstance ?z_len ?z_list ?z_max ?z_min ?z_range ?z_tuple ?z_LONGEST_ROW ?gt ?tk ?n_Lacking ?n_NoNumber ?n_NoRow ?n_NoSigns ?n_NoText ?n_PlusError ?n_TooMany ?q_NoRow ?g1_NoRow ?g2_NoRow ?g3_NoRow ?m1_NoRow ?m2_NoRow ?cc_NoRow ?kv_NoRow ?ex_NoRow ?is_NoRow_Lacking ?is_NoRow_NoNumber ?is_NoRow_NoRow ?is_NoRow_NoSigns ?is_NoRow_NoText ?is_NoRow_PlusError ?is_NoRow_TooMany ?q_NoSigns ?g1_NoSigns ?g2_NoSigns ?g3_NoSigns ?m1_NoSigns ?m2_NoSigns ?cc_NoSigns ?kv_NoSigns ?ex_NoSigns ?is_NoSigns_Lacking ?is_NoSigns_NoNumber ?is_NoSigns_NoRow ?is_NoSigns_NoSigns ?is_NoSigns_NoText ?is_NoSigns_PlusError ?is_NoSigns_TooMany
    (case a0 => k_is)
    (case l0 => k_is)
    (case c0 => k_is)
    (case k0 => k_is)
    (case a1 => k_is)
    (case l1 => k_is)
    (case c1 => k_is)
    (case k1 => k_is)
    (case a2 => k_is)
    (case l2 => k_is)
    (case c2 => k_is)
    (case k2 => k_is)
    (case a3 => k_is)
    (case l3 => k_is)
    (case c3 => k_is)
    (case k3 => k_is)
    (case a4 => k_is)
    (case l4 => k_is)
    (case c4 => k_is)
    (case k4 => k_is)
    (case a5 => k_is)
    (case l5 => k_is)
    (case c5 => k_is)
    (case k5 => k_is)
    (case a6 => k_is)
    (case l6 => k_is)
    (case c6 => k_is)
    (case k6 => k_is)
    (case a7 => k_is)
    (case l7 => k_is)
    (case c7 => k_is)
    (case k7 => k_is)
    (case a8 => k_is)
    (case l8 => k_is)
    (case c8 => k_is)
    (case k8 => k_is)
    (case a9 => k_is)
    (case l9 => k_is)
    (case c9 => k_is)
    (case k9 => k_is)
    (case a10 => k_is)
    (case l10 => k_is)
    (case c10 => k_is)
    (case k10 => k_is)
    (case a11 => k_is)
    (case l11 => k_is)
    (case c11 => k_is)
    (case k11 => k_is)
    (case a12 => k_is)
    (case l12 => k_is)
    (case c12 => k_is)
    (case k12 => k_is)
    (case a13 => k_is)
    (case l13 => k_is)
    (case c13 => k_is)
    (case k13 => k_is)
    (case a14 => k_is)
    (case l14 => k_is)
    (case c14 => k_is)
    (case k14 => k_is)
    (case a15 => k_is)
    (case l15 => k_is)
    (case c15 => k_is)
    (case k15 => k_is)
    (case a16 => k_is)
    (case l16 => k_is)
    (case c16 => k_is)
    (case k16 => k_is)
    (case a17 => k_is)
    (case l17 => k_is)
    (case c17 => k_is)
    (case k17 => k_is)
    (case a18 => k_is)
    (case l18 => k_is)
    (case c18 => k_is)
    (case k18 => k_is)
    (case a19 => k_is)
    (case l19 => k_is)
    (case c19 => k_is)
    (case k19 => k_is)
    (case a20 => k_is)
    (case l20 => k_is)
    (case c20 => k_is)
    (case k20 => k_is)
    (case a21 => k_is)
    (case l21 => k_is)
    (case c21 => k_is)
    (case k21 => k_is)
    (case a22 => k_is)
    (case l22 => k_is)
    (case c22 => k_is)
    (case k22 => k_is)
    (case a23 => k_is)
    (case l23 => k_is)
    (case c23 => k_is)
    (case k23 => k_is)
    (case a24 => k_is)
    (case l24 => k_is)
    (case c24 => k_is)
    (case k24 => k_is)
    (case a25 => k_is)
    (case l25 => k_is)
    (case c25 => k_is)
    (case k25 => k_is)
    (case a26 => k_is)
    (case l26 => k_is)
    (case c26 => k_is)
    (case k26 => k_is)
    (case a27 => k_is)
    (case l27 => k_is)
    (case c27 => k_is)
    (case k27 => k_is)
    (case a28 => k_is)
    (case l28 => k_is)
    (case c28 => k_is)
    (case k28 => k_is)
    (case a29 => k_is)
    (case l29 => k_is)
    (case c29 => k_is)
    (case k29 => k_is)
    (case a30 => k_is)
    (case l30 => k_is)
    (case c30 => k_is)
    (case k30 => k_is)
    (case a31 => k_is)
    (case l31 => k_is)
    (case c31 => k_is)
    (case k31 => k_is)
    (case a32 => k_is)
    (case l32 => k_is)
    (case c32 => k_is)
    (case k32 => k_is)
    (case a33 => k_is)
    (case l33 => k_is)
    (case c33 => k_is)
    (case k33 => k_is)
    (case a34 => k_is)
    (case l34 => k_is)
    (case c34 => k_is)
    (case k34 => k_is)
    (case a35 => k_is)
    (case l35 => k_is)
    (case c35 => k_is)
    (case k35 => k_is)
    (case a36 => k_is)
    (case l36 => k_is)
    (case c36 => k_is)
    (case k36 => k_is)
    (case a37 => k_is)
    (case l37 => k_is)
    (case c37 => k_is)
    (case k37 => k_is)
    (case a38 => k_is)
    (case l38 => k_is)
    (case c38 => k_is)
    (case k38 => k_is)
    (case a39 => k_is)
    (case l39 => k_is)
    (case c39 => k_is)
    (case k39 => k_is)
    (case a40 => k_is)
    (case l40 => k_is)
    (case c40 => k_is)
    (case k40 => k_is)
    (case a41 => k_is)
    (case l41 => k_is)
    (case c41 => k_is)
    (case k41 => k_is)
    (case a42 => k_is)
    (case l42 => k_is)
    (case c42 => k_is)
    (case k42 => k_is)
    (case a43 => k_is)
    (case l43 => k_is)
    (case c43 => k_is)
    (case k43 => k_is)
    (case a44 => k_is)
    (case l44 => k_is)
    (case c44 => k_is)
    (case k44 => k_is)
    (case a45 => k_is)
    (case l45 => k_is)
    (case c45 => k_is)
    (case k45 => k_is)
    (case a46 => k_is)
    (case l46 => k_is)
    (case c46 => k_is)
    (case k46 => k_is)
    (case a47 => k_is)
    (case l47 => k_is)
    (case c47 => k_is)
    (case k47 => k_is)
    (case a48 => k_is)
    (case l48 => k_is)
    (case c48 => k_is)
    (case k48 => k_is)
    (case a49 => k_is)
    (case l49 => k_is)
    (case c49 => k_is)
    (case k49 => k_is)
    (case a50 => k_is)
    (case l50 => k_is)
    (case c50 => k_is)
    (case k50 => k_is)
    (case a51 => k_is)
    (case l51 => k_is)
    (case c51 => k_is)
    (case k51 => k_is)
    (case a52 => k_is)
    (case l52 => k_is)
    (case c52 => k_is)
    (case k52 => k_is)
    (case a53 => k_is)
    (case l53 => k_is)
    (case c53 => k_is)
    (case k53 => k_is)
    (case a54 => k_is)
    (case l54 => k_is)
    (case c54 => k_is)
    (case k54 => k_is)
    (case a55 => k_is)
    (case l55 => k_is)
    (case c55 => k_is)
    (case k55 => k_is)
    (case a56 => k_is)
    (case l56 => k_is)
    (case c56 => k_is)
    (case k56 => k_is)
    (case a57 => k_is)
    (case l57 => k_is)
    (case c57 => k_is)
    (case k57 => k_is)
    (case a58 => k_is)
    (case l58 => k_is)
    (case c58 => k_is)
    (case k58 => k_is)
    (case z_ValueError => k_is)
    (case z_abs => k_is)
    (case z_all => k_is)
    (case z_bool => k_is)
    (case z_divmod => k_is)
    (case z_int => k_is)
    (case z_isinstance => k_is)
    (case z_len => k_is)
    (case z_list => k_is)
    (case z_max => k_is)
    (case z_min => k_is)
    (case z_range => k_is)
    (case z_tuple => k_is)
    (case z_LONGEST_ROW => k_is)
    (case gt => k_is)
    (case tk => k_is)
    (case n_Lacking => k_is)
    (case n_NoNumber => k_is)
    (case n_NoRow => k_is)
    (case n_NoSigns => k_is)
    (case n_NoText => k_is)
    (case n_PlusError => k_is)
    (case n_TooMany => k_is)
    (case q_NoRow => k_exc)
    (case g1_NoRow => k_is)
    (case g2_NoRow => k_is)
    (case g3_NoRow => k_is)
    (case m1_NoRow => k_is)
    (case m2_NoRow => k_is)
    (case cc_NoRow => k_is)
    (case kv_NoRow => kit_is)
    (case ex_NoRow => kts_exm)
    (case is_NoRow_Lacking => kit_is)
    (case is_NoRow_NoNumber => kit_is)
    (case is_NoRow_NoRow => kit_is)
    (case is_NoRow_NoSigns => kit_is)
    (case is_NoRow_NoText => kit_is)
    (case is_NoRow_PlusError => kit_is)
    (case is_NoRow_TooMany => kit_is)
    (case q_NoSigns => k_exc)
    (case g1_NoSigns => k_is)
    (case g2_NoSigns => k_is)
    (case g3_NoSigns => k_is)
    (case m1_NoSigns => k_is)
    (case m2_NoSigns => k_is)
    (case cc_NoSigns => k_is)
    (case kv_NoSigns => kit_is)
    (case ex_NoSigns => kts_exm)
    (case is_NoSigns_Lacking => kit_is)
    (case is_NoSigns_NoNumber => kit_is)
    (case is_NoSigns_NoRow => kit_is)
    (case is_NoSigns_NoSigns => kit_is)
    (case is_NoSigns_NoText => kit_is)
    (case is_NoSigns_PlusError => kit_is)
    (case is_NoSigns_TooMany => kit_is)
