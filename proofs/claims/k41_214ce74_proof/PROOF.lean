import PyProof.Rows.All
import Wide.All
import OpenK.AllK
import Wide.FinOn
import PyProof.EqAt
import PyProof.EqKinds
import PyProof.TupleCall
import Lean
import PyProof.CompFree
import PyProof.IsInstanceH
import PyProof.IsiPairs
import PyProof.ConsumeWalk
import PyProof.IsiNone
import KE.KIntText
import PyProof.Rows.EqDataRows
import PyProof.RangeIter
import PyProof.ZipIter
import PyProof.EnumMake
import PyProof.WalksEnum
import PyProof.Rows.ZipGen
import PyProof.Rows.SortWalk
import KE.KEqDict
import KE.KDictLaws
import PyProof.Rows.SumAny
import PyProof.Rows.FStr
import PyProof.ListRange
import PyProof.DictWalks
import PyProof.DictCopy
import KE.KDictOf
import PyProof.Rows.StrRev
import PyProof.ListStr
import KE.KRevSl
import KE.KLam
import PyProof.Rows.SetFrom
import PyProof.SetRoads
import KE.KNestM
import PyProof.StrLawsIdx
import PyProof.TupleKey
import PyProof.StrLoop
import PyProof.StrWalks
import PyProof.StrLawsChain
import PyProof.FitsReplace
import PyProof.MeetsStr2
import KE.KRevIter
import PyProof.DictUpdate
import PyProof.AttrMissHeap
import PyProof.StrLawsIn
import PyProof.StrLawsTight
import KE.KTryMore
import PyProof.ExcClass2
import PyProof.ExcInit
import PyProof.InstStoreFacts
import PyProof.ExcBaseAll.ValueError
import PyProof.RulesAs
import PyProof.NsDelKeeps
import OpenK.KRaise
import PyProof.ExcArgs
import PyProof.Rows.SeqMore2
import PySem.Challenge.RW_ownbeat_k41_framed_and_apart
set_option Elab.async false
set_option linter.all false
set_option maxRecDepth 100000
set_option maxHeartbeats 4000000
section
namespace KH
open PySem PySem.W
abbrev Pw:Program:=PySem.Challenge.pw_ownbeat_k41_framed_and_apart
abbrev Rw:OpenLaw:=PySem.Challenge.rw_ownbeat_k41_framed_and_apart
abbrev tp (i:Nat):Stmt:=Pw.main.body.getD i (.Pass ⟨0,0,0,0⟩)
abbrev cm:Stmt->Nat->Stmt
 | .ClassDef _ _ _ body _ _ _ _ _ _ _,i=>body.getD i (.Pass ⟨0,0,0,0⟩)
 | s,_=>s
abbrev dA (s:Stmt):Arguments:=match s with
 | .FunctionDef _ a _ _ _ _ _ _ _ _=>a
 | _=>{ posonlyargs:=[],args:=[],vararg:=none,kwonlyargs:=[],kw_defaults:=[],kwarg:=none,defaults:=[] }
abbrev dB (s:Stmt):List Stmt:=match s with
 | .FunctionDef _ _ b _ _ _ _ _ _ _=>b
 | _=>[]
abbrev dS (s:Stmt):Scope:=match s with
 | .FunctionDef _ _ _ _ _ _ sc _ _ _=>sc
 | _=>{ kind:=.function,names:=[],isGenerator:=false,isCoroutine:=false }
abbrev en (P:Params) (k:Str) (t:Nat) (v:Value):DictEntry:=⟨PyData.keyHash P k,.str k t,v⟩
abbrev tu (l:List Value):Obj:=⟨.type "tuple",none,.seq l.toArray 0,#[]⟩
abbrev di (l:List DictEntry):Obj:=⟨.type "dict",none,.dict l.toArray 0,#[]⟩
abbrev co (n:Str) (t1:Nat) (q:Str) (t2 t3:Nat) (l c:Int) (a b:Nat) (x y:Value) (z:Nat) (d:Int) (t4:Nat):Obj:=⟨.type "code",none,.fields #[.str n t1,.str q t2,.str "/claim/cut.py" t3,.int l 0,.int c 0,.int 0 0,.int 0 0,.int 3 0,.ref a,.bool true,.int 181 0,.ref b,.none,x,y,.ref z,.int d 0,.int l 0,.str "/claim/cut.py" t4],#[]⟩
abbrev fu (n q:Str) (st:Stmt) (m:Str) (t c:Nat):Obj:=⟨.type "function",none,.func ⟨n,q,dA st,.stmts (dB st),dS st,3,[],.none,.none,.none,.str m t,none,.ref c,.none,0⟩,#[]⟩
abbrev cl (n:Str) (self ns a t1 t2:Nat):Obj:=⟨.type "type",none,.cls ⟨n,[.ref 24],[.ref self,.ref 24,.type "ValueError",.type "Exception",.type "BaseException",.type "object"],ns,n,true,[],[],false,none,false⟩,#[some (.ref a),none,some (.str n t1),some (.str n t2),some (.builtin "ValueError.__new__"),some (.bool true)]⟩
noncomputable def K (P:Params):Frag:=
 (nat_lit 2,⟨.none,none,.dict #[],#[]⟩) ::
 (nat_lit 3,⟨.type "dict",none,.dict #[en P "__name__" 165 (.str "law_ownbeat_k41_framed_and_apart" 492),en P "__doc__" 166 (.none),en P "__package__" 167 (.none),en P "__loader__" 168 (.builtin "__main__.__loader__#opaque"),en P "__spec__" 169 (.none),en P "__annotations__" 170 (.ref 6),en P "__builtins__" 171 (.ref 4),en P "__file__" 173 (.str "/claim/cut.py" 172),en P "__cached__" 174 (.none),en P "BeatError" 206 (.ref 24),en P "NoLetter" 222 (.ref 37),en P "NoCode" 238 (.ref 49),en P "NoWire" 263 (.ref 68),en P "NoWindow" 279 (.ref 80),en P "NoMark" 295 (.ref 92),en P "NoText" 311 (.ref 104),en P "NoName" 327 (.ref 116),en P "NoRow" 343 (.ref 128),en P "is_whole" 352 (.ref 137),en P "is_letter" 360 (.ref 144),en P "is_letter_list" 366 (.ref 149),en P "all_signs" 372 (.ref 154),en P "texts_from" 386 (.ref 161),en P "sent" 400 (.ref 168),en P "LONGEST" 404 (.int 8 403),en P "is_mark" 412 (.ref 175),en P "marks" 418 (.ref 180),en P "standing" 432 (.ref 187),en P "tails_behind" 443 (.ref 194),en P "tail_steps" 456 (.ref 201),en P "is_clean" 462 (.ref 206),en P "framed" 473 (.ref 213),en P "refuse_unclean" 481 (.ref 220),en P "apart" 491 (.ref 227),en P "_law_cell" 501 (.ref 234),en P "_law_mixed" 510 (.ref 241),en P "_law_known" 518 (.ref 248),en P "_law_code" 536 (.ref 255),en P "_law_come_to" 547 (.ref 262),en P "_law_copy" 553 (.ref 267),en P "_law_wire" 565 (.ref 274),en P "_law_parts" 576 (.ref 281),en P "_law_told" 590 (.ref 288),en P "_law_mark" 596 (.ref 293),en P "_law_not_clean" 607 (.ref 300),en P "_law_spoilt" 617 (.ref 307),en P "_law_refused" 628 (.ref 314),en P "law" 634 (.ref 319)] 48,#[]⟩) ::
 (nat_lit 15,tu [.type "ValueError"]) ::
 (nat_lit 22,tu []) ::
 (nat_lit 23,⟨.type "dict",none,.dict #[en P "__module__" 196 (.str "ownbeat.errors" 187),en P "__firstlineno__" 200 (.int 2 199),en P "__static_attributes__" 201 (.ref 22),en P "__weakref__" 203 (.ref 25),en P "__doc__" 204 (.none)] 3,#[]⟩) ::
 (nat_lit 24,⟨.type "type",none,.cls ⟨"BeatError",[.type "ValueError"],[.ref 24,.type "ValueError",.type "Exception",.type "BaseException",.type "object"],23,"BeatError",true,[],[.ref 37,.ref 49,.ref 68,.ref 80,.ref 92,.ref 104,.ref 116,.ref 128],false,none,false⟩,#[some (.ref 15),none,some (.str "BeatError" 189),some (.str "BeatError" 197),some (.builtin "ValueError.__new__"),some (.bool true)]⟩) ::
 (nat_lit 25,⟨.type "getset_descriptor",none,.fields #[.str "__weakref__" 202,.ref 24,.builtin "ExceptionGroup.__weakref__",.none],#[]⟩) ::
 (nat_lit 28,tu [.ref 24]) ::
 (nat_lit 35,tu []) ::
 (nat_lit 36,⟨.type "dict",none,.dict #[en P "__module__" 214 (.str "ownbeat.errors" 187),en P "__firstlineno__" 218 (.int 4 217),en P "__static_attributes__" 219 (.ref 35),en P "__doc__" 220 (.none)] 2,#[]⟩) ::
 (nat_lit 37,cl "NoLetter" 37 36 28 207 215) ::
 (nat_lit 40,tu [.ref 24]) ::
 (nat_lit 47,tu []) ::
 (nat_lit 48,⟨.type "dict",none,.dict #[en P "__module__" 230 (.str "ownbeat.errors" 187),en P "__firstlineno__" 234 (.int 6 233),en P "__static_attributes__" 235 (.ref 47),en P "__doc__" 236 (.none)] 2,#[]⟩) ::
 (nat_lit 49,cl "NoCode" 49 48 40 223 231) ::
 (nat_lit 52,tu [.ref 24]) ::
 (nat_lit 59,tu []) ::
 (nat_lit 61,tu [.str "self" 254,.str "at" 255]) ::
 (nat_lit 62,tu []) ::
 (nat_lit 64,co "__init__" 251 "NoWire.__init__" 252 253 10 2 59 60 (.ref 61) (.ref 62) 63 256 257) ::
 (nat_lit 65,fu "__init__" "NoWire.__init__" (cm (tp 4) 0) "ownbeat.errors" 187 64) ::
 (nat_lit 66,tu [.str "at" 259]) ::
 (nat_lit 67,⟨.type "dict",none,.dict #[en P "__module__" 246 (.str "ownbeat.errors" 187),en P "__firstlineno__" 250 (.int 8 249),en P "__init__" 258 (.ref 65),en P "__static_attributes__" 260 (.ref 66),en P "__doc__" 261 (.none)] 2,#[]⟩) ::
 (nat_lit 68,cl "NoWire" 68 67 52 239 247) ::
 (nat_lit 71,tu [.ref 24]) ::
 (nat_lit 78,tu []) ::
 (nat_lit 79,⟨.type "dict",none,.dict #[en P "__module__" 271 (.str "ownbeat.errors" 187),en P "__firstlineno__" 275 (.int 13 274),en P "__static_attributes__" 276 (.ref 78),en P "__doc__" 277 (.none)] 2,#[]⟩) ::
 (nat_lit 80,cl "NoWindow" 80 79 71 264 272) ::
 (nat_lit 83,tu [.ref 24]) ::
 (nat_lit 90,tu []) ::
 (nat_lit 91,⟨.type "dict",none,.dict #[en P "__module__" 287 (.str "ownbeat.errors" 187),en P "__firstlineno__" 291 (.int 15 290),en P "__static_attributes__" 292 (.ref 90),en P "__doc__" 293 (.none)] 2,#[]⟩) ::
 (nat_lit 92,cl "NoMark" 92 91 83 280 288) ::
 (nat_lit 95,tu [.ref 24]) ::
 (nat_lit 102,tu []) ::
 (nat_lit 103,⟨.type "dict",none,.dict #[en P "__module__" 303 (.str "ownbeat.errors" 187),en P "__firstlineno__" 307 (.int 17 306),en P "__static_attributes__" 308 (.ref 102),en P "__doc__" 309 (.none)] 2,#[]⟩) ::
 (nat_lit 104,cl "NoText" 104 103 95 296 304) ::
 (nat_lit 107,tu [.ref 24]) ::
 (nat_lit 114,tu []) ::
 (nat_lit 115,⟨.type "dict",none,.dict #[en P "__module__" 319 (.str "ownbeat.errors" 187),en P "__firstlineno__" 323 (.int 19 322),en P "__static_attributes__" 324 (.ref 114),en P "__doc__" 325 (.none)] 2,#[]⟩) ::
 (nat_lit 116,cl "NoName" 116 115 107 312 320) ::
 (nat_lit 119,tu [.ref 24]) ::
 (nat_lit 126,tu []) ::
 (nat_lit 127,⟨.type "dict",none,.dict #[en P "__module__" 335 (.str "ownbeat.errors" 187),en P "__firstlineno__" 339 (.int 21 338),en P "__static_attributes__" 340 (.ref 126),en P "__doc__" 341 (.none)] 2,#[]⟩) ::
 (nat_lit 128,cl "NoRow" 128 127 119 328 336) ::
 (nat_lit 131,tu []) ::
 (nat_lit 133,tu [.str "thing" 349]) ::
 (nat_lit 134,tu []) ::
 (nat_lit 136,co "is_whole" 346 "is_whole" 347 348 24 1 131 132 (.ref 133) (.ref 134) 135 350 351) ::
 (nat_lit 137,fu "is_whole" "is_whole" (tp 11) "ownbeat.walks" 344 136) ::
 (nat_lit 138,tu []) ::
 (nat_lit 140,tu [.str "k" 356,.str "thing" 357]) ::
 (nat_lit 141,tu []) ::
 (nat_lit 143,co "is_letter" 353 "is_letter" 354 355 26 2 138 139 (.ref 140) (.ref 141) 142 358 359) ::
 (nat_lit 144,fu "is_letter" "is_letter" (tp 12) "ownbeat.walks" 344 143) ::
 (nat_lit 145,tu []) ::
 (nat_lit 148,co "is_letter_list" 361 "is_letter_list" 362 363 28 2 145 146 (.none) (.none) 147 364 365) ::
 (nat_lit 149,fu "is_letter_list" "is_letter_list" (tp 13) "ownbeat.walks" 344 148) ::
 (nat_lit 150,tu []) ::
 (nat_lit 153,co "all_signs" 367 "all_signs" 368 369 30 1 150 151 (.none) (.none) 152 370 371) ::
 (nat_lit 154,fu "all_signs" "all_signs" (tp 14) "ownbeat.walks" 344 153) ::
 (nat_lit 155,tu []) ::
 (nat_lit 157,tu [.str "start" 376,.str "steps" 377,.str "texts" 378,.str "queue" 379,.str "place" 380,.str "node" 381,.str "letter" 382,.str "to" 383]) ::
 (nat_lit 158,tu []) ::
 (nat_lit 160,co "texts_from" 373 "texts_from" 374 375 35 2 155 156 (.ref 157) (.ref 158) 159 384 385) ::
 (nat_lit 161,fu "texts_from" "texts_from" (tp 15) "ownbeat.walks" 344 160) ::
 (nat_lit 162,tu []) ::
 (nat_lit 164,tu [.str "code" 392,.str "state" 393,.str "text" 394,.str "words" 395,.str "letter" 396,.str "row" 397]) ::
 (nat_lit 165,tu []) ::
 (nat_lit 167,co "sent" 389 "sent" 390 391 48 3 162 163 (.ref 164) (.ref 165) 166 398 399) ::
 (nat_lit 168,fu "sent" "sent" (tp 17) "ownbeat.codes" 387 167) ::
 (nat_lit 169,tu []) ::
 (nat_lit 171,tu [.str "code" 408,.str "thing" 409]) ::
 (nat_lit 172,tu []) ::
 (nat_lit 174,co "is_mark" 405 "is_mark" 406 407 59 2 169 170 (.ref 171) (.ref 172) 173 410 411) ::
 (nat_lit 175,fu "is_mark" "is_mark" (tp 20) "ownbeat.marks" 401 174) ::
 (nat_lit 176,tu []) ::
 (nat_lit 179,co "marks" 413 "marks" 414 415 63 2 176 177 (.none) (.none) 178 416 417) ::
 (nat_lit 180,fu "marks" "marks" (tp 21) "ownbeat.marks" 401 179) ::
 (nat_lit 181,tu []) ::
 (nat_lit 183,tu [.str "code" 422,.str "length" 423,.str "found" 424,.str "tail" 425,.str "state" 426,.str "row" 427,.str "signs" 428,.str "place" 429]) ::
 (nat_lit 184,tu []) ::
 (nat_lit 186,co "standing" 419 "standing" 420 421 68 2 181 182 (.ref 183) (.ref 184) 185 430 431) ::
 (nat_lit 187,fu "standing" "standing" (tp 22) "ownbeat.marks" 401 186) ::
 (nat_lit 188,tu []) ::
 (nat_lit 190,tu [.str "code" 436,.str "start" 437,.str "keep" 438]) ::
 (nat_lit 191,tu [.str "code" 439,.str "keep" 440]) ::
 (nat_lit 193,co "tails_behind" 433 "tails_behind" 434 435 76 3 188 189 (.ref 190) (.ref 191) 192 441 442) ::
 (nat_lit 194,fu "tails_behind" "tails_behind" (tp 23) "ownbeat.marks" 401 193) ::
 (nat_lit 195,tu []) ::
 (nat_lit 197,tu [.str "code" 447,.str "node" 448,.str "keep" 449,.str "steps" 450,.str "letter" 451,.str "row" 452,.str "signs" 453]) ::
 (nat_lit 198,tu []) ::
 (nat_lit 200,co "tail_steps" 444 "tail_steps" 445 446 78 3 195 196 (.ref 197) (.ref 198) 199 454 455) ::
 (nat_lit 201,fu "tail_steps" "tail_steps" (tp 24) "ownbeat.marks" 401 200) ::
 (nat_lit 202,tu []) ::
 (nat_lit 205,co "is_clean" 457 "is_clean" 458 459 84 2 202 203 (.none) (.none) 204 460 461) ::
 (nat_lit 206,fu "is_clean" "is_clean" (tp 25) "ownbeat.marks" 401 205) ::
 (nat_lit 207,tu []) ::
 (nat_lit 209,tu [.str "code" 466,.str "mark" 467,.str "frames" 468,.str "parts" 469,.str "text" 470]) ::
 (nat_lit 210,tu []) ::
 (nat_lit 212,co "framed" 463 "framed" 464 465 93 3 207 208 (.ref 209) (.ref 210) 211 471 472) ::
 (nat_lit 213,fu "framed" "framed" (tp 26) "ownbeat.marks" 401 212) ::
 (nat_lit 214,tu []) ::
 (nat_lit 216,tu [.str "code" 477,.str "mark" 478]) ::
 (nat_lit 217,tu []) ::
 (nat_lit 219,co "refuse_unclean" 474 "refuse_unclean" 475 476 102 2 214 215 (.ref 216) (.ref 217) 218 479 480) ::
 (nat_lit 220,fu "refuse_unclean" "refuse_unclean" (tp 27) "ownbeat.marks" 401 219) ::
 (nat_lit 221,tu []) ::
 (nat_lit 223,tu [.str "code" 485,.str "mark" 486,.str "wire" 487,.str "parts" 488]) ::
 (nat_lit 224,tu []) ::
 (nat_lit 226,co "apart" 482 "apart" 483 484 105 3 221 222 (.ref 223) (.ref 224) 225 489 490) ::
 (nat_lit 227,fu "apart" "apart" (tp 28) "ownbeat.marks" 401 226) ::
 (nat_lit 228,tu []) ::
 (nat_lit 230,tu [.str "script" 497,.str "k" 498]) ::
 (nat_lit 231,tu []) ::
 (nat_lit 233,co "_law_cell" 494 "_law_cell" 495 496 114 2 228 229 (.ref 230) (.ref 231) 232 499 500) ::
 (nat_lit 234,fu "_law_cell" "_law_cell" (tp 30) "law_ownbeat_k41_framed_and_apart" 492 233) ::
 (nat_lit 235,tu []) ::
 (nat_lit 237,tu [.str "cell" 505,.str "k" 506,.str "number" 507]) ::
 (nat_lit 238,tu []) ::
 (nat_lit 240,co "_law_mixed" 502 "_law_mixed" 503 504 118 2 235 236 (.ref 237) (.ref 238) 239 508 509) ::
 (nat_lit 241,fu "_law_mixed" "_law_mixed" (tp 31) "law_ownbeat_k41_framed_and_apart" 492 240) ::
 (nat_lit 242,tu []) ::
 (nat_lit 244,tu [.str "cell" 514,.str "codes" 515]) ::
 (nat_lit 245,tu []) ::
 (nat_lit 247,co "_law_known" 511 "_law_known" 512 513 122 1 242 243 (.ref 244) (.ref 245) 246 516 517) ::
 (nat_lit 248,fu "_law_known" "_law_known" (tp 32) "law_ownbeat_k41_framed_and_apart" 492 247) ::
 (nat_lit 249,tu []) ::
 (nat_lit 251,tu [.str "script" 522,.str "cell" 523,.str "k" 524,.str "n" 525,.str "many" 526,.str "states" 527,.str "s" 528,.str "state" 529,.str "letter" 530,.str "one" 531,.str "word" 532,.str "j" 533]) ::
 (nat_lit 252,tu []) ::
 (nat_lit 254,co "_law_code" 519 "_law_code" 520 521 129 1 249 250 (.ref 251) (.ref 252) 253 534 535) ::
 (nat_lit 255,fu "_law_code" "_law_code" (tp 33) "law_ownbeat_k41_framed_and_apart" 492 254) ::
 (nat_lit 263,tu []) ::
 (nat_lit 266,co "_law_copy" 548 "_law_copy" 549 550 159 1 263 264 (.none) (.none) 265 551 552) ::
 (nat_lit 267,fu "_law_copy" "_law_copy" (tp 35) "law_ownbeat_k41_framed_and_apart" 492 266) ::
 (nat_lit 268,tu []) ::
 (nat_lit 270,tu [.str "code" 557,.str "text" 558,.str "state" 559,.str "wire" 560,.str "letter" 561,.str "word" 562]) ::
 (nat_lit 271,tu []) ::
 (nat_lit 273,co "_law_wire" 554 "_law_wire" 555 556 161 2 268 269 (.ref 270) (.ref 271) 272 563 564) ::
 (nat_lit 274,fu "_law_wire" "_law_wire" (tp 36) "law_ownbeat_k41_framed_and_apart" 492 273) ::
 (nat_lit 275,tu []) ::
 (nat_lit 277,tu [.str "mark" 569,.str "wire" 570,.str "found" 571,.str "here" 572,.str "at" 573]) ::
 (nat_lit 278,tu []) ::
 (nat_lit 280,co "_law_parts" 566 "_law_parts" 567 568 168 2 275 276 (.ref 277) (.ref 278) 279 574 575) ::
 (nat_lit 281,fu "_law_parts" "_law_parts" (tp 37) "law_ownbeat_k41_framed_and_apart" 492 280) ::
 (nat_lit 282,tu []) ::
 (nat_lit 284,tu [.str "asked" 580,.str "code" 581,.str "mark" 582,.str "thing" 583,.str "found" 584,.str "e" 585,.str "kinds" 586,.str "others" 587]) ::
 (nat_lit 285,tu []) ::
 (nat_lit 287,co "_law_told" 577 "_law_told" 578 579 183 4 282 283 (.ref 284) (.ref 285) 286 588 589) ::
 (nat_lit 288,fu "_law_told" "_law_told" (tp 38) "law_ownbeat_k41_framed_and_apart" 492 287) ::
 (nat_lit 289,tu []) ::
 (nat_lit 292,co "_law_mark" 591 "_law_mark" 592 593 196 3 289 290 (.none) (.none) 291 594 595) ::
 (nat_lit 293,fu "_law_mark" "_law_mark" (tp 39) "law_ownbeat_k41_framed_and_apart" 492 292) ::
 (nat_lit 294,tu []) ::
 (nat_lit 296,tu [.str "code" 600,.str "cell" 601,.str "mark" 602,.str "frames" 603,.str "wire" 604]) ::
 (nat_lit 297,tu []) ::
 (nat_lit 299,co "_law_not_clean" 597 "_law_not_clean" 598 599 207 2 294 295 (.ref 296) (.ref 297) 298 605 606) ::
 (nat_lit 300,fu "_law_not_clean" "_law_not_clean" (tp 40) "law_ownbeat_k41_framed_and_apart" 492 299) ::
 (nat_lit 301,tu []) ::
 (nat_lit 303,tu [.str "wire" 611,.str "cell" 612,.str "way" 613,.str "at" 614]) ::
 (nat_lit 304,tu []) ::
 (nat_lit 306,co "_law_spoilt" 608 "_law_spoilt" 609 610 218 2 301 302 (.ref 303) (.ref 304) 305 615 616) ::
 (nat_lit 307,fu "_law_spoilt" "_law_spoilt" (tp 41) "law_ownbeat_k41_framed_and_apart" 492 306) ::
 (nat_lit 308,tu []) ::
 (nat_lit 310,tu [.str "code" 621,.str "mark" 622,.str "bad" 623,.str "frames" 624,.str "odd" 625]) ::
 (nat_lit 311,tu []) ::
 (nat_lit 313,co "_law_refused" 618 "_law_refused" 619 620 228 3 308 309 (.ref 310) (.ref 311) 312 626 627) ::
 (nat_lit 314,fu "_law_refused" "_law_refused" (tp 42) "law_ownbeat_k41_framed_and_apart" 492 313) ::
 (nat_lit 315,tu []) ::
 (nat_lit 318,co "law" 629 "law" 630 631 239 1 315 316 (.none) (.none) 317 632 633) ::
 (nat_lit 319,fu "law" "law" (tp 43) "law_ownbeat_k41_framed_and_apart" 492 318) :: []
def V:Program:=view Pw [1,2,3,4,5,6,7,8,9,11,12,13,14,15,17,19,20,21,22,23,24,25,26,27,28,30,31,32,33,34,35,36,37,38,39,40,41,42,43]
noncomputable abbrev hk:Hook:=kmHook K [2,3,15,22,23,24,25,28,35,36,37,40,47,48,49,52,59,61,62,64,65,66,67,68,71,78,79,80,83,90,91,92,95,102,103,104,107,114,115,116,119,126,127,128,131,133,134,136,137,138,140,141,143,144,145,148,149,150,153,154,155,157,158,160,161,162,164,165,167,168,169,171,172,174,175,176,179,180,181,183,184,186,187,188,190,191,193,194,195,197,198,200,201,202,205,206,207,209,210,212,213,214,216,217,219,220,221,223,224,226,227,228,230,231,233,234,235,237,238,240,241,242,244,245,247,248,249,251,252,254,255,263,266,267,268,270,271,273,274,275,277,278,280,281,282,284,285,287,288,289,292,293,294,296,297,299,300,301,303,304,306,307,308,310,311,313,314,315,318,319] (fun _=>by kernel_rfl) [189]
theorem join {α β γ:Type} {o:Option α} {X:α->β×γ} {G:β×γ} (h:o.map (fun s=>(X s).1)=some G.1) (k:o.map (fun s=>(X s).2)=some G.2):o.map X=some G:=by
 cases o with
 | none=>cases h
 | some s=>exact congrArg some (Prod.ext (Option.some.inj h) (Option.some.inj k))
theorem HLb:∀ w,(openEnds treeTable (Rw.row).prog w 5888).map (Hook.obs hk)=some (Hook.val hk w):=by
 intro w
 rw [Fast.te14364793385576792824]
 kernel_rfl
theorem HL1:∀ w,(openEnds treeTable (Rw.row).prog w 5888).map (fun s=>(openSeen V [] (importedModules (Rw.row).prog.main.body) (fun s=>xlAt V [] s && recOk (RowW.records (OpenRow.toRowW Rw.row)) s) true s).1)=some (PyProof.Rows.expectedOf V):=by
 intro w
 rw [Fast.te14364793385576792824,Fast.te4187177175401517315,Fast.te5923862056798008813]
 kernel_rfl
theorem HL2:∀ w,(openEnds treeTable (Rw.row).prog w 5888).map (fun s=>(openSeen V [] (importedModules (Rw.row).prog.main.body) (fun s=>xlAt V [] s && recOk (RowW.records (OpenRow.toRowW Rw.row)) s) true s).2.1)=some (bltViewBooted):=by
 intro w
 rw [Fast.te14364793385576792824,Fast.te4187177175401517315,Fast.te5923862056798008813]
 kernel_rfl
theorem HL3:∀ w,(openEnds treeTable (Rw.row).prog w 5888).map (fun s=>(openSeen V [] (importedModules (Rw.row).prog.main.body) (fun s=>xlAt V [] s && recOk (RowW.records (OpenRow.toRowW Rw.row)) s) true s).2.2.1)=some (true):=by
 intro w
 rw [Fast.te14364793385576792824,Fast.te4187177175401517315,Fast.te5923862056798008813]
 kernel_rfl
theorem HL4:∀ w,(openEnds treeTable (Rw.row).prog w 5888).map (fun s=>(openSeen V [] (importedModules (Rw.row).prog.main.body) (fun s=>xlAt V [] s && recOk (RowW.records (OpenRow.toRowW Rw.row)) s) true s).2.2.2)=some (true,pinGoodD (PyProof.Rows.drecsOf V),PyProof.Rows.plainGoodE V (looseW V []),PyProof.Rows.plainGoodD V [],wideGood V,clsGoodW V []):=by
 intro w
 rw [Fast.te14364793385576792824,Fast.te4187177175401517315,Fast.te5923862056798008813]
 kernel_rfl
theorem HL:LeftO (Rw.row).prog V [] (fun s=>xlAt V [] s && recOk (RowW.records (OpenRow.toRowW Rw.row)) s) (Hook.obs hk) (Hook.val hk) 5888:=fun w=>join (X:=fun s=>(openSeen V [] (importedModules (Rw.row).prog.main.body) (fun s=>xlAt V [] s && recOk (RowW.records (OpenRow.toRowW Rw.row)) s) true s,Hook.obs hk s)) (G:=(openGood V [],Hook.val hk w)) (join (HL1 w) (join (HL2 w) (join (HL3 w) (HL4 w)))) (HLb w)
end KH
noncomputable def PySem.W.Fast.tw15643977797558294346:PySem.Program:=PySem.Challenge.pw_ownbeat_k41_framed_and_apart
theorem PySem.W.Fast.te15643977797558294346:PySem.Challenge.pw_ownbeat_k41_framed_and_apart=PySem.W.Fast.tw15643977797558294346:=rfl
noncomputable def PySem.W.Fast.tw11214328569075749386:PySem.W.OpenLaw:=PySem.Challenge.rw_ownbeat_k41_framed_and_apart
theorem PySem.W.Fast.te11214328569075749386:PySem.Challenge.rw_ownbeat_k41_framed_and_apart=PySem.W.Fast.tw11214328569075749386:=rfl
noncomputable def PySem.W.Fast.tw5761066807429076752:PySem.Program:=KH.V
theorem PySem.W.Fast.te5761066807429076752:KH.V=PySem.W.Fast.tw5761066807429076752:=rfl
noncomputable def PySem.W.Fast.tw13718576055750932966:PySem.Params->PySem.W.Frag:=KH.K
theorem PySem.W.Fast.te13718576055750932966:KH.K=PySem.W.Fast.tw13718576055750932966:=rfl
noncomputable def PySem.W.Fast.tw770474345414848920:PySem.Program:=KH.Pw
theorem PySem.W.Fast.te770474345414848920:KH.Pw=PySem.W.Fast.tw770474345414848920:=rfl
noncomputable def PySem.W.Fast.tw14237125333626191895:PySem.W.OpenLaw:=KH.Rw
theorem PySem.W.Fast.te14237125333626191895:KH.Rw=PySem.W.Fast.tw14237125333626191895:=rfl
end
set_option compiler.extract_closed false
namespace L2
open PySem PySem.Spec PyProof.Rows
abbrev Key:=Sum Int Str
def keyIs:Key->Value->Bool
 | .inl k,v=>Value.isInt k v
 | .inr x,v=>Value.isStrOf x v
def keyH (w:World):Key->Int
 | .inl k=>hashInt k
 | .inr x=>hashStr w x
theorem keyIs_shape:∀ {k:Key} {v:Value},keyIs k v=true->(∃ i t,k=Sum.inl i/\v=Value.int i t)\/(∃ x t,k=Sum.inr x/\v=Value.str x t)
 | .inl i,v,h=>by
  obtain ⟨t,e⟩:=Value.isInt_shape (k:=i) (v:=v) h
  exact .inl ⟨i,t,rfl,e⟩
 | .inr x,v,h=>by
  obtain ⟨t,e⟩:=Value.isStrOf_shape (x:=x) (v:=v) h
  exact .inr ⟨x,t,rfl,e⟩
theorem keyIs_int (i:Int) (t:Tok):keyIs (.inl i) (.int i t)=true:=by simp [keyIs,Value.isInt]
theorem keyIs_str (x:Str) (t:Tok):keyIs (.inr x) (.str x t)=true:=by simp [keyIs,Value.isStrOf]
theorem key_ll (a b:Int):decide ((Sum.inl a:Key)=Sum.inl b)=(a == b):=by
 by_cases e:a=b
 ·subst e;simp
 ·have h:¬ (Sum.inl a:Key)=Sum.inl b:=fun q=>e (Sum.inl.inj q)
  rw [decide_eq_false h]
  exact (beq_eq_false_iff_ne.mpr e).symm
theorem key_rr (a b:Str):decide ((Sum.inr a:Key)=Sum.inr b)=decide (a=b):=by
 by_cases e:a=b
 ·subst e;simp
 ·have h:¬ (Sum.inr a:Key)=Sum.inr b:=fun q=>e (Sum.inr.inj q)
  rw [decide_eq_false h,decide_eq_false e]
theorem key_lr (a:Int) (b:Str):decide ((Sum.inl a:Key)=Sum.inr b)=false:=decide_eq_false (fun q=>nomatch q)
theorem key_rl (a:Str) (b:Int):decide ((Sum.inr a:Key)=Sum.inl b)=false:=decide_eq_false (fun q=>nomatch q)
def mixKind (prog:Program) (w:World):PySem.KeyKind prog w Key where
 is:=keyIs
 hash:=keyH w
 inj:=fun v a b ha hb=>by
  rcases keyIs_shape ha with ⟨i,t,rfl,rfl⟩ | ⟨x,t,rfl,rfl⟩
  ·rcases keyIs_shape hb with ⟨j,u,rfl,e⟩ | ⟨y,u,rfl,e⟩
   ·injection e with e1 _;rw [e1]
   ·exact nomatch e
  ·rcases keyIs_shape hb with ⟨j,u,rfl,e⟩ | ⟨y,u,rfl,e⟩
   ·exact nomatch e
   ·injection e with e1 _;rw [e1]
 byValue:=fun k v h=>by
  rcases keyIs_shape h with ⟨i,t,rfl,rfl⟩ | ⟨x,t,rfl,rfl⟩<;>rfl
 pyHash:=fun hv h=>by
  rcases keyIs_shape hv with ⟨i,t,rfl,rfl⟩ | ⟨x,t,rfl,rfl⟩
  ·exact wpAny_pyHash_int h
  ·exact wpAny_pyHash_str h
 eqBool:=fun hu hv h=>by
  rcases keyIs_shape hu with ⟨i,t,rfl,rfl⟩ | ⟨x,t,rfl,rfl⟩
  ·rcases keyIs_shape hv with ⟨j,u,rfl,rfl⟩ | ⟨y,u,rfl,rfl⟩
   ·rw [key_ll] at h;exact wpAny_eqBool_int h
   ·rw [key_lr] at h;exact SeqAt.EqAt.int_str i t y u _ _ _ _ h
  ·rcases keyIs_shape hv with ⟨j,u,rfl,rfl⟩ | ⟨y,u,rfl,rfl⟩
   ·rw [key_rl] at h;exact SeqAt.EqAt.str_int x t j u _ _ _ _ h
   ·rw [key_rr] at h;exact wpAny_eqBool_str h
 «strs» := fun k x t v h=>by
  rcases keyIs_shape h with ⟨i,u,rfl,e⟩ | ⟨y,u,rfl,e⟩
  ·exact nomatch e
  ·injection e with e1 _
   subst e1
   cases v<;>rfl
theorem mixKind_int (prog:Program) (w:World) (i:Int) (t:Tok):(mixKind prog w).is (.inl i) (.int i t)=true:=keyIs_int i t
theorem mixKind_str (prog:Program) (w:World) (x:Str) (t:Tok):(mixKind prog w).is (.inr x) (.str x t)=true:=keyIs_str x t
end L2
namespace L2
open PySem PySem.Spec PyProof.Rows
inductive V where
 | non | bl (b:Bool) | int (i:Int) | str (x:Str) | byt (b:Array UInt8) | flt (b:UInt64) | ref (a:Addr) | ty (n:String)
 deriving DecidableEq
def RelV:V->Value->Prop
 | .non,u=>u=Value.none
 | .bl b,u=>u=Value.bool b
 | .int i,u=>∃ t,u=Value.int i t
 | .str x,u=>∃ t,u=Value.str x t
 | .byt b,u=>∃ t,u=Value.bytes b t
 | .flt b,u=>∃ t,u=Value.float b t
 | .ref a,u=>u=Value.ref a
 | .ty n,u=>u=Value.type n
abbrev Vals:List V->List Value->Prop:=Paired RelV
theorem Vals.length {xs:List V} {us:List Value} (r:Vals xs us):xs.length=us.length:=Paired.length r
theorem Vals.get:∀ {xs:List V} {us:List Value} {i:Nat} {x:V},Vals xs us->xs[i]? = some x->∃ u,us[i]? = some u/\RelV x u
 | _,_,_,_,.nil,e=>by simp at e
 | _,_,0,_,.cons r _,e=>by simp at e;subst e;exact ⟨_,rfl,r⟩
 | _,_,i+1,x,.cons _ t,e=>by
  obtain ⟨u,h1,h2⟩:=Vals.get (i:=i) (x:=x) t (by simpa using e)
  exact ⟨u,by simpa using h1,h2⟩
theorem Vals.set {x:V} {u:Value} (r:RelV x u):∀ {xs:List V} {us:List Value} (i:Nat),Vals xs us->Vals (xs.set i x) (us.set i u)
 | _,_,_,.nil=>.nil
 | _,_,0,.cons _ t=>.cons r t
 | _,_,i+1,.cons q t=>.cons q (Vals.set r i t)
theorem Vals.append:∀ {xs ys:List V} {us ws:List Value},Vals xs us->Vals ys ws->Vals (xs++ys) (us++ws)
 | _,_,_,_,.nil,s=>s
 | _,_,_,_,.cons r t,s=>.cons r (Vals.append t s)
theorem Vals.take:∀ {xs:List V} {us:List Value} (n:Nat),Vals xs us->Vals (xs.take n) (us.take n)
 | _,_,0,_=>.nil
 | _,_,_+1,.nil=>.nil
 | _,_,n+1,.cons r t=>.cons r (Vals.take n t)
theorem Vals.drop:∀ {xs:List V} {us:List Value} (n:Nat),Vals xs us->Vals (xs.drop n) (us.drop n)
 | _,_,0,r=>r
 | _,_,_+1,.nil=>.nil
 | _,_,n+1,.cons _ t=>Vals.drop n t
def RelO:Option V->Option Value->Prop
 | some v,some u=>RelV v u
 | none,none=>True
 | _,_=>False
def KV {κ:Type}:List (κ×V)->List (κ×Value)->Prop:=Paired fun (p:κ×V) (q:κ×Value)=>p.1=q.1/\RelV p.2 q.2
def kV:Key->V
 | .inl i=>.int i
 | .inr x=>.str x
inductive HO where
  | lst (xs:List V)
  | tup (xs:List V)
  | dK (kvs:List (Key×V)) | dT (kvs:List (List Key×V))
  | set (S:Int->Bool) (n:Nat)
  | ins (C dx:Addr) (fs:List (Str×V))
  | own (x:Addr)
  | xd (fs:List (Str×V))
  | met (f x:Addr)
  | rng (lo hi:Int)
  | frz (o:Obj) (u:HO)
  | tbl (ps:Array Value)
  | ext (φ:Heap->Prop)
abbrev Hp:=Addr->Option HO
def upd (H:Hp) (a:Addr) (o:HO):Hp:=fun b=>if b=a then some o else H b
theorem upd_same {H:Hp} {a:Addr} {o:HO}:upd H a o a=some o:=by unfold upd;rw [if_pos rfl]
theorem upd_ne {H:Hp} {a b:Addr} {o:HO} (h:b≠a):upd H a o b=H b:=by unfold upd;rw [if_neg h]
theorem upd_upd {H:Hp} {a:Addr} {o u:HO}:upd (upd H a o) a u=upd H a u:=by
 funext b;unfold upd;split<;>rfl
theorem ne_of {H:Hp} {a b:Addr} {o u:HO} (h:H a=some o) (h':H b=some u) (d:o≠u):a≠b:=by
 intro e;subst e;rw [h] at h';exact d (Option.some.inj h')
theorem ne_of_none {H:Hp} {a b:Addr} {o:HO} (h:H a=some o) (h':H b=none):a≠b:=by
 intro e;subst e;rw [h] at h';cases h'
section
variable (P:Program) (w:World)
def ObjOk (H:Hp) (h:Heap) (a:Addr):HO->Prop
 | .lst xs=>xs.length<=sizeLine/\∃ (its:List Value) (n:Nat),Vals xs its/\h.get? a=some { cls:=.type "list",data:=.seq its.toArray n }
 | .tup xs=>xs.length<=sizeLine/\∃ its:List Value,Vals xs its/\IsTup h a its.toArray
 | .dK kvs=>kvs.length<=sizeLine/\(a == sysModules)=false/\∃ vs,KV kvs vs/\h.DictOf (mixKind P w) a vs
 | .dT kvs=>kvs.length<=sizeLine/\(a == sysModules)=false/\∃ xs:List (List Key×Addr×Value),
   Paired (fun (p:List Key×V) (q:List Key×Addr×Value)=>p.1=q.1/\H q.2.1=some (.tup (p.1.map kV))/\RelV p.2 q.2.2) kvs xs ∧
   ∃ o es ep,h.get? a=some o/\o.ExactDict/\o.data = .dict es ep/\es.toList=xs.map (entryOfKey (tupleKind (mixKind P w)))/\(xs.map (·.1)).Nodup
 | .set S n=>h.SetOf (intKind P w) a S n
 | .ins C dx fs=>H dx=some (.own a)/\fs.length<=1000/\dx≠a/\h.get? a=some (PySem.W.instObj C dx) ∧
   ∃ mA,h.Ns1 dx mA/\(∀ f,RelO (fs.lookup f) (mA f))/\PySem.Within mA (fs.map (·.1))
 | .own _=>∃ o,h.get? a=some o
 | .xd fs=>∃ mA,h.Ns1 a mA/\∀ f,RelO (fs.lookup f) (mA f)
 | .rng lo hi=>∃ t u v,h.get? a=some { cls:=.type "range",data:=.fields #[.int lo t,.int hi u,.int 1 v] }
 | .frz o u=>h.get? a=some o/\ObjOk H h a u
 | .tbl ps=>h.get? a=some { cls:=.none,data:=.fields ps }
 | .met f x=>h.get? a=some (PySem.W.methodObj (.ref f) (.ref x))
 | .ext φ=>φ h/\(∃ o,h.get? a=some o)/\∀ h1 h2:Heap,φ h1->(∀ o,h1.get? a=some o->h2.get? a=some o)->φ h2
def HOk (H:Hp) (h:Heap):Prop:=∀ a o,H a=some o->ObjOk P w H h a o
end
section
variable {P:Program} {w:World} {H H':Hp} {h h':Heap} {a:Addr} {o:HO}
theorem ObjOk.lt (x:ObjOk P w H h a o):a < h.objs.size:=by
 cases o with
 | lst xs=>obtain ⟨_,_,_,_,e⟩:=x;exact Heap.lt_size e
 | tup xs=>obtain ⟨_,_,_,p⟩:=x;exact p.lt
 | dK kvs=>obtain ⟨_,_,_,_,o,_,_,e,_⟩:=x;exact Heap.lt_size e
 | dT kvs=>obtain ⟨_,_,_,_,o,_,_,e,_⟩:=x;exact Heap.lt_size e
 | set S n=>obtain ⟨o,_,_,_,e,_⟩:=x;exact Heap.lt_size e
 | ins C dx fs=>obtain ⟨_,_,_,e,_⟩:=x;exact Heap.lt_size e
 | own y=>obtain ⟨_,e⟩:=x;exact Heap.lt_size e
 | xd fs=>obtain ⟨_,⟨_,_,_,e,_⟩,_⟩:=x;exact Heap.lt_size e
 | rng lo hi=>obtain ⟨_,_,_,e⟩:=x;exact Heap.lt_size e
 | frz ob u=>obtain ⟨e,_⟩:=x;exact Heap.lt_size e
 | tbl ps=>exact Heap.lt_size (show h.get? a=some _ from x)
 | met f y=>exact Heap.lt_size (show h.get? a=some _ from x)
 | ext φ=>obtain ⟨_,⟨_,e⟩,_⟩:=x;exact Heap.lt_size e
theorem Paired.mapP {α β:Type} {F G:α->β->Prop}:∀ {l₁:List α} {l₂:List β},Paired F l₁ l₂->(∀ a b,F a b->G a b)->Paired G l₁ l₂
 | _,_,.nil,_=>.nil
 | _,_,.cons r t,f=>.cons (f _ _ r) (Paired.mapP t f)
theorem ObjOk.stay (x:ObjOk P w H h a o) (k:∀ b u,(b=a\/H b=some (.own a))->h.get? b=some u->h'.get? b=some u)
  (ho:∀ b,H b=some (.own a)->H' b=some (.own a)) (ht:∀ b xs,H b=some (.tup xs)->H' b=some (.tup xs)):ObjOk P w H' h' a o:=by
 induction o with
 | lst xs=>obtain ⟨z,its,n,r,e⟩:=x;exact ⟨z,its,n,r,k _ _ (.inl rfl) e⟩
 | tup xs=>obtain ⟨z,its,r,ob,e,c⟩:=x;exact ⟨z,its,r,ob,k _ _ (.inl rfl) e,c⟩
 | dK kvs=>obtain ⟨z,y,vs,r,ob,es,ep,e,c⟩:=x;exact ⟨z,y,vs,r,ob,es,ep,k _ _ (.inl rfl) e,c⟩
 | dT kvs=>
  obtain ⟨z,y,xs,r,ob,es,ep,e,c⟩:=x
  exact ⟨z,y,xs,Paired.mapP r fun p q z=>⟨z.1,ht _ _ z.2.1,z.2.2⟩,ob,es,ep,k _ _ (.inl rfl) e,c⟩
 | set S n=>obtain ⟨ob,es,ep,t,e,c⟩:=x;exact ⟨ob,es,ep,t,k _ _ (.inl rfl) e,c⟩
 | ins C dx fs=>
  obtain ⟨d,z,ne,e,mA,⟨od,es,ep,e2,c⟩,r⟩:=x
  exact ⟨ho _ d,z,ne,k _ _ (.inl rfl) e,mA,⟨od,es,ep,k _ _ (.inr d) e2,c⟩,r⟩
 | own y=>obtain ⟨ob,e⟩:=x;exact ⟨ob,k _ _ (.inl rfl) e⟩
 | xd fs=>obtain ⟨mA,⟨od,es,ep,e,c⟩,r⟩:=x;exact ⟨mA,⟨od,es,ep,k _ _ (.inl rfl) e,c⟩,r⟩
 | rng lo hi=>obtain ⟨t,u,v,e⟩:=x;exact ⟨t,u,v,k _ _ (.inl rfl) e⟩
 | frz ob u ih=>obtain ⟨e,q⟩:=x;exact ⟨k _ _ (.inl rfl) e,ih q⟩
 | tbl ps=>
  have e:h.get? a=some { cls:=.none,data:=.fields ps }:=x
  show h'.get? a=some { cls:=.none,data:=.fields ps }
  exact k a _ (.inl rfl) e
 | met f y=>
  have e:h.get? a=some (PySem.W.methodObj (.ref f) (.ref y)):=x
  show h'.get? a=some (PySem.W.methodObj (.ref f) (.ref y))
  exact k a _ (.inl rfl) e
 | ext φ=>obtain ⟨p,⟨o,e⟩,st⟩:=x;exact ⟨st _ _ p fun o q=>k _ _ (.inl rfl) q,⟨o,k _ _ (.inl rfl) e⟩,st⟩
theorem HOk.lt (x:HOk P w H h) (e:H a=some o):a < h.objs.size:=(x a o e).lt
theorem HOk.fresh (x:HOk P w H h) (e:h.objs.size<=a):H a=none:=by
 cases q:H a with
 | none=>rfl
 | some u=>exact absurd (Nat.lt_of_lt_of_le (x.lt q) e) (Nat.lt_irrefl _)
theorem HOk.kept (x:HOk P w H h) (k:∀ b u,h.get? b=some u->h'.get? b=some u):HOk P w H h':=fun a o e=>
 (x a o e).stay (fun b u _ q=>k b u q) (fun _ q=>q) fun _ _ q=>q
theorem HOk.laid (x:HOk P w H h) (k:∀ b u,h.get? b=some u->h'.get? b=some u) (hp:h.objs.size<=a) (new:ObjOk P w (upd H a o) h' a o):HOk P w (upd H a o) h':=fun b u e=>by
 have hn:=x.fresh hp
 by_cases hb:b=a
 ·subst hb;rw [upd_same] at e;cases e;exact new
 ·rw [upd_ne hb] at e
  exact (x b u e).stay (fun c v _ q=>k c v q) (fun c q=>by rw [upd_ne (ne_of_none q hn)];exact q) fun c xs q=>by rw [upd_ne (ne_of_none q hn)];exact q
end
def Rd (H:Hp) (a:Addr) (u:HO):Prop:=H a=some u\/∃ o,H a=some (.frz o u)
theorem Rd.of {H:Hp} {a:Addr} {u:HO} (h:H a=some u):Rd H a u:=.inl h
theorem Rd.ok {P:Program} {w:World} {H:Hp} {h:Heap} {a:Addr} {u:HO} (r:Rd H a u) (x:HOk P w H h):ObjOk P w H h a u:=by
 rcases r with r | ⟨o,r⟩
 ·exact x a u r
 ·obtain ⟨_,q⟩:=x a _ r
  exact q
def Mut:Option HO->Prop
 | some (.lst _)=>True
 | some (.dK _)=>True
 | some (.dT _)=>True
 | some (.set _ _)=>True
 | some (.ins _ _ _)=>True
 | some (.ext _)=>True
 | _=>False
section
variable {P:Program} {w:World} {H:Hp} {h h':Heap} {x e:Addr} {o':HO}
theorem HOk.write (ok:HOk P w H h) (mu:Mut (H x)) (he:e=x\/H e=some (.own x)) (k:∀ b u,b≠e->h.get? b=some u->h'.get? b=some u) (heo:∃ u,h'.get? e=some u)
  (new:ObjOk P w (upd H x o') h' x o'):HOk P w (upd H x o') h':=fun b u q=>by
 have nown:∀ c y,H c=some (.own y)->c≠x:=fun c y r z=>by subst z;rw [r] at mu;exact mu
 have ntup:∀ c xs,H c=some (.tup xs)->c≠x:=fun c xs r z=>by subst z;rw [r] at mu;exact mu
 by_cases hb:b=x
 ·subst hb;rw [upd_same] at q;cases q;exact new
 ·rw [upd_ne hb] at q
  by_cases hbe:b=e
  ·have q':H b=some (.own x):=by
    rcases he with z | z
    ·exact absurd (hbe.trans z) hb
    ·rw [hbe];exact z
   rw [q] at q';cases q'
   obtain ⟨v,hv⟩:=heo
   exact ⟨v,by rw [hbe];exact hv⟩
  ·refine (ok b u q).stay (fun c v hc r=>k c v ?_ r) (fun c r=>by rw [upd_ne (nown c b r)];exact r) fun c xs r=>by rw [upd_ne (ntup c xs r)];exact r
   rcases hc with rfl | hc
   ·exact hbe
   ·rintro rfl
    rcases he with z | z
    ·exact nown c b hc z
    ·rw [hc] at z;cases z;exact hb rfl
end
structure Un (fs ex:List Addr) (H H':Hp) (h h':Heap):Prop where
 keep:∀ b o,h.get? b=some o->H b=none->b ∉ fs->b ∉ ex->h'.get? b=some o
 slot:∀ b o,h.get? b=some o->H b=none->b∈fs->b ∉ ex->∃ sl,h'.get? b=some { o with slots:=sl }
 free:∀ b o,h.get? b=some o->H b=none->b ∉ ex->H' b=none
 there:∀ b o,h.get? b=some o->b ∉ ex->∃ o',h'.get? b=some o'
 tups:∀ b xs,H b=some (.tup xs)->H' b=some (.tup xs)
 frzs:∀ b o u,H b=some (.frz o u)->H' b=some (.frz o u)
 tbls:∀ b ps,H b=some (.tbl ps)->∃ more,H' b=some (.tbl (ps++more))
section
variable {fs fs' ex ex':List Addr} {H H1 H2:Hp} {h h1 h2 h':Heap} {a x e:Addr} {o:HO}
theorem Un.any (u:Un fs ex H H1 h h1) {b:Addr} {ob:Obj} (q:h.get? b=some ob) (n:H b=none) (hx:b ∉ ex):∃ sl,h1.get? b=some { ob with slots:=sl }:=by
 by_cases hb:b∈fs
 ·exact u.slot b ob q n hb hx
 ·exact ⟨ob.slots,u.keep b ob q n hb hx⟩
theorem Un.trans (a:Un fs ex H H1 h h1) (b:Un fs ex H1 H2 h1 h2):Un fs ex H H2 h h2 where
 keep:=fun c ob q n hc hx=>b.keep c ob (a.keep c ob q n hc hx) (a.free c ob q n hx) hc hx
 slot:=fun c ob q n hc hx=>by
  obtain ⟨sl,e1⟩:=a.slot c ob q n hc hx
  obtain ⟨sl',e2⟩:=b.slot c _ e1 (a.free c ob q n hx) hc hx
  exact ⟨sl',e2⟩
 free:=fun c ob q n hx=>by
  obtain ⟨o',e1⟩:=a.there c ob q hx
  exact b.free c o' e1 (a.free c ob q n hx) hx
 there:=fun c ob q hx=>by
  obtain ⟨o',e1⟩:=a.there c ob q hx
  exact b.there c o' e1 hx
 tups:=fun c xs q=>b.tups c xs (a.tups c xs q)
 frzs:=fun c ob xs q=>b.frzs c ob xs (a.frzs c ob xs q)
 tbls:=fun c ps q=>by
  obtain ⟨m1,e1⟩:=a.tbls c ps q
  obtain ⟨m2,e2⟩:=b.tbls c _ e1
  exact ⟨m1++m2,by rw [e2,Array.append_assoc]⟩
theorem Un.kept (k:∀ b u,h.get? b=some u->h'.get? b=some u):Un fs ex H H h h':=
 ⟨fun b ob q _ _ _=>k b ob q,fun b ob q _ _ _=>⟨ob.slots,k b ob q⟩,fun _ _ _ n _=>n,fun b ob q _=>⟨ob,k b ob q⟩,fun _ _ q=>q,fun _ _ _ q=>q,fun _ ps q=>⟨#[],by rw [q];simp⟩⟩
theorem Un.refl:Un fs ex H H h h:=Un.kept fun _ _ q=>q
theorem Un.laid (k:∀ b u,h.get? b=some u->h'.get? b=some u) (hp:h.objs.size<=a) (hn:H a=none):Un fs ex H (upd H a o) h h' where
 keep:=fun b u q _ _ _=>k b u q
 slot:=fun b u q _ _ _=>⟨u.slots,k b u q⟩
 free:=fun b u q n _=>by rw [upd_ne (Nat.ne_of_lt (Nat.lt_of_lt_of_le (Heap.lt_size q) hp))];exact n
 there:=fun b u q _=>⟨u,k b u q⟩
 tups:=fun b xs q=>by rw [upd_ne (ne_of_none q hn)];exact q
 frzs:=fun b u xs q=>by rw [upd_ne (ne_of_none q hn)];exact q
 tbls:=fun b ps q=>⟨#[],by rw [upd_ne (ne_of_none q hn),q];simp⟩
theorem Un.write (mu:Mut (H x)) (he:e=x\/H e=some (.own x)) (k:∀ b u,b≠e->h.get? b=some u->h'.get? b=some u) (heo:∃ u,h'.get? e=some u):Un fs ex H (upd H x o) h h':=by
 have hx:∀ b,H b=none->b≠x:=fun b n z=>by subst z;rw [n] at mu;exact mu
 have hb:∀ b,H b=none->b≠e:=fun b n z=>by
  subst z
  rcases he with r | r
  ·exact hx b n r
  ·rw [n] at r;cases r
 have hm:∀ b u,H b=some u->¬ Mut (some u)->b≠x:=fun b u q nm z=>by subst z;rw [q] at mu;exact nm mu
 refine ⟨fun b u q n _ _=>k b u (hb b n) q,fun b u q n _ _=>⟨u.slots,k b u (hb b n) q⟩,fun b u q n _=>by rw [upd_ne (hx b n)];exact n,fun b u q _=>?_,
  fun b xs q=>by rw [upd_ne (hm b _ q fun z=>z)];exact q,fun b u xs q=>by rw [upd_ne (hm b _ q fun z=>z)];exact q,fun b ps q=>⟨#[],by rw [upd_ne (hm b _ q fun z=>z),q];simp⟩⟩
 by_cases hbe:b=e
 ·subst hbe;exact heo
 ·exact ⟨u,k b u hbe q⟩
theorem Un.mono (u:Un fs ex H H1 h h1) (hs:∀ b∈fs,b∈fs') (hx:∀ b∈ex,b∈ex'):Un fs' ex' H H1 h h1:=
 ⟨fun b ob q n hb he=>u.keep b ob q n (fun z=>hb (hs b z)) fun z=>he (hx b z),fun _ _ q n _ he=>u.any q n fun z=>he (hx _ z),fun b ob q n he=>u.free b ob q n fun z=>he (hx b z),fun b ob q he=>u.there b ob q fun z=>he (hx b z),u.tups,u.frzs,u.tbls⟩
end
def trk (h:Heap) (H:Hp):List Addr:=(List.range h.objs.size).filter fun a=>(H a).isSome
def hidT (h:Heap) (H:Hp):Heap:=PySem.W.hideAll h (trk h H)
theorem hidT_size (h:Heap) (H:Hp):(hidT h H).objs.size=h.objs.size:=PySem.W.hideAll_size _ _
theorem hidT_get {h:Heap} {H:Hp} {b:Addr} {o:Obj} (e:h.get? b=some o) (n:H b=none):(hidT h H).get? b=some o:=
 PySem.W.hideAll_get _ e fun hm=>by
  have q:(H b).isSome=true:=(List.mem_filter.mp hm).2
  rw [n] at q;simp at q
theorem of_hidT {h:Heap} {H:Hp} {b:Addr} {o:Obj} (e:(hidT h H).get? b=some o):h.get? b=some o/\H b=none:=by
 have e':h.get? b=some o:=PySem.W.of_hideAll (trk h H) e
 refine ⟨e',?_⟩
 cases q:H b with
 | none=>rfl
 | some x=>
  have hm:b∈trk h H:=List.mem_filter.mpr ⟨List.mem_range.mpr (Heap.lt_size e'),by simp [q]⟩
  have z:(hidT h H).get? b=none:=PySem.W.hideAll_none (trk h H) hm
  rw [z] at e;cases e
def allNews (g h:Heap) (L:Addr):List (Addr×Obj):=(List.range h.objs.size).filterMap fun a=>if a=L\/(g.get? a).isSome=true then none else (h.get? a).map fun o=>(a,o)
def rest (g h:Heap) (L d:Addr):List (Addr×Obj):=(allNews g h L).filter fun p=>decide (p.1≠d)
end L2
namespace L2
open PySem PySem.Spec PyProof.Rows
structure Mod (K:PySem.W.Frag) (mg:Str->Option Value) (base:Heap):Prop where
 kin:K.In base
 glob:base.Ns mainGlobals mg
 blt:∃ mb,base.Ns builtinsNs mb/\∀ x:Str,x≠"__name__"->mb x=bootBuiltins x
 nolimit:base.NoLimit
structure Cx where
 prog:Program
 w:World
 K:PySem.W.Frag
 mg:Str->Option Value
 base:Heap
 A:Around
 N:List Str
 s₀:Shared
 H₀:Hp
 env:Env
 outer:List Env
 stack:List Env
 ex:List Addr
 fn:Str->Bool
 calm:Bool
 pn:List (Addr×Obj)
 xe:Value->Shared->Prop
def frs (l:List Env):List Addr:=l.filterMap (·.frame)
abbrev Cx.fs (X:Cx):List Addr:=frs X.outer
def Vis (sc:Scope) (x:Str):Prop:=sc.names.lookup x=some .local\/sc.names.lookup x=some .cell\/sc.names.lookup x=some .free
def Loc (sc:Scope) (x:Str):Prop:=sc.names.lookup x=some .local\/sc.names.lookup x=some .cell
def Look (env:Env) (h:Heap) (m:Str->Option Value) (x:Str) (u:Value):Prop:=
 (env.kindOf x=some .local/\m x=some u)\/((env.kindOf x=some .cell\/env.kindOf x=some .free)/\∃ c,env.cells.lookup x=some c/\h.IsCell c (some u))
structure Cx.Ok (X:Cx):Prop where
 mod:Mod X.K X.mg X.base
 kind:X.env.scope.kind = .function
 glob:X.env.globals=mainGlobals
 blt:X.env.builtins=builtinsNs
 above:X.s₀.heap.objs.size<=X.env.locals
 inj:∀ x y c,X.env.cells.lookup x=some c->X.env.cells.lookup y=some c->x=y
 has:∀ x,(X.env.kindOf x=some .cell\/X.env.kindOf x=some .free)->∃ c,X.env.cells.lookup x=some c
 cab:∀ x c,X.fn x=true->X.env.cells.lookup x=some c->X.s₀.heap.objs.size<=c
 hd:X.calm=true->X.A.handled=none
 frames:X.A.frames=some X.stack
 stk:X.stack=X.outer\/(X.stack=X.env :: X.outer/\X.env.frame=some X.env.locals)
 exf:∀ b∈X.ex,b≠X.env.locals/\∀ x c,X.env.cells.lookup x=some c->c≠b
 bs:∀ b o,X.base.get? b=some o->X.s₀.heap.get? b=some o/\X.H₀ b=none
 bsz:X.base.objs.size<=X.s₀.heap.objs.size
 noex:∀ b o,X.base.get? b=some o->b ∉ X.ex
 exfs:∀ b∈X.ex,b ∉ X.fs
 funs:X.s₀.heap.FunFrames X.base X.outer
 frf:∀ b∈X.fs,X.H₀ b=none
structure Inv (X:Cx) (pins:List (Addr×Obj)) (σ:List (Option V)) (H:Hp) (s:Shared):Prop where
 ok:X.Ok
 os:s.os=X.s₀.os
 bare:AllBare s.gens
 base:Un X.fs X.ex X.H₀ H X.s₀.heap s.heap
 loc:∃ m,s.heap.Ns X.env.locals m/\∀ (i:Nat) (x:Str) (v:V),X.N[i]? = some x->σ[i]? = some (some v)->Vis X.env.scope x->∃ u,RelV v u/\Look X.env s.heap m x u
 cell:∀ x c,X.env.cells.lookup x=some c->∃ v,s.heap.IsCell c v
 free:H X.env.locals=none
 freeC:∀ x c,X.env.cells.lookup x=some c->H c=none
 pin:∀ p∈X.pn++pins,s.heap.get? p.1=some p.2/\H p.1=none/\p.1≠X.env.locals/\p.1 ∉ X.fs/\∀ v,p.2.data≠.cell v
 hok:HOk X.prog X.w H s.heap
 len:σ.length=X.N.length
section
variable {X:Cx} {pins:List (Addr×Obj)} {σ:List (Option V)} {H H':Hp} {s:Shared} {h':Heap}
theorem Cx.Ok.nofr (ok:X.Ok) {b:Addr} {o:Obj} (e:X.base.get? b=some o):b ∉ X.fs:=fun hb=>by
 have:=(ok.funs.mem hb).1
 rw [e] at this;cases this
theorem Inv.bs (I:Inv X pins σ H s):∀ b o,X.base.get? b=some o->s.heap.get? b=some o/\H b=none:=fun b o e=>
 ⟨I.base.keep b o (I.ok.bs b o e).1 (I.ok.bs b o e).2 (I.ok.nofr e) (I.ok.noex b o e),I.base.free b o (I.ok.bs b o e).1 (I.ok.bs b o e).2 (I.ok.noex b o e)⟩
theorem Inv.bk (I:Inv X pins σ H s):∀ b o,X.base.get? b=some o->s.heap.get? b=some o:=fun b o e=>(I.bs b o e).1
theorem Inv.mod (I:Inv X pins σ H s):Mod X.K X.mg X.base:=I.ok.mod
theorem Inv.kIn (I:Inv X pins σ H s):X.K.In s.heap:=I.ok.mod.kin.keeps I.bk
theorem Inv.nolimit (I:Inv X pins σ H s):s.heap.NoLimit:=I.ok.mod.nolimit.keeps I.bk
theorem Inv.fr (I:Inv X pins σ H s):∃ m,Fr X.base X.env.locals s.heap m:=
 let ⟨m,hn,_⟩:=I.loc
 ⟨m,hn,I.bk,Nat.le_trans I.ok.bsz I.ok.above⟩
theorem Inv.lt (I:Inv X pins σ H s):X.env.locals < s.heap.objs.size:=let ⟨_,hn,_⟩:=I.loc;hn.lt
theorem Inv.sz (I:Inv X pins σ H s):X.s₀.heap.objs.size<=s.heap.objs.size:=Nat.le_trans I.ok.above (Nat.le_of_lt I.lt)
theorem Inv.nofs (I:Inv X pins σ H s) {a:Addr} (h:s.heap.objs.size<=a):a ∉ X.fs:=fun hb=>by
 obtain ⟨_,o,ho,_⟩:=I.ok.funs.mem hb
 exact absurd (Nat.lt_of_lt_of_le (Heap.lt_size ho) (Nat.le_trans I.sz h)) (Nat.lt_irrefl _)
theorem Inv.cne (I:Inv X pins σ H s):∀ x c,X.env.cells.lookup x=some c->c≠X.env.locals:=fun x c e z=>by
 obtain ⟨v,o,ho,hd⟩:=I.cell x c e
 obtain ⟨m,⟨o',es,ep,ho',hd',_⟩,_⟩:=I.loc
 rw [z,ho'] at ho;cases ho;rw [hd'] at hd;cases hd
theorem Inv.funs (I:Inv X pins σ H s):s.heap.FunFrames X.base X.outer:=by
 have all:∀ (l:List Env),(∀ b∈frs l,b∈X.fs)->X.s₀.heap.FunFrames X.base l->s.heap.FunFrames X.base l:=by
  intro l
  induction l with
  | nil=>intro _ _;trivial
  | cons env r ih=>
   intro hs hl
   obtain ⟨hk,⟨L,o,hf,hn,ho,hd⟩,hr⟩:=hl
   have hL:L∈X.fs:=hs L (by unfold frs;rw [List.filterMap_cons,hf];exact List.mem_cons_self)
   obtain ⟨sl,e⟩:=I.base.slot L o ho (I.ok.frf L hL) hL fun z=>I.ok.exfs L z hL
   exact ⟨hk,⟨L,_,hf,hn,e,hd⟩,ih (fun b hb=>hs b (by unfold frs;rw [List.filterMap_cons,hf];exact List.mem_cons_of_mem _ hb)) hr⟩
 exact all X.outer (fun _ hb=>hb) I.ok.funs
theorem Inv.stack (I:Inv X pins σ H s):s.heap.FunFrames X.base X.stack:=by
 rcases I.ok.stk with e | ⟨e,hf⟩
 ·rw [e];exact I.funs
 ·rw [e]
  obtain ⟨m,hn,_⟩:=I.loc
  refine .cons (by rw [I.ok.kind];decide) hf hn ?_ I.funs
  exact Heap.get?_none_of_le (Nat.le_trans I.ok.bsz I.ok.above)
theorem Inv.stkSub (I:Inv X pins σ H s):∀ b∈frs X.stack,b∈X.env.locals :: X.fs:=fun b hb=>by
 rcases I.ok.stk with e | ⟨e,hf⟩
 ·rw [e] at hb;exact List.mem_cons_of_mem _ hb
 ·rw [e] at hb
  unfold frs at hb
  rw [List.filterMap_cons,hf] at hb
  exact hb
theorem Inv.stkFree (I:Inv X pins σ H s):∀ b∈frs X.stack,H b=none:=fun b hb=>by
 rcases List.mem_cons.mp (I.stkSub b hb) with e | hb
 ·rw [e];exact I.free
 ·obtain ⟨_,o,ho,_⟩:=I.ok.funs.mem hb
  exact I.base.free b o ho (I.ok.frf b hb) fun z=>I.ok.exfs b z hb
theorem Inv.step {g':Array GenState} {t':Nat} {d':Drawn} {ch:List Addr} (I:Inv X pins σ H s)
  (hch:∀ b∈ch,(b∈X.ex\/X.s₀.heap.objs.size<=b)/\b≠X.env.locals/\(∀ x c,X.env.cells.lookup x=some c->c≠b)/\∀ p∈X.pn++pins,p.1≠b)
  (keep:∀ b o,b≠X.env.locals->b ∉ X.fs->b ∉ ch->s.heap.get? b=some o->H b=none->h'.get? b=some o)
  (slot:∀ b o,b≠X.env.locals->b∈X.fs->b ∉ ch->s.heap.get? b=some o->H b=none->∃ sl,h'.get? b=some { o with slots:=sl }) (free:∀ b o,b ∉ ch->s.heap.get? b=some o->H b=none->H' b=none)
  (there:∀ b o,b ∉ ch->s.heap.get? b=some o->∃ o',h'.get? b=some o')
  (tups:∀ b xs,H b=some (.tup xs)->H' b=some (.tup xs)) (frzs:∀ b o u,H b=some (.frz o u)->H' b=some (.frz o u)) (tbls:∀ b ps,H b=some (.tbl ps)->∃ more,H' b=some (.tbl (ps++more)))
  (ns:∀ m,s.heap.Ns X.env.locals m->h'.Ns X.env.locals m) (hok:HOk X.prog X.w H' h') (hg:AllBare g') :
  Inv X pins σ H' { s with heap:=h',gens:=g',drawn:=d',toks:=t' }:=by
 have neL:∀ b o,X.s₀.heap.get? b=some o->b≠X.env.locals:=fun b o e=>Nat.ne_of_lt (Nat.lt_of_lt_of_le (Heap.lt_size e) I.ok.above)
 have neC:∀ b o,X.s₀.heap.get? b=some o->b ∉ X.ex->b ∉ ch:=fun b o e hx hb=>by
  rcases (hch b hb).1 with z | z
  ·exact hx z
  ·exact absurd (Nat.lt_of_lt_of_le (Heap.lt_size e) z) (Nat.lt_irrefl _)
 have cellK:∀ x c,X.env.cells.lookup x=some c->∀ v,s.heap.IsCell c v->h'.IsCell c v:=fun x c e v ⟨o,ho,hd⟩=>by
  have nch:c ∉ ch:=fun z=>(hch c z).2.2.1 x c e rfl
  by_cases hc:c∈X.fs
  ·obtain ⟨sl,q⟩:=slot c o (I.cne x c e) hc nch ho (I.freeC x c e)
   exact ⟨_,q,hd⟩
  ·exact ⟨o,keep c o (I.cne x c e) hc nch ho (I.freeC x c e),hd⟩
 refine ⟨I.ok,I.os,hg,⟨fun b o e n hb hx=>?_,fun b o e n hb hx=>?_,fun b o e n hx=>?_,fun b o e hx=>?_,fun b xs e=>tups b xs (I.base.tups b xs e),fun b o xs e=>frzs b o xs (I.base.frzs b o xs e),fun b ps e=>?_⟩,?_,fun x c e=>?_,?_,fun x c e=>?_,fun p hp=>?_,hok,I.len⟩
 ·exact keep b o (neL b o e) hb (neC b o e hx) (I.base.keep b o e n hb hx) (I.base.free b o e n hx)
 ·obtain ⟨sl,e1⟩:=I.base.slot b o e n hb hx
  obtain ⟨sl',e2⟩:=slot b _ (neL b o e) hb (neC b o e hx) e1 (I.base.free b o e n hx)
  exact ⟨sl',e2⟩
 ·obtain ⟨o',e1⟩:=I.base.there b o e hx
  exact free b o' (neC b o e hx) e1 (I.base.free b o e n hx)
 ·obtain ⟨o',e1⟩:=I.base.there b o e hx
  exact there b o' (neC b o e hx) e1
 ·obtain ⟨m1,e1⟩:=I.base.tbls b ps e
  obtain ⟨m2,e2⟩:=tbls b _ e1
  exact ⟨m1++m2,by rw [e2,Array.append_assoc]⟩
 ·obtain ⟨m,hn,hl⟩:=I.loc
  refine ⟨m,ns m hn,fun i x v e1 e2 e3=>?_⟩
  obtain ⟨u,r,l⟩:=hl i x v e1 e2 e3
  refine ⟨u,r,?_⟩
  rcases l with l | ⟨k,c,e,z⟩
  ·exact .inl l
  ·exact .inr ⟨k,c,e,cellK x c e _ z⟩
 ·obtain ⟨v,z⟩:=I.cell x c e
  exact ⟨v,cellK x c e v z⟩
 ·obtain ⟨m,⟨o,_,_,ho,_⟩,_⟩:=I.loc
  exact free _ o (fun z=>(hch _ z).2.1 rfl) ho I.free
 ·obtain ⟨v,o,ho,hd⟩:=I.cell x c e
  exact free c o (fun z=>(hch c z).2.2.1 x c e rfl) ho (I.freeC x c e)
 ·obtain ⟨e,n,ne,nf,d⟩:=I.pin p hp
  have nch:p.1 ∉ ch:=fun z=>(hch p.1 z).2.2.2 p hp rfl
  exact ⟨keep p.1 p.2 ne nf nch e n,free p.1 p.2 nch e n,ne,nf,d⟩
theorem Inv.un {t':Nat} (I:Inv X pins σ H s) (u:Un X.fs [] H H' s.heap h') (hok:HOk X.prog X.w H' h'):Inv X pins σ H' { s with heap:=h',toks:=t' }:=by
 obtain ⟨m,⟨o,es,ep,ho,r⟩,_⟩:=id I.loc
 obtain ⟨sl,hL⟩:=u.any ho I.free (by simp)
 exact I.step (g':=s.gens) (d':=s.drawn) (ch:=[]) (fun _ z=>nomatch z) (fun b o _ hb _ e n=>u.keep b o e n hb (by simp)) (fun b o _ hb _ e n=>u.slot b o e n hb (by simp)) (fun b o _ e n=>u.free b o e n (by simp)) (fun b o _ e=>u.there b o e (by simp)) u.tups u.frzs u.tbls (fun m' hm=>by
  obtain ⟨o',es',ep',ho',r'⟩:=hm
  rw [ho] at ho';cases ho'
  exact ⟨_,es',ep',hL,r'⟩) hok I.bare
theorem Inv.call {g':Array GenState} {t':Nat} {d':Drawn} {ch:List Addr} (I:Inv X pins σ H s) (u:Un (frs X.stack) ch H H' s.heap h') (hok:HOk X.prog X.w H' h') (hg:AllBare g')
  (hch:∀ b∈ch,(b∈X.ex\/X.s₀.heap.objs.size<=b)/\b≠X.env.locals/\(∀ x c,X.env.cells.lookup x=some c->c≠b)/\∀ p∈X.pn++pins,p.1≠b) :
  Inv X pins σ H' { s with heap:=h',gens:=g',drawn:=d',toks:=t' }:=by
 obtain ⟨m,⟨o,es,ep,ho,r⟩,_⟩:=id I.loc
 obtain ⟨sl,hL⟩:=u.any ho I.free fun z=>(hch _ z).2.1 rfl
 exact I.step (ch:=ch) hch (fun b o hL hb hc e n=>u.keep b o e n (fun z=>(List.mem_cons.mp (I.stkSub b z)).elim hL hb) hc) (fun b o _ _ hc e n=>u.any e n hc) (fun b o hc e n=>u.free b o e n hc) (fun b o hc e=>u.there b o e hc) u.tups u.frzs u.tbls (fun m' hm=>by
  obtain ⟨o',es',ep',ho',r'⟩:=hm
  rw [ho] at ho';cases ho'
  exact ⟨_,es',ep',hL,r'⟩) hok hg
theorem Inv.turned {t':Nat} {it:Addr} (I:Inv X pins σ H s) (k:∀ b o,b≠it->s.heap.get? b=some o->h'.get? b=some o) (hn:H it=none) (hL:it≠X.env.locals)
  (h1:it∈X.ex\/X.s₀.heap.objs.size<=it) (h2:∀ x c,X.env.cells.lookup x=some c->c≠it) (h3:∀ p∈X.pn++pins,p.1≠it):Inv X pins σ H { s with heap:=h',toks:=t' }:=by
 have nit:∀ b u,H b=some u->b≠it:=fun b u e z=>by rw [z,hn] at e;cases e
 refine I.step (g':=s.gens) (d':=s.drawn) (ch:=[it]) (fun b hb=>?_) (fun b o _ _ hc e _=>k b o (fun z=>hc (by simp [z])) e) (fun b o _ _ hc e _=>⟨o.slots,k b o (fun z=>hc (by simp [z])) e⟩) (fun _ _ _ _ n=>n)
  (fun b o hc e=>⟨o,k b o (fun z=>hc (by simp [z])) e⟩) (fun _ _ e=>e) (fun _ _ _ e=>e) (fun b ps e=>⟨#[],by rw [e];simp⟩) (fun m hm=>?_) (fun b u e=>?_) I.bare
 ·have e:b=it:=by simpa using hb
  subst e
  exact ⟨h1,hL,h2,h3⟩
 ·obtain ⟨o,es,ep,ho,r⟩:=hm
  exact ⟨o,es,ep,k _ o (Ne.symm hL) ho,r⟩
 ·refine (I.hok b u e).stay (fun c v hc q=>k c v ?_ q) (fun _ q=>q) fun _ _ q=>q
  rcases hc with z | z
  ·rw [z];exact nit b u e
  ·exact nit c _ z
theorem Inv.tok (I:Inv X pins σ H s) (t:Nat):Inv X pins σ H { s with toks:=t }:=I.un (h':=s.heap) (t':=t) Un.refl I.hok
theorem Inv.kept {t':Nat} (I:Inv X pins σ H s) (k:∀ b u,s.heap.get? b=some u->h'.get? b=some u):Inv X pins σ H { s with heap:=h',toks:=t' }:=I.un (Un.kept k) (I.hok.kept k)
theorem Inv.laid {a:Addr} {o:HO} {t':Nat} (I:Inv X pins σ H s) (k:∀ b u,s.heap.get? b=some u->h'.get? b=some u) (hp:s.heap.objs.size<=a) (new:ObjOk X.prog X.w (upd H a o) h' a o) :
  Inv X pins σ (upd H a o) { s with heap:=h',toks:=t' }:=I.un (Un.laid k hp (I.hok.fresh hp)) (I.hok.laid k hp new)
theorem Inv.write {x e:Addr} {o:HO} {t':Nat} (I:Inv X pins σ H s) (mu:Mut (H x)) (he:e=x\/H e=some (.own x)) (k:∀ b u,b≠e->s.heap.get? b=some u->h'.get? b=some u) (heo:∃ u,h'.get? e=some u)
  (new:ObjOk X.prog X.w (upd H x o) h' x o):Inv X pins σ (upd H x o) { s with heap:=h',toks:=t' }:=I.un (Un.write mu he k heo) (I.hok.write mu he k heo new)
theorem Inv.pins_of {pins':List (Addr×Obj)} (I:Inv X pins σ H s) (h:∀ p∈pins',s.heap.get? p.1=some p.2/\H p.1=none/\p.1≠X.env.locals/\p.1 ∉ X.fs/\∀ v,p.2.data≠.cell v):Inv X pins' σ H s:=
 ⟨I.ok,I.os,I.bare,I.base,I.loc,I.cell,I.free,I.freeC,fun p hp=>(List.mem_append.mp hp).elim (fun z=>I.pin p (List.mem_append_left _ z)) (h p),I.hok,I.len⟩
theorem nodup_ix {N:List Str} (hN:N.Nodup) {i j:Nat} {x:Str} (a:N[i]? = some x) (b:N[j]? = some x):i=j:=by
 obtain ⟨h1,e1⟩:=List.getElem?_eq_some_iff.mp a
 obtain ⟨h2,e2⟩:=List.getElem?_eq_some_iff.mp b
 exact (List.getElem_inj hN).mp (e1.trans e2.symm)
theorem store_ok2 {M:Model} {A:Around} {E:Value->Shared->Prop} {i:Nat} {x:Str} {v:V} {u:Value} {Q:Unit->Shared->Prop} (I:Inv X pins σ H s) (hN:X.N.Nodup) (hi:X.N[i]? = some x) (hx:Loc X.env.scope x) (r:RelV v u)
  (h:∀ s',Inv X pins (σ.set i (some v)) H s'->(∃ a,Heap.SameBut a s.heap s'.heap/\(a=X.env.locals\/X.env.cells.lookup x=some a))->Q () s') (hf:X.fn x=true\/X.env.scope.names.lookup x=some .local:=by first | exact .inl rfl | exact .inr rfl | assumption):wpAny M A (storeName X.env x u) Q E s:=by
 obtain ⟨m,hn,hl⟩:=id I.loc
 have hcls:(X.env.scope.kind == .class || (X.env.scope.kind == .module && X.env.locals != X.env.globals))=false:=by rw [I.ok.kind];rfl
 have hiσ:i < σ.length:=by rw [I.len];exact (List.getElem?_eq_some_iff.mp hi).1
 have cne:=I.cne
 have tracked:∀ {a:Addr} {h':Heap},(∃ o,s.heap.get? a=some o/\H a=none)->Heap.SameBut a s.heap h'->HOk X.prog X.w H h':=fun {a h'} ha hs b ob e=>by
  obtain ⟨_,_,hfree⟩:=ha
  refine (I.hok b ob e).stay (fun c w' hc q=>(hs.2 c ?_).trans q) (fun _ q=>q) fun _ _ q=>q
  rintro rfl
  rcases hc with rfl | hc
  ·rw [hfree] at e;cases e
  ·rw [hfree] at hc;cases hc
 rcases hx with hk | hk
 ·refine wpAny_storeName_local hk hn (fun h' hn' hs=>?_) hcls
  obtain ⟨oL,_,_,hoL,_⟩:=id hn
  refine h _ ⟨I.ok,I.os,I.bare,⟨fun b o e n hb hx=>?_,fun b o e n hb hx=>?_,I.base.free,fun b o e hx=>?_,I.base.tups,I.base.frzs,I.base.tbls⟩,⟨_,hn',fun j y v' e1 e2 e3=>?_⟩,fun y c e=>?_,I.free,I.freeC,fun p hp=>?_,tracked ⟨oL,hoL,I.free⟩ hs,by simpa using I.len⟩ ⟨_,hs,.inl rfl⟩
  ·exact (hs.2 b (Nat.ne_of_lt (Nat.lt_of_lt_of_le (Heap.lt_size e) I.ok.above))).trans (I.base.keep b o e n hb hx)
  ·obtain ⟨sl,e1⟩:=I.base.slot b o e n hb hx
   exact ⟨sl,(hs.2 b (Nat.ne_of_lt (Nat.lt_of_lt_of_le (Heap.lt_size e) I.ok.above))).trans e1⟩
  ·obtain ⟨o',e1⟩:=I.base.there b o e hx
   exact ⟨o',(hs.2 b (Nat.ne_of_lt (Nat.lt_of_lt_of_le (Heap.lt_size e) I.ok.above))).trans e1⟩
  ·by_cases hj:j=i
   ·subst hj
    rw [hi] at e1;cases e1
    rw [List.getElem?_set_self hiσ] at e2
    cases e2
    exact ⟨u,r,.inl ⟨hk,by simp⟩⟩
   ·rw [List.getElem?_set_ne (Ne.symm hj)] at e2
    obtain ⟨u',r',q⟩:=hl j y v' e1 e2 e3
    refine ⟨u',r',?_⟩
    rcases q with ⟨k,e⟩ | ⟨k,c,e,z⟩
    ·refine .inl ⟨k,?_⟩
     have:y≠x:=fun e=>hj (nodup_ix hN e1 (e ▸ hi))
     simp [this,e]
    ·exact .inr ⟨k,c,e,z.sameBut hs (cne y c e)⟩
  ·obtain ⟨w',z⟩:=I.cell y c e
   exact ⟨w',z.sameBut hs (cne y c e)⟩
  ·obtain ⟨e,n,ne,nf,d⟩:=I.pin p hp
   exact ⟨(hs.2 p.1 ne).trans e,n,ne,nf,d⟩
 ·have hfn:X.fn x=true:=by
   rcases hf with z | z
   ·exact z
   ·rw [z] at hk;cases hk
  obtain ⟨c,hc⟩:=I.ok.has x (.inl hk)
  obtain ⟨w',z⟩:=I.cell x c hc
  refine wpAny_storeName_cell I.ok.kind hk hc z (fun h' hc' hs=>?_)
  obtain ⟨oc,hoc,hocd⟩:=id z
  refine h { s with heap:=h' } ⟨I.ok,I.os,I.bare,⟨fun b o e n hb hx=>?_,fun b o e n hb hx=>?_,I.base.free,fun b o e hx=>?_,I.base.tups,I.base.frzs,I.base.tbls⟩,⟨m,hn.sameBut hs (Ne.symm (cne x c hc)),fun j y v' e1 e2 e3=>?_⟩,fun y c' e=>?_,I.free,I.freeC,fun p hp=>?_,tracked ⟨oc,hoc,I.freeC x c hc⟩ hs,by simpa using I.len⟩ ⟨c,hs,.inr hc⟩
  ·exact (hs.2 b (Nat.ne_of_lt (Nat.lt_of_lt_of_le (Heap.lt_size e) (I.ok.cab x c hfn hc)))).trans (I.base.keep b o e n hb hx)
  ·obtain ⟨sl,e1⟩:=I.base.slot b o e n hb hx
   exact ⟨sl,(hs.2 b (Nat.ne_of_lt (Nat.lt_of_lt_of_le (Heap.lt_size e) (I.ok.cab x c hfn hc)))).trans e1⟩
  ·obtain ⟨o',e1⟩:=I.base.there b o e hx
   exact ⟨o',(hs.2 b (Nat.ne_of_lt (Nat.lt_of_lt_of_le (Heap.lt_size e) (I.ok.cab x c hfn hc)))).trans e1⟩
  ·by_cases hj:j=i
   ·subst hj
    rw [hi] at e1;cases e1
    rw [List.getElem?_set_self hiσ] at e2
    cases e2
    exact ⟨u,r,.inr ⟨.inl hk,c,hc,hc'⟩⟩
   ·rw [List.getElem?_set_ne (Ne.symm hj)] at e2
    obtain ⟨u',r',q⟩:=hl j y v' e1 e2 e3
    refine ⟨u',r',?_⟩
    rcases q with q | ⟨k,c',e,z'⟩
    ·exact .inl q
    ·refine .inr ⟨k,c',e,z'.sameBut hs ?_⟩
     rintro rfl
     exact hj (nodup_ix hN e1 (I.ok.inj _ _ _ e hc ▸ hi))
  ·by_cases hcc:c'=c
   ·subst hcc;exact ⟨_,hc'⟩
   ·obtain ⟨w2,z2⟩:=I.cell y c' e
    exact ⟨w2,z2.sameBut hs hcc⟩
  ·obtain ⟨e,n,ne,nf,d⟩:=I.pin p hp
   refine ⟨(hs.2 p.1 ?_).trans e,n,ne,nf,d⟩
   intro q
   rw [q,hoc] at e
   have q':oc=p.2:=Option.some.inj e
   exact d w' (by rw [<-q'];exact hocd)
theorem store_ok {M:Model} {A:Around} {E:Value->Shared->Prop} {i:Nat} {x:Str} {v:V} {u:Value} {Q:Unit->Shared->Prop} (I:Inv X pins σ H s) (hN:X.N.Nodup) (hi:X.N[i]? = some x) (hx:Loc X.env.scope x) (r:RelV v u)
  (h:∀ s',Inv X pins (σ.set i (some v)) H s'->Q () s') (hf:X.fn x=true\/X.env.scope.names.lookup x=some .local:=by first | exact .inl rfl | exact .inr rfl | assumption):wpAny M A (storeName X.env x u) Q E s:=
 store_ok2 I hN hi hx r (fun s' I' _=>h s' I') hf
theorem Inv.call' {s':Shared} {ch:List Addr} (I:Inv X pins σ H s) (ho:s'.os=s.os) (u:Un (frs X.stack) ch H H' s.heap s'.heap) (hok:HOk X.prog X.w H' s'.heap) (hg:AllBare s'.gens)
  (hch:∀ b∈ch,(b∈X.ex\/X.s₀.heap.objs.size<=b)/\b≠X.env.locals/\(∀ x c,X.env.cells.lookup x=some c->c≠b)/\∀ p∈X.pn++pins,p.1≠b):Inv X pins σ H' s':=by
 obtain ⟨h',g',d',t',o'⟩:=s'
 have e:o'=s.os:=ho
 subst e
 exact I.call (g':=g') (t':=t') (d':=d') u hok hg hch
end
abbrev XK:=Value->Option Addr->Hp->Prop
abbrev St:=List (Option V)
abbrev VK:=V->Hp->Prop
abbrev TE:=St->Hp->VK->Prop
abbrev TT:=St->Hp->(Bool->Hp->Prop)->Prop
abbrev TA:=St->Hp->(List V->Hp->Prop)->Prop
structure Ends where
 nx:St->Hp->Prop
 rt:VK
 bk:St->Hp->Prop:=fun _ _=>False
 ct:St->Hp->Prop:=fun _ _=>False
abbrev TS:=Ends->St->Hp->Prop
def EP (X:Cx) (pins:List (Addr×Obj)) (σ:St) (Q:VK) (u:Value) (s':Shared):Prop:=∃ v H',Inv X pins σ H' s'/\RelV v u/\Q v H'
def TP (X:Cx) (pins:List (Addr×Obj)) (σ:St) (Q:Bool->Hp->Prop) (b:Bool) (s':Shared):Prop:=∃ H',Inv X pins σ H' s'/\Q b H'
def AP (X:Cx) (pins:List (Addr×Obj)) (σ:St) (Q:List V->Hp->Prop) (us:List Value) (s':Shared):Prop:=∃ vs H',Inv X pins σ H' s'/\Vals vs us/\Q vs H'
def SP (X:Cx) (pins:List (Addr×Obj)) (D:Ends) (f:Flow) (s':Shared):Prop:=
 match f with
 | .next=>∃ σ' H',Inv X pins σ' H' s'/\D.nx σ' H'
 | .brk=>∃ σ' H',Inv X pins σ' H' s'/\D.bk σ' H'
 | .cont=>∃ σ' H',Inv X pins σ' H' s'/\D.ct σ' H'
 | .ret u=>∃ v σ' H',Inv X pins σ' H' s'/\RelV v u/\D.rt v H'
def PE (X:Cx) (e:Expr) (t:TE):Prop:=
 ∀ (pins:List (Addr×Obj)) (s:Shared) (σ:St) (H:Hp) (Q:VK),Inv X pins σ H s->t σ H Q->wpAny (model X.prog X.w) X.A (eval e X.env) (EP X pins σ Q) X.xe s
def PT (X:Cx) (e:Expr) (t:TT):Prop:=
 ∀ (pins:List (Addr×Obj)) (s:Shared) (σ:St) (H:Hp) (Q:Bool->Hp->Prop),Inv X pins σ H s->t σ H Q->wpAny (model X.prog X.w) X.A (isTrue e X.env (eval e X.env)) (TP X pins σ Q) X.xe s
def PW (X:Cx) (e:Expr) (t:TT):Prop:=
 ∀ (whole:Sem Value) (pins:List (Addr×Obj)) (s:Shared) (σ:St) (H:Hp) (Q:Bool->Hp->Prop),Inv X pins σ H s->t σ H Q->wpAny (model X.prog X.w) X.A (isTrue e X.env whole) (TP X pins σ Q) X.xe s
theorem PW.pt {X:Cx} {e:Expr} {t:TT} (h:PW X e t):PT X e t:=h _
def PA (X:Cx) (es:List Expr) (t:TA):Prop:=
 ∀ (pos:Pos) (pins:List (Addr×Obj)) (s:Shared) (σ:St) (H:Hp) (Q:List V->Hp->Prop),Inv X pins σ H s->t σ H Q->wpAny (model X.prog X.w) X.A (spliced (backTo pos (starEach es X.env))) (AP X pins σ Q) X.xe s
def PS (X:Cx) (st:Stmt) (t:TS):Prop:=
 ∀ (pins:List (Addr×Obj)) (s:Shared) (σ:St) (H:Hp) (D:Ends),Inv X pins σ H s->t D σ H->wpAny (model X.prog X.w) X.A (exec st X.env) (SP X pins D) X.xe s
def PSs (X:Cx) (st:List Stmt) (t:TS):Prop:=
 ∀ (pins:List (Addr×Obj)) (s:Shared) (σ:St) (H:Hp) (D:Ends),Inv X pins σ H s->t D σ H->wpAny (model X.prog X.w) X.A (execs st X.env) (SP X pins D) X.xe s
theorem thn {α:Type} {t:Sem α} {Q Q':α->Shared->Prop} {M:Model} {A:Around} {E:Value->Shared->Prop} {s:Shared} (h:wpAny M A t Q E s) (hQ:∀ a s,Q a s->Q' a s):wpAny M A t Q' E s:=wpAny_mono h hQ fun _ _ x=>x
end L2
namespace L2
open PySem PySem.Spec PyProof.Rows
section
variable {X:Cx}
def tVar (i:Nat):TE:=fun σ H Q=>∃ v,σ[i]? = some (some v)/\Q v H
def tC (v:V):TE:=fun _ H Q=>Q v H
theorem pe_var {i:Nat} {x:Str} {pos:Pos} (hN:X.N[i]? = some x) (hv:Vis X.env.scope x) (hd:(x == ("__debug__" : Str))=false:=by decide) (hcd:(x == ("__classdict__" : Str))=false:=by decide):PE X (.Name x pos) (tVar i):=by
 intro pins s σ H Q I h
 obtain ⟨v,e,h⟩:=h
 obtain ⟨m,hn,hl⟩:=I.loc
 obtain ⟨u,r,l⟩:=hl i x v hN e hv
 have fin:EP X pins σ Q u s:=⟨v,H,I,r,h⟩
 rcases l with ⟨hk,hm⟩ | ⟨hk,c,hc,hcell⟩
 ·exact wpAny_Name (wpAny_loadName_local I.ok.kind hk hn hm fin) hd
 ·rcases hk with hk | hk
  ·exact wpAny_Name (wpAny_loadName_cell I.ok.kind hk hc hcell fin) hd
  ·exact wpAny_Name (wpAny_loadName_free I.ok.kind hk hc hcell fin hcd) hd
theorem pe_int {i j pos}:PE X (.Constant (.int i) j pos) (tC (.int i)):=fun _ _ _ H _ I h=>wpAny_Constant_int ⟨.int i,H,I.tok _,⟨_,rfl⟩,h⟩
theorem pe_bl {b j pos}:PE X (.Constant (.bool b) j pos) (tC (.bl b)):=fun _ _ _ H _ I h=>Constant_bool ⟨.bl b,H,I,rfl,h⟩
theorem pe_non {j pos}:PE X (.Constant .none j pos) (tC .non):=fun _ _ _ H _ I h=>Constant_none ⟨.non,H,I,rfl,h⟩
theorem pe_str {x j pos}:PE X (.Constant (.str x) j pos) (tC (.str x)):=fun _ _ _ H _ I h=>Calls.Constant_str ⟨.str x,H,I.tok _,⟨_,rfl⟩,h⟩
def Gl (X:Cx) (x:Str):Prop:=X.env.kindOf x=some .globalImplicit
theorem ld_glob {E:Value->Shared->Prop} {pins:List (Addr×Obj)} {s:Shared} {σ:St} {H:Hp} {x:Str} {u:Value} {pos:Pos} {Q:Value->Shared->Prop} (I:Inv X pins σ H s) (hg:Gl X x) (hm:X.mg x=some u) (h:Q u s)
  (hd:(x == ("__debug__" : Str))=false:=by decide):wpAny (model X.prog X.w) X.A (eval (.Name x pos) X.env) Q E s:=
 Calls.Name_function_global I.ok.kind hg (Calls.loadGlobal_global (by rw [I.ok.glob];exact I.mod.glob.keeps I.bk) hm h) hd
theorem ld_blt {E:Value->Shared->Prop} {pins:List (Addr×Obj)} {s:Shared} {σ:St} {H:Hp} {x:Str} {u:Value} {pos:Pos} {Q:Value->Shared->Prop} (I:Inv X pins σ H s) (hg:Gl X x) (hm:X.mg x=none) (hv:bootBuiltins x=some u) (h:Q u s)
  (hn:x≠"__name__" := by decide) (hd:(x == ("__debug__" : Str))=false:=by decide):wpAny (model X.prog X.w) X.A (eval (.Name x pos) X.env) Q E s:=by
 obtain ⟨mb,h1,h2⟩:=I.mod.blt
 exact Calls.Name_function_global I.ok.kind hg (Calls.loadGlobal_builtin (by rw [I.ok.glob];exact I.mod.glob.keeps I.bk) hm (by rw [I.ok.blt];exact h1.keeps I.bk) ((h2 x hn).trans hv) h) hd
theorem pe_glob {x:Str} {v:V} {u:Value} {pos:Pos} (hg:Gl X x) (hm:X.mg x=some u) (r:RelV v u) (hd:(x == ("__debug__" : Str))=false:=by decide):PE X (.Name x pos) (tC v):=
 fun _ _ _ H _ I h=>ld_glob I hg hm ⟨v,H,I,r,h⟩ hd
theorem pe_bltn {x:Str} {v:V} {u:Value} {pos:Pos} (hg:Gl X x) (hm:X.mg x=none) (hv:bootBuiltins x=some u) (r:RelV v u) (hn:x≠"__name__" := by decide) (hd:(x == ("__debug__" : Str))=false:=by decide):PE X (.Name x pos) (tC v):=
 fun _ _ _ H _ I h=>ld_blt I hg hm hv ⟨v,H,I,r,h⟩ hn hd
variable {a b:Expr} {ta tb:TE} {pos:Pos}
variable {tA tB':TT} {rest:List Expr}
def tAnd (t u:TT):TT:=fun σ H Q=>t σ H fun c H1=>if c=true then u σ H1 Q else Q false H1
def tOr (t u:TT):TT:=fun σ H Q=>t σ H fun c H1=>if c=true then Q true H1 else u σ H1 Q
def tNot (t:TT):TT:=fun σ H Q=>t σ H fun c H1=>Q (!c) H1
theorem pw_and1 (ha:PT X a tA):PW X (.BoolOp .And [a] pos) tA:=by
 intro wh pins s σ H Q I h
 refine isTrue_and (thn (ha pins s σ H Q I h) fun c s1 e=>?_)
 cases c with
 | true=>exact isTrue_and_nil e
 | false=>exact e
theorem pw_or1 (ha:PT X a tA):PW X (.BoolOp .Or [a] pos) tA:=by
 intro wh pins s σ H Q I h
 refine isTrue_or (thn (ha pins s σ H Q I h) fun c s1 e=>?_)
 cases c with
 | false=>exact isTrue_or_nil e
 | true=>exact e
theorem pw_and (ha:PT X a tA) (hb:PW X (.BoolOp .And (b :: rest) pos) tB'):PW X (.BoolOp .And (a :: b :: rest) pos) (tAnd tA tB'):=by
 intro wh pins s σ H Q I h
 refine isTrue_and (thn (ha pins s σ H _ I h) fun c s1 ⟨H1,I1,q1⟩=>?_)
 cases c with
 | true=>exact hb wh pins s1 σ H1 Q I1 q1
 | false=>exact ⟨H1,I1,q1⟩
theorem pw_or (ha:PT X a tA) (hb:PW X (.BoolOp .Or (b :: rest) pos) tB'):PW X (.BoolOp .Or (a :: b :: rest) pos) (tOr tA tB'):=by
 intro wh pins s σ H Q I h
 refine isTrue_or (thn (ha pins s σ H _ I h) fun c s1 ⟨H1,I1,q1⟩=>?_)
 cases c with
 | true=>exact ⟨H1,I1,q1⟩
 | false=>exact hb wh pins s1 σ H1 Q I1 q1
theorem pt_not (ha:PT X a tA):PT X (.UnaryOp .Not a pos) (tNot tA):=by
 intro pins s σ H Q I h
 exact isTrue_not (ha pins s σ H (fun c H1=>Q (!c) H1) I h)
theorem pe_one {op} {t:TE} (h:PE X a t):PE X (.BoolOp op [a] pos) t:=fun pins s σ H Q I hw=>BoolOp_one (h pins s σ H Q I hw)
end
end L2
namespace L2
open PySem PySem.Spec PyProof.Rows
def SqL (K:PySem.W.Frag) (H:Hp) (a:Addr) (xs:List V):Prop:=
 Rd H a (.lst xs) ∨
  ∃ (o:Obj) (its:Array Value) (n:Nat),K.lookup a=some o/\o.cls = .type "list"/\o.dict=none/\o.data = .seq its n/\its.size<=sizeLine/\Vals xs its.toList
def SqT (K:PySem.W.Frag) (H:Hp) (a:Addr) (xs:List V):Prop:=
 Rd H a (.tup xs) ∨
  ∃ (o:Obj) (its:Array Value) (n:Nat),K.lookup a=some o/\o.cls = .type "tuple"/\o.data = .seq its n/\its.size<=sizeLine/\Vals xs its.toList
def absV:Value->Option V
 | .none=>some .non
 | .bool b=>some (.bl b)
 | .int i _=>some (.int i)
 | .str x _=>some (.str x)
 | .bytes b _=>some (.byt b)
 | .float b _=>some (.flt b)
 | .ref a=>some (.ref a)
 | .type n=>some (.ty n)
 | _=>none
theorem RelV.abs {x:V} {u:Value} (r:RelV x u):absV u=some x:=by
 cases x with
 | non=>cases r;rfl
 | bl _=>cases r;rfl
 | int _=>obtain ⟨t,rfl⟩:=r;rfl
 | str _=>obtain ⟨t,rfl⟩:=r;rfl
 | byt _=>obtain ⟨t,rfl⟩:=r;rfl
 | flt _=>obtain ⟨t,rfl⟩:=r;rfl
 | ref _=>cases r;rfl
 | ty _=>cases r;rfl
theorem RelV.inj {x y:V} {u:Value} (r:RelV x u) (q:RelV y u):x=y:=Option.some.inj (r.abs.symm.trans q.abs)
theorem Vals.inj:∀ {xs ys:List V} {us:List Value},Vals xs us->Vals ys us->xs=ys
 | _,_,_,.nil,.nil=>rfl
 | _,_,_,.cons r t,.cons r' t'=>by rw [r.inj r',Vals.inj t t']
section
variable {X:Cx} {pins:List (Addr×Obj)} {σ:St} {H:Hp} {s:Shared} {a:Addr} {xs ys:List V}
theorem SqL.of {K:PySem.W.Frag} (h:H a=some (.lst xs)):SqL K H a xs:=.inl (.inl h)
theorem SqT.of {K:PySem.W.Frag} (h:H a=some (.tup xs)):SqT K H a xs:=.inl (.inl h)
theorem Inv.list (I:Inv X pins σ H s) (h:SqL X.K H a xs):∃ its:List Value,Vals xs its/\PlainL s.heap a its.toArray/\xs.length<=sizeLine:=by
 rcases h with h | ⟨o,its,n,hk,hc,hd,hs,hz,r⟩
 ·obtain ⟨z,its,n,r,e⟩:=h.ok I.hok
  exact ⟨its,r,⟨_,n,e,rfl,rfl,rfl⟩,z⟩
 ·refine ⟨its.toList,r,⟨o,n,I.kIn a o hk,hc,hd,by simpa using hs⟩,?_⟩
  have e:=r.length
  simp only [Array.length_toList] at e
  omega
theorem Inv.tuple (I:Inv X pins σ H s) (h:SqT X.K H a xs):∃ its:List Value,Vals xs its/\IsTup s.heap a its.toArray/\xs.length<=sizeLine:=by
 rcases h with h | ⟨o,its,n,hk,hc,hs,hz,r⟩
 ·obtain ⟨z,its,r,p⟩:=h.ok I.hok
  exact ⟨its,r,p,z⟩
 ·refine ⟨its.toList,r,⟨o,I.kIn a o hk,hc,n,by simpa using hs⟩,?_⟩
  have e:=r.length
  simp only [Array.length_toList] at e
  omega
theorem Inv.list_inj (I:Inv X pins σ H s) (h:SqL X.K H a xs) (h':SqL X.K H a ys):xs=ys:=by
 obtain ⟨its,r,⟨o,n,e,_,_,d⟩,_⟩:=I.list h
 obtain ⟨its',r',⟨o',n',e',_,_,d'⟩,_⟩:=I.list h'
 rw [e] at e';cases e'
 rw [d] at d'
 injection d' with d1 _
 have:its=its':=by simpa using congrArg Array.toList d1
 subst this
 exact r.inj r'
end
abbrev Cx.wish (X:Cx) (E:Value->Shared->Prop):Cx:={ X with xe:=E }
abbrev Cx.nox (X:Cx):Cx:=X.wish fun _ _=>False
theorem Cx.Ok.wish {X:Cx} (ok:X.Ok) (E:Value->Shared->Prop):(X.wish E).Ok:=
 ⟨ok.mod,ok.kind,ok.glob,ok.blt,ok.above,ok.inj,ok.has,ok.cab,ok.hd,ok.frames,ok.stk,ok.exf,ok.bs,ok.bsz,ok.noex,ok.exfs,ok.funs,ok.frf⟩
theorem Cx.Ok.unwish {X:Cx} {E:Value->Shared->Prop} (ok:(X.wish E).Ok):X.Ok:=
 ⟨ok.mod,ok.kind,ok.glob,ok.blt,ok.above,ok.inj,ok.has,ok.cab,ok.hd,ok.frames,ok.stk,ok.exf,ok.bs,ok.bsz,ok.noex,ok.exfs,ok.funs,ok.frf⟩
section
variable {X:Cx} {pins:List (Addr×Obj)} {σ:St} {H:Hp} {s:Shared} {E:Value->Shared->Prop}
theorem Inv.wish (I:Inv X pins σ H s) (E:Value->Shared->Prop):Inv (X.wish E) pins σ H s:=⟨I.ok.wish E,I.os,I.bare,I.base,I.loc,I.cell,I.free,I.freeC,I.pin,I.hok,I.len⟩
theorem Inv.unwish (I:Inv (X.wish E) pins σ H s):Inv X pins σ H s:=⟨I.ok.unwish,I.os,I.bare,I.base,I.loc,I.cell,I.free,I.freeC,I.pin,I.hok,I.len⟩
theorem SP.unwish {D:Ends} {f:Flow} {s':Shared} (h:SP (X.wish E) pins D f s'):SP X pins D f s':=by
 cases f with
 | next=>obtain ⟨σ',H',I,q⟩:=h;exact ⟨σ',H',I.unwish,q⟩
 | brk=>obtain ⟨σ',H',I,q⟩:=h;exact ⟨σ',H',I.unwish,q⟩
 | cont=>obtain ⟨σ',H',I,q⟩:=h;exact ⟨σ',H',I.unwish,q⟩
 | ret u=>obtain ⟨v,σ',H',I,r,q⟩:=h;exact ⟨v,σ',H',I.unwish,r,q⟩
theorem PE.nox {e:Expr} {t:TE} (h:PE X.nox e t):PE X e t:=fun pins s σ H Q I hw=>
 wpAny_mono (h pins s σ H Q (I.wish _) hw) (fun _ _ ⟨v,H',I',r,q⟩=>⟨v,H',I'.unwish,r,q⟩) fun _ _ z=>False.elim z
theorem PT.nox {e:Expr} {t:TT} (h:PT X.nox e t):PT X e t:=fun pins s σ H Q I hw=>
 wpAny_mono (h pins s σ H Q (I.wish _) hw) (fun _ _ ⟨H',I',q⟩=>⟨H',I'.unwish,q⟩) fun _ _ z=>False.elim z
theorem PSs.nox {st:List Stmt} {t:TS} (h:PSs X.nox st t):PSs X st t:=fun pins s σ H D I hw=>
 wpAny_mono (h pins s σ H D (I.wish _) hw) (fun _ _ q=>q.unwish) fun _ _ z=>False.elim z
end
section
variable {X:Cx} {st:Stmt} {rest:List Stmt} {t u:TS} {e:Expr} {te:TE} {pos:Pos}
def tNext:TS:=fun D σ H=>D.nx σ H
def tSeq (t u:TS):TS:=fun D σ H=>t { D with nx:=u D } σ H
theorem pss_nil:PSs X [] tNext:=fun _ _ σ H _ I h=>wpAny_execs_nil ⟨σ,H,I,h⟩
theorem pss_cons (h1:PS X st t) (h2:PSs X rest u):PSs X (st :: rest) (tSeq t u):=by
 intro pins s σ H D I h
 refine wpAny_execs_cons (thn (h1 pins s σ H { D with nx:=u D } I h) fun f s1 q=>?_)
 cases f with
 | next=>
  obtain ⟨σ',H',I',q⟩:=q
  exact h2 pins s1 σ' H' D I' q
 | ret v=>exact q
 | brk=>exact q
 | cont=>exact q
theorem pss_one (h1:PS X st t):PSs X [st] t:=by
 intro pins s σ H D I h
 refine wpAny_execs_cons (thn (h1 pins s σ H D I h) fun f s1 q=>?_)
 cases f with
 | next=>exact wpAny_execs_nil q
 | ret v=>exact q
 | brk=>exact q
 | cont=>exact q
theorem Inv.quiet {pins:List (Addr×Obj)} {σ:St} {H:Hp} {s:Shared} (I:Inv X pins σ H s):interactive X.env=false:=by simp [interactive,I.ok.kind]
def tDrop (te:TE):TS:=fun D σ H=>te σ H fun _ H1=>D.nx σ H1
theorem ps_expr (he:PE X e te) (hs:swapsWith e none pos.line X.env=pure false:=by rfl):PS X (.Expr e pos) (tDrop te):=by
 intro pins s σ H D I h
 exact wpAny_Expr_any (thn (he pins s σ H _ I h) fun v s1 ⟨x,H1,I1,r1,q1⟩=>⟨σ,H1,I1,q1⟩) I.quiet hs
def tRet (te:TE):TS:=fun D σ H=>te σ H D.rt
theorem ps_ret (he:PE X e te):PS X (.Return (some e) pos) (tRet te):=by
 intro pins s σ H D I h
 exact wpAny_Return_some (thn (he pins s σ H _ I h) fun v s1 ⟨x,H1,I1,r1,q1⟩=>⟨x,σ,H1,I1,r1,q1⟩)
def tIfS (c:TT) (t u:TS):TS:=fun D σ H=>c σ H fun b H1=>if b=true then t D σ H1 else u D σ H1
theorem ps_if {c:Expr} {a b:List Stmt} {tc:TT} (hc:PT X c tc) (ha:PSs X a t) (hb:PSs X b u):PS X (.If c a b pos) (tIfS tc t u):=by
 intro pins s σ H D I h
 refine wpAny_If (thn (hc pins s σ H _ I h) fun d s1 ⟨H1,I1,q1⟩=>?_)
 cases d with
 | true=>exact ha pins s1 σ H1 D I1 q1
 | false=>exact hb pins s1 σ H1 D I1 q1
end
abbrev TG:=V->St->Hp->(St->Hp->Prop)->Prop
abbrev TGs:=List V->St->Hp->(St->Hp->Prop)->Prop
def PG (X:Cx) (target:Expr) (t:TG):Prop:=
 ∀ (pins:List (Addr×Obj)) (s:Shared) (σ:St) (H:Hp) (v:V) (u:Value) (Q:St->Hp->Prop),Inv X pins σ H s->RelV v u->t v σ H Q →
  wpAny (model X.prog X.w) X.A (assign target X.env u) (fun _ s'=>∃ σ' H',Inv X pins σ' H' s'/\Q σ' H') X.xe s
def PGs (X:Cx) (ts:List Expr) (t:TGs):Prop:=
 ∀ (pins:List (Addr×Obj)) (s:Shared) (σ:St) (H:Hp) (vs:List V) (us:List Value) (Q:St->Hp->Prop),Inv X pins σ H s->Vals vs us->t vs σ H Q →
  wpAny (model X.prog X.w) X.A (assignInOrder ((assignEach ts X.env).map (·.2)) us) (fun _ s'=>∃ σ' H',Inv X pins σ' H' s'/\Q σ' H') X.xe s
abbrev TSet:=V->V->V->Hp->(Hp->Prop)->Prop
def PSet (X:Cx) (t:TSet):Prop:=
 ∀ (pins:List (Addr×Obj)) (s:Shared) (σ:St) (H:Hp) (o i v:V) (ov iv u:Value) (Q:Hp->Prop),Inv X pins σ H s->RelV o ov->RelV i iv->RelV v u->t o i v H Q →
  wpAny (model X.prog X.w) X.A (setItem ov iv u) (fun _ s'=>∃ H',Inv X pins σ H' s'/\Q H') X.xe s
abbrev TIp:=V->V->Hp->VK->Prop
def PIp (X:Cx) (op:Operator) (t:TIp):Prop:=
 ∀ (pins:List (Addr×Obj)) (s:Shared) (σ:St) (H:Hp) (x y:V) (v u:Value) (Q:VK),Inv X pins σ H s->RelV x v->RelV y u->t x y H Q →
  wpAny (model X.prog X.w) X.A (inplaceOp op v u) (EP X pins σ Q) X.xe s
section
variable {X:Cx} {pos:Pos}
def gName (i:Nat):TG:=fun v σ H Q=>Q (σ.set i (some v)) H
theorem pg_name {i:Nat} {x:Str} (hN:X.N.Nodup) (hi:X.N[i]? = some x) (hx:Loc X.env.scope x) (hf:X.fn x=true\/X.env.scope.names.lookup x=some .local:=by first | exact .inl rfl | exact .inr rfl | assumption):PG X (.Name x pos) (gName i):=by
 intro pins s σ H v u Q I r h
 exact wpAny_assign_Name (store_ok I hN hi hx r (fun s' I'=>⟨_,H,I',h⟩) hf)
def gNil:TGs:=fun vs σ H Q=>vs=[]/\Q σ H
def gCons (t:TG) (u:TGs):TGs:=fun vs σ H Q=>∃ v r,vs=v :: r/\t v σ H fun σ' H'=>u r σ' H' Q
theorem pgs_nil:PGs X [] gNil:=by
 intro pins s σ H vs us Q I r h
 obtain ⟨e,h⟩:=h
 subst e
 cases r
 exact assignInOrder_nil ⟨σ,H,I,h⟩
theorem pgs_cons {e:Expr} {es:List Expr} {t:TG} {u:TGs} (h1:PG X e t) (h2:PGs X es u)
  (hs:(assignEach (e :: es) X.env).map (·.2)=assign e X.env :: (assignEach es X.env).map (·.2):=by rfl):PGs X (e :: es) (gCons t u):=by
 intro pins s σ H vs us Q I r h
 obtain ⟨v,vr,e1,h⟩:=h
 subst e1
 cases r with
 | cons r rr=>
  rw [hs]
  refine assignInOrder_cons (thn (h1 pins s σ H _ _ _ I r h) fun _ s1 ⟨σ1,H1,I1,q1⟩=>?_)
  exact h2 pins s1 σ1 H1 _ _ Q I1 rr q1
def gTup (K:PySem.W.Frag) (n:Nat) (t:TGs):TG:=fun v σ H Q=>∃ a xs,v = .ref a/\SqT K H a xs/\xs.length=n/\t xs σ H Q
theorem pg_tup {es:List Expr} {k:Nat} {t:TGs} {n:Nat} (hc:X.calm=true) (h:PGs X es t)
  (hn:(assignEach es X.env).length=n:=by rfl) (hst:(assignEach es X.env).findIdx? (·.1)=none:=by rfl):PG X (.Tuple es k pos) (gTup X.K n t):=by
 intro pins s σ H v u Q I r hw
 obtain ⟨a,xs,e1,hq,hl,hw⟩:=hw
 subst e1
 cases r
 obtain ⟨its,rv,ht,hz⟩:=I.tuple hq
 refine assign_Tuple_tuple (I.ok.hd hc) ht (by simp [hn,<-hl,rv.length]) hst fun h' hx=>?_
 have I1:Inv X pins σ H { s with heap:=h' }:=I.kept (t':=s.toks) fun b o e=>hx b o (Nat.ne_of_lt (Heap.lt_size e)) e
 exact h pins _ σ H xs _ Q I1 (by simpa using rv) hw
def gSub (to ti:TE) (t:TSet):TG:=fun v σ H Q=>to σ H fun o H1=>ti σ H1 fun i H2=>t o i v H2 fun H3=>Q σ H3
theorem pg_sub {o i:Expr} {to ti:TE} {t:TSet} (ho:PE X o to) (hi:PE X i ti) (hs:PSet X t)
  (ha:∀ v,assign (.Subscript o i pos) X.env v=(do
   let ov <-holding [v] (eval o X.env)
   let iv <-holding [v,ov] (eval i X.env)
   standAt pos
   holding [v,ov,iv] (setItem ov iv v)
   release [v,ov,iv] []):=by intro _;rfl):PG X (.Subscript o i pos) (gSub to ti t):=by
 intro pins s σ H v u Q I r h
 rw [ha]
 refine wpAny_bind (wpAny_holding (thn (ho pins s σ H _ I h) fun ov s1 ⟨x,H1,I1,r1,q1⟩=>?_))
 refine wpAny_bind (wpAny_holding (thn (hi pins s1 σ H1 _ I1 q1) fun iv s2 ⟨y,H2,I2,r2,q2⟩=>?_))
 refine wpAny_bind (wpAny_standAt (wpAny_bind (wpAny_holding (thn (hs pins s2 σ H2 x y v ov iv u _ I2 r1 r2 r q2) fun _ s3 ⟨H3,I3,q3⟩=>?_))))
 exact wpAny_release ⟨σ,H3,I3,q3⟩
def tAsg (te:TE) (g:TG):TS:=fun D σ H=>te σ H fun x H1=>g x σ H1 D.nx
theorem ps_asg {tg e:Expr} {te:TE} {g:TG} (he:PE X e te) (hg:PG X tg g) (hs:swapsWithSole [tg] e pos.line X.env=pure false:=by rfl) (hw:swappedStores [tg] e X.env=pure none:=by rfl)
  (h1:(assignEach [tg] X.env).map (·.2)=[assign tg X.env]:=by rfl):PS X (.Assign [tg] e pos) (tAsg te g):=by
 intro pins s σ H D I h
 refine wpAny_Assign_stores (thn (he pins s σ H _ I h) fun v s1 ⟨x,H1,I1,r1,q1⟩=>?_) hs hw
 rw [h1]
 exact thn (hg pins s1 σ H1 x v _ I1 r1 q1) fun _ s2 q=>q
def tAug (i:Nat) (te:TE) (ti:TIp):TS:=fun D σ H=>∃ x,σ[i]? = some (some x)/\te σ H fun y H1=>ti x y H1 fun z H2=>D.nx (σ.set i (some z)) H2
theorem ps_aug {i:Nat} {x:Str} {e:Expr} {te:TE} {op:Operator} {ti:TIp} {pos':Pos} (hN:X.N.Nodup) (hi:X.N[i]? = some x) (hx:Loc X.env.scope x) (he:PE X e te) (ho:PIp X op ti) (hf:X.fn x=true\/X.env.scope.names.lookup x=some .local:=by first | exact .inl rfl | exact .inr rfl | assumption) :
  PS X (.AugAssign (.Name x pos') op e pos) (tAug i te ti):=by
 intro pins s σ H D I h
 obtain ⟨v,e1,h⟩:=h
 obtain ⟨m,hn,hl⟩:=I.loc
 have vis:Vis X.env.scope x:=by rcases hx with k | k;exact .inl k;exact .inr (.inl k)
 obtain ⟨u,r,l⟩:=hl i x v hi e1 vis
 refine wpAny_AugAssign_Name ?_
 have go:wpAny (model X.prog X.w) X.A (eval e X.env) (fun w s₂=>wpAny (model X.prog X.w) X.A (inplaceOp op u w) (fun r s₃=>wpAny (model X.prog X.w) X.A (storeName X.env x r) (fun _=>SP X pins D .next) X.xe s₃) X.xe s₂) X.xe s:=by
  refine thn (he pins s σ H _ I h) fun w s1 ⟨y,H1,I1,r1,q1⟩=>?_
  refine thn (ho pins s1 σ H1 v y u w _ I1 r r1 q1) fun z s2 ⟨zv,H2,I2,r2,q2⟩=>?_
  exact store_ok I2 hN hi hx r2 (fun s3 I3=>⟨_,H2,I3,q2⟩) hf
 rcases l with ⟨hk,hm⟩ | ⟨hk,c,hc,hcell⟩
 ·exact wpAny_loadName_local I.ok.kind hk hn hm go
 ·rcases hk with hk | hk
  ·exact wpAny_loadName_cell I.ok.kind hk hc hcell go
  ·rcases hx with k | k
   ·have:X.env.scope.names.lookup x=some .free:=hk
    rw [k] at this;cases this
   ·have:X.env.scope.names.lookup x=some .free:=hk
    rw [k] at this;cases this
def ipI (f:Int->Int->Int):TIp:=fun x y H Q=>∃ i j,x = .int i/\y = .int j/\Q (.int (f i j)) H
theorem ip_add:PIp X .Add (ipI fun i j=>i+j):=by
 intro pins s σ H x y v u Q I r1 r2 h
 obtain ⟨i,j,e1,e2,q⟩:=h
 subst e1;subst e2
 obtain ⟨t,rfl⟩:=r1
 obtain ⟨t',rfl⟩:=r2
 exact iadd_int ⟨.int _,H,I.tok _,⟨_,rfl⟩,q⟩
end
section
variable {X:Cx} {pos:Pos}
def tWhile (c:TT) (tb:TS):TS:=fun D σ H=>∃ W:Nat->St->Hp->Prop,(∃ m,W m σ H)/\∀ m σ H,W m σ H →
 c σ H fun b H1=>if b=true then ∃ N:St->Hp->Prop,(∀ σ' H',N σ' H'->∃ m',m' < m/\W m' σ' H')/\tb { D with nx:=N,ct:=N,bk:=D.nx } σ H1 else D.nx σ H1
theorem ps_while {c:Expr} {body:List Stmt} {tc:TT} {tb:TS} (hp:PassesOwn (model X.prog X.w) X.A X.env X.xe) (hc:PT X c tc) (hb:PSs X body tb):PS X (.While c body [] pos) (tWhile tc tb):=by
 intro pins s σ H D I h
 obtain ⟨W,⟨m0,w0⟩,turn⟩:=h
 refine wpAny_While (codeAny_whileLoop (fun n s'=>∃ σ' H',Inv X pins σ' H' s'/\W n σ' H') ?_ m0 ⟨σ,H,I,w0⟩)
 rintro n s1 ⟨σ1,H1,I1,w1⟩
 refine wpAny_passesOwn hp (thn (hc pins s1 σ1 H1 _ I1 (turn n σ1 H1 w1)) fun b s2 ⟨H2,I2,q2⟩=>?_)
 cases b with
 | true=>
  obtain ⟨N,hN,q2⟩:=q2
  rw [if_pos rfl]
  refine wpAny_passesOwn hp (thn (hb pins s2 σ1 H2 _ I2 q2) fun f s3 q3=>?_)
  cases f with
  | next=>
   obtain ⟨σ3,H3,I3,n3⟩:=q3
   obtain ⟨m',hm,w3⟩:=hN σ3 H3 n3
   exact ⟨m',hm,σ3,H3,I3,w3⟩
  | cont=>
   obtain ⟨σ3,H3,I3,n3⟩:=q3
   obtain ⟨m',hm,w3⟩:=hN σ3 H3 n3
   exact ⟨m',hm,σ3,H3,I3,w3⟩
  | brk=>exact q3
  | ret v=>exact q3
 | false=>
  rw [if_neg Bool.false_ne_true]
  exact wpAny_execs_nil ⟨σ1,H2,I2,q2⟩
end
structure It where
 go:Nat->Hp->Prop
 yld:Nat->Hp->V->Hp->Prop
 stop:Nat->Hp->Prop
def FpOk (X:Cx) (pins:List (Addr×Obj)) (H:Hp) (b:Addr):Prop:=
 H b=none/\b≠X.env.locals/\b ∉ X.fs/\(b∈X.ex\/X.s₀.heap.objs.size<=b)/\(∀ x c,X.env.cells.lookup x=some c->c≠b)/\∀ p∈X.pn++pins,p.1≠b
theorem Inv.fpOk {X:Cx} {pins:List (Addr×Obj)} {σ:St} {H H':Hp} {s:Shared} {b:Addr} (I:Inv X pins σ H s) (hb:s.heap.objs.size<=b) (hn:H' b=none):FpOk X pins H' b:=by
 refine ⟨hn,Nat.ne_of_gt (Nat.lt_of_lt_of_le I.lt hb),I.nofs hb,.inr (Nat.le_trans I.sz hb),fun x c e z=>?_,fun p hp z=>?_⟩
 ·obtain ⟨v,q⟩:=I.cell x c e
  exact absurd (Nat.lt_of_lt_of_le q.lt (by rw [z];exact hb)) (Nat.lt_irrefl _)
 ·exact absurd (Nat.lt_of_lt_of_le (Heap.lt_size (I.pin p hp).1) (by rw [z];exact hb)) (Nat.lt_irrefl _)
structure Turn (P:Program) (w:World) (K:PySem.W.Frag) (tg:Expr) (J:It) (fp:List Addr) (it:Addr) (tn:Nat->Heap->Prop):Prop where
 mem:it∈fp
 obj:∀ i h,tn i h->∀ b∈fp,∃ o,h.get? b=some o/\∀ v,o.data≠.cell v
 keep:∀ i h h',tn i h->(∀ b∈fp,∀ o,h.get? b=some o->h'.get? b=some o)->tn i h'
 item:∀ (X:Cx),X.prog=P->X.w=w->X.K=K->X.calm=true->∀ (i:Nat) (pins:List (Addr×Obj)) (s:Shared) (σ:St) (H:Hp) (E:Value->Shared->Prop),Inv X pins σ H s->(∀ b∈fp,FpOk X pins H b)->tn i s.heap->J.go i H →
  wpAny (model P w) X.A (pyNext (.ref it)) (fun r s1=>∃ u,r=some u ∧
   wpAny (model P w) X.A (letOwnedTupleGo tg (.ref it) u) (fun _ s2=>∃ x H',Inv X pins σ H' s2/\RelV x u/\J.yld i H x H'/\tn (i+1) s2.heap/\∀ b∈fp,H' b=none) E s1) E s
 done:∀ (X:Cx),X.prog=P->X.w=w->X.K=K->X.calm=true->∀ (i:Nat) (pins:List (Addr×Obj)) (s:Shared) (σ:St) (H:Hp) (E:Value->Shared->Prop),Inv X pins σ H s->(∀ b∈fp,FpOk X pins H b)->tn i s.heap->J.stop i H →
  wpAny (model P w) X.A (pyNext (.ref it)) (fun r s1=>r=none/\Inv X pins σ H s1) E s
 self:∀ (A:Around) (i:Nat) (s:Shared) (Q:Value->Shared->Prop) (E:Value->Shared->Prop),tn i s.heap->Q (.ref it) s->wpAny (model P w) A (pyIter (.ref it)) Q E s
abbrev TI:=St->Hp->(It->Hp->Prop)->Prop
def PIE (X:Cx) (pins:List (Addr×Obj)) (σ:St) (tg:Expr) (R:It->Hp->Prop) (itv:Value) (s2:Shared):Prop:=
 ∃ (it:Addr) (fp:List Addr) (tn:Nat->Heap->Prop) (J:It) (H':Hp),itv = .ref it/\Inv X pins σ H' s2/\Turn X.prog X.w X.K tg J fp it tn/\tn 0 s2.heap/\(∀ b∈fp,FpOk X pins H' b)/\R J H'
def PI (X:Cx) (tg iter:Expr) (wi:TI):Prop:=
 ∀ (pins:List (Addr×Obj)) (s:Shared) (σ:St) (H:Hp) (R:It->Hp->Prop),Inv X pins σ H s->wi σ H R →
  wpAny (model X.prog X.w) X.A (eval iter X.env) (fun v s1=>wpAny (model X.prog X.w) X.A (pyIter v) (PIE X pins σ tg R) X.xe s1) X.xe s
theorem go_of {M:Model} {A:Around} {E:Value->Shared->Prop} {s:Shared} {tg:Expr} {it:Addr} {u:Value} {o:Obj} {n:String} {vs:Array Value} {Q:Unit->Shared->Prop} (ho:s.heap.get? it=some o) (hc:o.cls = .type n) (hd:o.data = .fields vs)
  (hn:["enumerate","zip","dict_itemiterator","dict_reverseitemiterator","odict_iterator","itertools.zip_longest","itertools.pairwise"].contains n=false) (hQ:Q () s):wpAny M A (letOwnedTupleGo tg (.ref it) u) Q E s:=by
 unfold letOwnedTupleGo
 cases tg<;>first
  | exact wpAny_pure hQ
  | (cases u<;>first
    | exact wpAny_pure hQ
    | (refine wpAny_bind (wpAny_load ho ?_)
       rw [hc,hd]
       show wpAny M A (if (["enumerate","zip","dict_itemiterator","dict_reverseitemiterator","odict_iterator","itertools.zip_longest","itertools.pairwise"].contains n && vs[0]? == some (rawInt _))=true then _ else _) Q E s
       rw [if_neg (by intro h;rw [hn,Bool.false_and] at h;cases h)]
       exact wpAny_pure hQ))
def Itl (K:PySem.W.Frag) (a:Addr):It:=
 ⟨fun i H=>∃ xs x,SqL K H a xs/\xs[i]? = some x,fun i H x H'=>H'=H/\∀ xs,SqL K H a xs->xs[i]? = some x,fun i H=>∃ xs,SqL K H a xs/\xs.length<=i⟩
def Itr (lo:Int) (n:Nat):It:=⟨fun i _=>i < n,fun i H x H'=>H'=H/\x = .int (lo+i),fun i _=>n<=i⟩
theorem turn_list {P:Program} {w:World} {K:PySem.W.Frag} {tg:Expr} (a it:Addr):Turn P w K tg (Itl K a) [it] it (fun i h=>h.IsListIter it a i) where
 mem:=by simp
 obj:=fun i h st b hb=>by
  have e:b=it:=by simpa using hb
  subst e
  obtain ⟨o,e,c,d⟩:=st
  exact ⟨o,e,fun v z=>by rw [d] at z;cases z⟩
 keep:=fun i h h' st k=>st.at fun o e=>k it (by simp) o e
 item:=by
  intro X hP hw hK hc i pins s σ H E I hf st hg
  subst hP hw hK
  obtain ⟨xs,x,hq,hx⟩:=hg
  obtain ⟨its,rv,p,hz⟩:=I.list hq
  obtain ⟨u,hu,ru⟩:=rv.get hx
  obtain ⟨f0,f1,f2,f3,f4,f5⟩:=hf it (by simp)
  refine wpAny_pyNext_list_item st p.isList (x:=u) (by simpa using hu) fun h' st' sb=>?_
  have I1:Inv X pins σ H { s with heap:=h' }:=I.turned (t':=s.toks) (fun b o hb e=>(sb.2 b hb).trans e) f0 f1 f3 f4 f5
  obtain ⟨o,e,c,d⟩:=id st'
  exact ⟨u,rfl,go_of (s:={ s with heap:=h' }) e c d (by decide) ⟨x,H,I1,ru,⟨rfl,fun ys hy=>by rw [I.list_inj hy hq];exact hx⟩,st',fun b hb=>(hf b hb).1⟩⟩
 done:=by
  intro X hP hw hK hc i pins s σ H E I hf st hg
  subst hP hw hK
  obtain ⟨xs,hq,hx⟩:=hg
  obtain ⟨its,rv,p,hz⟩:=I.list hq
  obtain ⟨f0,f1,f2,f3,f4,f5⟩:=hf it (by simp)
  have hl:=rv.length
  exact wpAny_pyNext_list_end (I.ok.hd hc) st p.isList (by simp;omega) fun h' eb=>⟨rfl,I.turned (t':=s.toks) (fun b o hb e=>eb b o hb e) f0 f1 f3 f4 f5⟩
 self:=fun _ _ _ _ _ st h=>wpAny_pyIter_listiter st h
theorem turn_range {P:Program} {w:World} {K:PySem.W.Frag} {tg:Expr} (it:Addr) (lo:Int) (n:Nat):Turn P w K tg (Itr lo n) [it] it (fun i h=>IsRangeIter h it (lo+(i:Nat) * 1) ((n:Int) - (i:Nat)) 1) where
 mem:=by simp
 obj:=fun i h st b hb=>by
  have e:b=it:=by simpa using hb
  subst e
  exact ⟨_,st,fun v z=>by
   have z':Data.fields _=Data.cell v:=z
   cases z'⟩
 keep:=fun i h h' st k=>k it (by simp) _ st
 item:=by
  intro X hP hw hK hc i pins s σ H E I hf st hg
  subst hP hw hK
  obtain ⟨f0,f1,f2,f3,f4,f5⟩:=hf it (by simp)
  have W:=Walks.range (prog:=X.prog) (w:=X.w) (I.ok.hd hc) it lo 1 n
  refine W.item i s _ _ hg st fun v h' tk hv st' kk=>?_
  obtain ⟨t,rfl⟩:=hv
  have I1:Inv X pins σ H { s with heap:=h',toks:=tk }:=I.turned (fun b o hb e=>kk b o (by simpa using hb) e) f0 f1 f3 f4 f5
  refine ⟨_,rfl,go_of (s:={ s with heap:=h',toks:=tk }) (n:= "range_iterator") st' rfl rfl (by decide) ⟨.int (lo+i),H,I1,⟨t,?_⟩,⟨rfl,rfl⟩,st',fun b hb=>(hf b hb).1⟩⟩
  rw [Int.mul_one]
 done:=by
  intro X hP hw hK hc i pins s σ H E I hf st hg
  subst hP hw hK
  obtain ⟨f0,f1,f2,f3,f4,f5⟩:=hf it (by simp)
  exact wpAny_pyNext_range_end (I.ok.hd hc) st (by have:n<=i:=hg;omega) fun h' eb=>⟨rfl,I.turned (t':=s.toks) (fun b o hb e=>eb b o hb e) f0 f1 f3 f4 f5⟩
 self:=fun _ _ _ _ _ st h=>wpAny_pyIter_rangeiter st h
end L2
namespace L2
open PySem PySem.Spec PyProof.Rows
section
variable {X:Cx} {tg:Expr}
theorem range_it {pins:List (Addr×Obj)} {σ:St} {H:Hp} {s:Shared} {R:It->Hp->Prop} {E:Value->Shared->Prop} {lo hi:Int} {t u v:Tok} {tk:Nat} (I:Inv X pins σ H s) (h1 : -(2 ^ 62)<=lo) (h2:lo < 2 ^ 62) (h3 : -(2 ^ 62)<=hi) (h4:hi < 2 ^ 62)
  (q:R (Itr lo (hi - lo).toNat) H):wpAny (model X.prog X.w) X.A (pyIter (.ref s.heap.objs.size)) (PIE X pins σ tg R) E { s with heap:=s.heap.push { cls:=.type "range",data:=.fields #[.int lo t,.int hi u,.int 1 v] },toks:=tk }:=by
 refine wpAny_pyIter_range (IsRange.new ..) (small_one h1 h2 h3 h4) ?_
 have I1:Inv X pins σ H { s with heap:=s.heap.push { cls:=.type "range",data:=.fields #[.int lo t,.int hi u,.int 1 v] },toks:=tk }:=I.kept fun b o e=>Heap.get?_push_of_some _ e
 refine ⟨(s.heap.push { cls:=.type "range",data:=.fields #[.int lo t,.int hi u,.int 1 v] }).objs.size,[(s.heap.push { cls:=.type "range",data:=.fields #[.int lo t,.int hi u,.int 1 v] }).objs.size],_,_,H,rfl,
  I1.kept (t':=tk) fun b o e=>Heap.get?_push_of_some _ e,turn_range _ lo (hi - lo).toNat,?_,fun b hb=>?_,q⟩
 ·have e1:lo+((0:Nat):Int) * 1=lo:=by simp
  have e2:(((hi - lo).toNat:Nat):Int) - ((0:Nat):Int)=Builtin.Range.rangeSize lo hi 1:=by rw [rangeSize_one];split<;>omega
  show IsRangeIter _ _ (lo+((0:Nat):Int) * 1) ((((hi - lo).toNat:Nat):Int) - ((0:Nat):Int)) 1
  rw [e1,e2]
  exact Heap.get?_push_size _ rfl
 ·have e:b=(s.heap.push { cls:=.type "range",data:=.fields #[.int lo t,.int hi u,.int 1 v] }).objs.size:=by simpa using hb
  subst e
  exact I1.fpOk (Nat.le_refl _) (I1.hok.fresh (Nat.le_refl _))
def tFor (wi:TI) (g:TG) (tb:TS):TS:=fun D σ H=>wi σ H fun J H1=>∃ W:Nat->Nat->St->Hp->Prop,(∃ m,W 0 m σ H1)/\∀ i m σ H,W i m σ H →
 (J.stop i H/\D.nx σ H)\/(J.go i H/\∃ N:St->Hp->Prop,(∀ σ' H',N σ' H'->∃ m',m' < m/\W (i+1) m' σ' H')/\∀ x H',J.yld i H x H'->g x σ H' fun σ2 H2=>tb { D with nx:=N,ct:=N,bk:=D.nx } σ2 H2)
def pinsAt (fp:List Addr) (h:Heap):List (Addr×Obj):=fp.filterMap fun b=>(h.get? b).map fun o=>(b,o)
theorem mem_pinsAt {fp:List Addr} {h:Heap} {b:Addr} {o:Obj} (hb:b∈fp) (e:h.get? b=some o):(b,o)∈pinsAt fp h:=List.mem_filterMap.mpr ⟨b,hb,by rw [e];rfl⟩
theorem of_pinsAt {fp:List Addr} {h:Heap} {p:Addr×Obj} (hp:p∈pinsAt fp h):p.1∈fp/\h.get? p.1=some p.2:=by
 obtain ⟨b,hb,e⟩:=List.mem_filterMap.mp hp
 cases q:h.get? b with
 | none=>rw [q] at e;cases e
 | some o=>
  rw [q] at e
  have e':(b,o)=p:=Option.some.inj e
  subst e'
  exact ⟨hb,q⟩
theorem Inv.pinned {pins:List (Addr×Obj)} {σ:St} {H:Hp} {s:Shared} {fp:List Addr} (I:Inv X pins σ H s) (hf:∀ b∈fp,FpOk X pins H b) (ho:∀ b∈fp,∃ o,s.heap.get? b=some o/\∀ v,o.data≠.cell v):Inv X (pins++pinsAt fp s.heap) σ H s:=
 I.pins_of fun p hp=>(List.mem_append.mp hp).elim (fun z=>I.pin p (List.mem_append_right _ z)) fun z=>by
  obtain ⟨hb,e⟩:=of_pinsAt z
  obtain ⟨f0,f1,f2,_⟩:=hf p.1 hb
  obtain ⟨o,e',d⟩:=ho p.1 hb
  rw [e] at e';cases e'
  exact ⟨e,f0,f1,f2,d⟩
theorem Inv.unpinned {pins pl:List (Addr×Obj)} {σ:St} {H:Hp} {s:Shared} (I:Inv X (pins++pl) σ H s):Inv X pins σ H s:=I.pins_of fun p hp=>I.pin p (List.mem_append_right _ (List.mem_append_left _ hp))
theorem ps_for {iter:Expr} {body:List Stmt} {wi:TI} {g:TG} {tb:TS} {pos:Pos} (hp:PassesOwn (model X.prog X.w) X.A X.env X.xe) (hc:X.calm=true) (hi:PI X tg iter wi) (hg:PG X tg g) (hb:PSs X body tb)
  (hs:∀ x,foldedSetIterable iter X.env x=pure x:=by intro _;rfl):PS X (.For tg iter body [] pos) (tFor wi g tb):=by
 intro pins s σ H D I h
 refine wpAny_For (thn (hi pins s σ H _ I h) fun v s1 h1=>thn h1 fun itv s2 h2=>?_) hs
 obtain ⟨it,fp,tn,J,H2,e,I2,T,st2,f2,W,⟨m0,w0⟩,turn⟩:=h2
 subst e
 have stat:∀ {H':Hp},(∀ b∈fp,H' b=none)->∀ b∈fp,FpOk X pins H' b:=fun hn b hb=>⟨hn b hb,(f2 b hb).2⟩
 refine codeAny_forLoop_any (fun n s'=>∃ i σ' H',Inv X pins σ' H' s'/\tn i s'.heap/\(∀ b∈fp,H' b=none)/\W i n σ' H') ?_ m0 ⟨0,σ,H2,I2,st2,fun b hb=>(f2 b hb).1,w0⟩
 rintro n s3 ⟨i,σ3,H3,I3,st3,fr3,w3⟩
 rcases turn i n σ3 H3 w3 with ⟨stop,qn⟩ | ⟨go,N,hN,step⟩
 ·refine wpAny_passesOwn hp (thn (T.done X rfl rfl rfl hc i pins s3 σ3 H3 X.xe I3 (stat fr3) st3 stop) fun r s4 ⟨hr,I4⟩=>?_)
  subst hr
  exact wpAny_execs_nil ⟨σ3,H3,I4,qn⟩
 ·refine wpAny_passesOwn hp (thn (T.item X rfl rfl rfl hc i pins s3 σ3 H3 X.xe I3 (stat fr3) st3 go) fun r s4 ⟨u,hr,h4⟩=>?_)
  subst hr
  refine wpAny_passesOwn hp (thn h4 fun _ s5 ⟨x,H5,I5,r5,y5,st5,fr5⟩=>?_)
  have I5':=I5.pinned (stat fr5) (T.obj _ _ st5)
  refine wpAny_passesOwn hp (thn (hg _ s5 σ3 H5 x u _ I5' r5 (step x H5 y5)) fun _ s6 ⟨σ6,H6,I6,q6⟩=>?_)
  refine wpAny_passesOwn hp (thn (hb _ s6 σ6 H6 _ I6 q6) fun f s7 q7=>?_)
  have again:∀ {σ7:St} {H7:Hp},Inv X (pins++pinsAt fp s5.heap) σ7 H7 s7->N σ7 H7->∃ m,m < n/\∃ i σ' H',Inv X pins σ' H' s7/\tn i s7.heap/\(∀ b∈fp,H' b=none)/\W i m σ' H':=fun {σ7 H7} I7 n7=>by
   obtain ⟨m',hm,w7⟩:=hN σ7 H7 n7
   refine ⟨m',hm,i+1,σ7,H7,I7.unpinned,T.keep _ _ _ st5 fun b hb o e=>(I7.pin (b,o) (List.mem_append_right _ (List.mem_append_right _ (mem_pinsAt hb e)))).1,fun b hb=>?_,w7⟩
   obtain ⟨o,e,d⟩:=T.obj _ _ st5 b hb
   exact (I7.pin (b,o) (List.mem_append_right _ (List.mem_append_right _ (mem_pinsAt hb e)))).2.1
  cases f with
  | next=>obtain ⟨σ7,H7,I7,n7⟩:=q7;exact again I7 n7
  | cont=>obtain ⟨σ7,H7,I7,n7⟩:=q7;exact again I7 n7
  | brk=>obtain ⟨σ7,H7,I7,q7⟩:=q7;exact ⟨σ7,H7,I7.unpinned,q7⟩
  | ret v=>obtain ⟨x7,σ7,H7,I7,r7,q7⟩:=q7;exact ⟨x7,σ7,H7,I7.unpinned,r7,q7⟩
end
end L2
namespace L2
open PySem PySem.Spec PyProof.Rows
abbrev R2:=V->V->Hp->VK->Prop
def OpR (X:Cx) (f:Value->Value->Sem Value) (r:R2):Prop:=
 ∀ (pins:List (Addr×Obj)) (s:Shared) (σ:St) (H:Hp) (x y:V) (v u:Value) (Q:VK),Inv X pins σ H s->RelV x v->RelV y u->r x y H Q →
  wpAny (model X.prog X.w) X.A (f v u) (EP X pins σ Q) X.xe s
def UnR (X:Cx) (f:Value->Sem Value) (r:V->Hp->VK->Prop):Prop:=
 ∀ (pins:List (Addr×Obj)) (s:Shared) (σ:St) (H:Hp) (x:V) (v:Value) (Q:VK),Inv X pins σ H s->RelV x v->r x H Q →
  wpAny (model X.prog X.w) X.A (f v) (EP X pins σ Q) X.xe s
def CallR (X:Cx) (f:Value) (r:List V->Hp->VK->Prop):Prop:=
 ∀ (pins:List (Addr×Obj)) (s:Shared) (σ:St) (H:Hp) (xs:List V) (us:List Value) (Q:VK),Inv X pins σ H s->Vals xs us->r xs H Q →
  wpAny (model X.prog X.w) X.A (call f us) (EP X pins σ Q) X.xe s
def TruR (X:Cx) (r:V->Hp->(Bool->Hp->Prop)->Prop):Prop:=
 ∀ (pins:List (Addr×Obj)) (s:Shared) (σ:St) (H:Hp) (x:V) (v:Value) (Q:Bool->Hp->Prop),Inv X pins σ H s->RelV x v->r x H Q →
  wpAny (model X.prog X.w) X.A (truthy v) (TP X pins σ Q) X.xe s
def tOp (r:R2) (ta tb:TE):TE:=fun σ H Q=>ta σ H fun x H1=>tb σ H1 fun y H2=>r x y H2 Q
def tUn (r:V->Hp->VK->Prop) (ta:TE):TE:=fun σ H Q=>ta σ H fun x H1=>r x H1 Q
def rI (C:Int->Int->Prop) (g:Int->Int->V):R2:=fun x y H Q=>∃ i j,x = .int i/\y = .int j/\C i j/\Q (g i j) H
def rI0 (g:Int->Int->V):R2:=fun x y H Q=>∃ i j,x = .int i/\y = .int j/\Q (g i j) H
def rU (g:Int->V):V->Hp->VK->Prop:=fun x H Q=>∃ i,x = .int i/\Q (g i) H
section
variable {X:Cx} {a b c:Expr} {ta tb tc:TE} {pos:Pos}
theorem binT (ha:PE X a ta) (hb:PE X b tb) {pins:List (Addr×Obj)} {s:Shared} {σ:St} {H:Hp} {R:V->V->Hp->Prop} (I:Inv X pins σ H s)
  (h:ta σ H fun x H1=>tb σ H1 fun y H2=>R x y H2) {Q:Value->Shared->Prop} {f:Value->Value->Sem Value}
  (hf:∀ v u s2 x y H2,Inv X pins σ H2 s2->RelV x v->RelV y u->R x y H2->wpAny (model X.prog X.w) X.A (f v u) Q X.xe s2) :
  wpAny (model X.prog X.w) X.A (eval a X.env) (fun v s₁=>wpAny (model X.prog X.w) X.A (eval b X.env) (fun u s₂=>wpAny (model X.prog X.w) X.A (f v u) Q X.xe s₂) X.xe s₁) X.xe s:=by
 refine thn (ha pins s σ H _ I h) fun v s1 ⟨x,H1,I1,r1,q1⟩=>?_
 refine thn (hb pins s1 σ H1 _ I1 q1) fun u s2 ⟨y,H2,I2,r2,q2⟩=>?_
 exact hf v u s2 x y H2 I2 r1 r2 q2
theorem pe_op {op:Operator} {r:R2} (ho:OpR X (binaryOp op) r) (ha:PE X a ta) (hb:PE X b tb):PE X (.BinOp a op b pos) (tOp r ta tb):=by
 intro pins s σ H Q I h
 exact wpAny_BinOp (binT ha hb I h fun v u s2 x y H2 I2 rx ry q=>ho pins s2 σ H2 x y v u Q I2 rx ry q)
theorem pe_un {op:UnaryOp} {r:V->Hp->VK->Prop} (ho:UnR X (unaryOp op) r) (ha:PE X a ta):PE X (.UnaryOp op a pos) (tUn r ta):=by
 intro pins s σ H Q I h
 exact UnaryOp_ (thn (ha pins s σ H _ I h) fun v s1 ⟨x,H1,I1,r1,q1⟩=>ho pins s1 σ H1 x v Q I1 r1 q1)
theorem opI {f:Value->Value->Sem Value} {C:Int->Int->Prop} {g:Int->Int->Int}
  (rule:∀ (i j:Int) (t u:Tok) (s:Shared) (Q:Value->Shared->Prop) (E:Value->Shared->Prop),C i j->Q (.int (g i j) s.toks) { s with toks:=s.toks+1 }->wpAny (model X.prog X.w) X.A (f (.int i t) (.int j u)) Q E s) :
  OpR X f (rI C fun i j=>.int (g i j)):=by
 intro pins s σ H x y v u Q I rx ry h
 obtain ⟨i,j,rfl,rfl,hc,q⟩:=h
 obtain ⟨t,rfl⟩:=rx
 obtain ⟨t',rfl⟩:=ry
 exact rule i j t t' s _ _ hc ⟨.int (g i j),H,I.tok _,⟨_,rfl⟩,q⟩
theorem opI0 {f:Value->Value->Sem Value} {g:Int->Int->Int}
  (rule:∀ (i j:Int) (t u:Tok) (s:Shared) (Q:Value->Shared->Prop) (E:Value->Shared->Prop),Q (.int (g i j) s.toks) { s with toks:=s.toks+1 }->wpAny (model X.prog X.w) X.A (f (.int i t) (.int j u)) Q E s) :
  OpR X f (rI0 fun i j=>.int (g i j)):=by
 intro pins s σ H x y v u Q I rx ry h
 obtain ⟨i,j,rfl,rfl,q⟩:=h
 obtain ⟨t,rfl⟩:=rx
 obtain ⟨t',rfl⟩:=ry
 exact rule i j t t' s _ _ ⟨.int (g i j),H,I.tok _,⟨_,rfl⟩,q⟩
theorem opB0 {f:Value->Value->Sem Value} {g:Int->Int->Bool}
  (rule:∀ (i j:Int) (t u:Tok) (s:Shared) (Q:Value->Shared->Prop) (E:Value->Shared->Prop),Q (.bool (g i j)) s->wpAny (model X.prog X.w) X.A (f (.int i t) (.int j u)) Q E s) :
  OpR X f (rI0 fun i j=>.bl (g i j)):=by
 intro pins s σ H x y v u Q I rx ry h
 obtain ⟨i,j,rfl,rfl,q⟩:=h
 obtain ⟨t,rfl⟩:=rx
 obtain ⟨t',rfl⟩:=ry
 exact rule i j t t' s _ _ ⟨.bl (g i j),H,I,rfl,q⟩
def CDiv (i j:Int):Prop:=0 < j/\j < 1073741824
def CMul (i j:Int):Prop:=(-(2 ^ 64) < i/\i < 2 ^ 64)\/(-(2 ^ 64) < j/\j < 2 ^ 64)
theorem CMul.ok {i j:Int} (h:CMul i j):IntMulOk i j:=by
 rcases h with ⟨h1,h2⟩ | ⟨h1,h2⟩
 ·exact .of_left (intBits_le_64 h1 h2)
 ·exact .of_right (intBits_le_64 h1 h2)
theorem op_add:OpR X (binaryOp .Add) (rI0 fun i j=>.int (i+j)):=opI0 fun _ _ _ _ _ _ _ q=>add_int q
theorem op_sub:OpR X (binaryOp .Sub) (rI0 fun i j=>.int (i - j)):=opI0 fun _ _ _ _ _ _ _ q=>sub_int q
theorem op_mul:OpR X (binaryOp .Mult) (rI CMul fun i j=>.int (i * j)):=opI fun _ _ _ _ _ _ _ hc q=>mul_int q hc.ok
theorem op_fdiv:OpR X (binaryOp .FloorDiv) (rI CDiv fun i j=>.int (i / j)):=opI fun i j _ _ _ _ _ hc q=>by
 have h1:(0:Int) < j:=hc.1
 have h2:j < 1073741824:=hc.2
 exact floordiv_int (by omega) (by rw [Int.fdiv_eq_ediv_of_nonneg i (by omega)];exact q) (.inl (PyProof.noPylong_small (by omega)))
theorem op_mod:OpR X (binaryOp .Mod) (rI (fun _ j=>0 < j) fun i j=>.int (i % j)):=opI fun i j _ _ _ _ _ hc q=>by
 have h1:(0:Int) < j:=hc
 exact mod_int' (by omega) (by rw [Int.fmod_eq_emod_of_nonneg i (by omega)];exact q)
theorem unI {f:Value->Sem Value} {g:Int->Int}
  (rule:∀ (i:Int) (t:Tok) (s:Shared) (Q:Value->Shared->Prop) (E:Value->Shared->Prop),Q (.int (g i) s.toks) { s with toks:=s.toks+1 }->wpAny (model X.prog X.w) X.A (f (.int i t)) Q E s) :
  UnR X f (rU fun i=>.int (g i)):=by
 intro pins s σ H x v Q I rx h
 obtain ⟨i,rfl,q⟩:=h
 obtain ⟨t,rfl⟩:=rx
 exact rule i t s _ _ ⟨.int (g i),H,I.tok _,⟨_,rfl⟩,q⟩
theorem un_neg:UnR X (unaryOp .USub) (rU fun i=>.int (-i)):=unI fun _ _ _ _ _ q=>neg_int q
end
def scal:V->V->Bool
 | .non,.non=>true | .non,.int _=>true | .int _,.non=>true | .non,.bl _=>true | .bl _,.non=>true | .non,.str _=>true | .str _,.non=>true
 | .int _,.int _=>true | .bl _,.bl _=>true | .str _,.str _=>true | .byt _,.byt _=>true
 | .int _,.str _=>true | .str _,.int _=>true | .bl _,.str _=>true | .str _,.bl _=>true
 | _,_=>false
def rEq:R2:=fun x y H Q=>scal x y=true/\Q (.bl (decide (x=y))) H
def rNe:R2:=fun x y H Q=>scal x y=true/\Q (.bl (!decide (x=y))) H
theorem dec_int {i j:Int}:decide (V.int i=V.int j)=(i == j):=by
 rw [Bool.eq_iff_iff]
 simp
theorem dec_bl {i j:Bool}:decide (V.bl i=V.bl j)=(i == j):=by
 rw [Bool.eq_iff_iff]
 simp
theorem dec_str {i j:Str}:decide (V.str i=V.str j)=(i == j):=by
 rw [Bool.eq_iff_iff]
 simp
theorem dec_byt {i j:Array UInt8}:decide (V.byt i=V.byt j)=(i.toList == j.toList):=by
 rw [Bool.eq_iff_iff]
 cases i
 cases j
 simp
section
variable {X:Cx} {a b c:Expr} {ta tb tc:TE} {pos:Pos}
theorem fin_bl {pins:List (Addr×Obj)} {σ:St} {H:Hp} {s:Shared} {Q:VK} {k k':Bool} (I:Inv X pins σ H s) (q:Q (.bl k) H) (e:k=k'):EP X pins σ Q (.bool k') s:=by
 subst e
 exact ⟨.bl k,H,I,rfl,q⟩
theorem op_eq:OpR X (compareOp .Eq) rEq:=by
 intro pins s σ H x y v u Q I rx ry h
 obtain ⟨hs,q⟩:=h
 cases x with
 | non=>
  cases rx
  cases y with
  | non=>cases ry;exact PySem.EqNone.eq_none_none (fin_bl I q (by simp))
  | bl j=>cases ry;exact PySem.EqNone.eq_none_bool (fin_bl I q (by simp))
  | int j=>obtain ⟨t',rfl⟩:=ry;exact PySem.EqNone.eq_none_int (fin_bl I q (by simp))
  | str j=>obtain ⟨t',rfl⟩:=ry;exact PySem.EqNone.eq_none_str (fin_bl I q (by simp))
  | _=>exact absurd (show false=true from hs) Bool.false_ne_true
 | bl i=>
  cases rx
  cases y with
  | non=>cases ry;exact PySem.EqNone.eq_bool_none (fin_bl I q (by simp))
  | bl j=>cases ry;exact eq_bool (fin_bl I q dec_bl)
  | str j=>obtain ⟨t',rfl⟩:=ry;exact PySem.EqMixed.eq_bool_str (fin_bl I q (by simp))
  | _=>exact absurd (show false=true from hs) Bool.false_ne_true
 | int i=>
  obtain ⟨t,rfl⟩:=rx
  cases y with
  | non=>cases ry;exact PySem.EqNone.eq_int_none (fin_bl I q (by simp))
  | int j=>obtain ⟨t',rfl⟩:=ry;exact eq_int (fin_bl I q dec_int)
  | str j=>obtain ⟨t',rfl⟩:=ry;exact PySem.EqMixed.eq_int_str (fin_bl I q (by simp))
  | _=>exact absurd (show false=true from hs) Bool.false_ne_true
 | str i=>
  obtain ⟨t,rfl⟩:=rx
  cases y with
  | non=>cases ry;exact PySem.EqNone.eq_str_none (fin_bl I q (by simp))
  | bl j=>cases ry;exact PySem.EqMixed.eq_str_bool (fin_bl I q (by simp))
  | int j=>obtain ⟨t',rfl⟩:=ry;exact PySem.EqMixed.eq_str_int (fin_bl I q (by simp))
  | str j=>obtain ⟨t',rfl⟩:=ry;exact eq_str (fin_bl I q dec_str)
  | _=>exact absurd (show false=true from hs) Bool.false_ne_true
 | byt i=>
  obtain ⟨t,rfl⟩:=rx
  cases y with
  | byt j=>obtain ⟨t',rfl⟩:=ry;exact PySem.W.eq_bytes (fin_bl I q dec_byt)
  | _=>exact absurd (show false=true from hs) Bool.false_ne_true
 | _=>cases y<;>exact absurd (show false=true from hs) Bool.false_ne_true
theorem op_ne:OpR X (compareOp .NotEq) rNe:=by
 intro pins s σ H x y v u Q I rx ry h
 obtain ⟨hs,q⟩:=h
 cases x with
 | non=>
  cases rx
  cases y with
  | non=>cases ry;exact PySem.EqNone.ne_none_none (fin_bl I q (by simp))
  | bl j=>cases ry;exact PySem.EqNone.ne_none_bool (fin_bl I q (by simp))
  | int j=>obtain ⟨t',rfl⟩:=ry;exact PySem.EqNone.ne_none_int (fin_bl I q (by simp))
  | str j=>obtain ⟨t',rfl⟩:=ry;exact PySem.EqNone.ne_none_str (fin_bl I q (by simp))
  | _=>exact absurd (show false=true from hs) Bool.false_ne_true
 | bl i=>
  cases rx
  cases y with
  | non=>cases ry;exact PySem.EqNone.ne_bool_none (fin_bl I q (by simp))
  | bl j=>cases ry;exact ne_bool (fin_bl I q (congrArg not dec_bl))
  | str j=>obtain ⟨t',rfl⟩:=ry;exact PySem.EqMixed.ne_bool_str (fin_bl I q (by simp))
  | _=>exact absurd (show false=true from hs) Bool.false_ne_true
 | int i=>
  obtain ⟨t,rfl⟩:=rx
  cases y with
  | non=>cases ry;exact PySem.EqNone.ne_int_none (fin_bl I q (by simp))
  | int j=>obtain ⟨t',rfl⟩:=ry;exact ne_int (fin_bl I q (congrArg not dec_int))
  | str j=>obtain ⟨t',rfl⟩:=ry;exact PySem.EqMixed.ne_int_str (fin_bl I q (by simp))
  | _=>exact absurd (show false=true from hs) Bool.false_ne_true
 | str i=>
  obtain ⟨t,rfl⟩:=rx
  cases y with
  | non=>cases ry;exact PySem.EqNone.ne_str_none (fin_bl I q (by simp))
  | bl j=>cases ry;exact PySem.EqMixed.ne_str_bool (fin_bl I q (by simp))
  | int j=>obtain ⟨t',rfl⟩:=ry;exact PySem.EqMixed.ne_str_int (fin_bl I q (by simp))
  | str j=>obtain ⟨t',rfl⟩:=ry;exact ne_str (fin_bl I q (congrArg not dec_str))
  | _=>exact absurd (show false=true from hs) Bool.false_ne_true
 | byt i=>
  obtain ⟨t,rfl⟩:=rx
  cases y with
  | byt j=>obtain ⟨t',rfl⟩:=ry;exact PySem.W.ne_bytes (fin_bl I q (congrArg not dec_byt))
  | _=>exact absurd (show false=true from hs) Bool.false_ne_true
 | _=>cases y<;>exact absurd (show false=true from hs) Bool.false_ne_true
theorem op_lt:OpR X (compareOp .Lt) (rI0 fun i j=>.bl (decide (i < j))):=opB0 fun _ _ _ _ _ _ _ q=>lt_int q
theorem op_le:OpR X (compareOp .LtE) (rI0 fun i j=>.bl (decide (i<=j))):=opB0 fun _ _ _ _ _ _ _ q=>le_int q
theorem op_gt:OpR X (compareOp .Gt) (rI0 fun i j=>.bl (decide (j < i))):=opB0 fun _ _ _ _ _ _ _ q=>gt_int q
theorem op_ge:OpR X (compareOp .GtE) (rI0 fun i j=>.bl (decide (j<=i))):=opB0 fun _ _ _ _ _ _ _ q=>ge_int q
theorem op_in_str:OpR X (compareOp .In) (fun x y H Q=>∃ i j,x = .str i/\y = .str j/\Q (.bl (!(Builtin.Str.occurrences j i 0 j.length 1).isEmpty)) H):=by
 intro pins s σ H x y v u Q I rx ry h
 obtain ⟨i,j,rfl,rfl,q⟩:=h
 obtain ⟨t,rfl⟩:=rx
 obtain ⟨t',rfl⟩:=ry
 exact in_str (fin_bl I q rfl)
theorem op_isN:OpR X (compareOp .Is) (fun x y H Q=>y = .non/\Q (.bl (decide (x = .non))) H):=by
 intro pins s σ H x y v u Q I rx ry h
 obtain ⟨rfl,q⟩:=h
 cases ry
 refine is_none_gen (fin_bl I q ?_)
 cases x<;>first
  | (cases rx;rfl)
  | (obtain ⟨t,rfl⟩:=rx;rfl)
theorem OpR.or {f:Value->Value->Sem Value} {r r':R2} (h:OpR X f r) (h':OpR X f r'):OpR X f (fun x y H Q=>r x y H Q\/r' x y H Q):=by
 intro pins s σ H x y v u Q I rx ry q
 rcases q with q | q
 ·exact h pins s σ H x y v u Q I rx ry q
 ·exact h' pins s σ H x y v u Q I rx ry q
theorem nomark (b:Expr) {op:CmpOp} (h:op≠.In:=by decide) (h2:op≠.NotIn:=by decide):behindInMarks op b=false:=by
 have e1:(op == CmpOp.In)=false:=by cases op<;>first | rfl | exact absurd rfl h
 have e2:(op == CmpOp.NotIn)=false:=by cases op<;>first | rfl | exact absurd rfl h2
 cases b<;>simp [behindInMarks,e1,e2]
theorem pe_cmpR {op:CmpOp} {r:R2} (ho:OpR X (compareOp op) r) (ha:PE X a ta) (hb:PE X b tb) (hm:behindInMarks op b=false):PE X (.Compare a [op] [b] pos) (tOp r ta tb):=by
 intro pins s σ H Q I h
 exact wpAny_Compare1 (binT ha hb I h fun v u s2 x y H2 I2 rx ry q=>ho pins s2 σ H2 x y v u Q I2 rx ry q) hm
def TruV (K:PySem.W.Frag) (x:V) (H:Hp) (k:Bool):Prop:=
 match x with
 | .non=>k=false
 | .bl b=>k=b
 | .int i=>k=(i != 0)
 | .str y=>y.length<=sizeLine/\k=((y.length:Int) != 0)
 | .byt y=>y.size<=sizeLine/\k=((y.size:Int) != 0)
 | .ref p=>(∃ xs,SqL K H p xs/\k=!xs.isEmpty)\/(∃ xs,SqT K H p xs/\k=!xs.isEmpty)\/∃ kvs,H p=some (.dK kvs)/\k=!kvs.isEmpty
 | _=>False
theorem isEmpty_kv {κ:Type} {kvs:List (κ×V)} {vs:List (κ×Value)} (r:KV kvs vs):(!vs.isEmpty)=!kvs.isEmpty:=by
 cases r<;>rfl
theorem isEmpty_of {xs:List V} {its:List Value} (r:Vals xs its):(!its.toArray.isEmpty)=!xs.isEmpty:=by
 cases r<;>simp
theorem line63:(sizeLine:Nat) < 2 ^ 63:=by rw [sizeLine_eq];decide
theorem tru_ok:TruR X (fun x H Q=>∃ k,TruV X.K x H k/\Q k H):=by
 intro pins s σ H x v Q I rx h
 obtain ⟨k,e,q⟩:=h
 have hl:=line63
 have hs:sizeLine=16777216:=sizeLine_eq
 cases x with
 | non=>
  cases rx
  have e':k=false:=e
  subst e'
  exact truthy_none ⟨H,I,q⟩
 | bl b=>
  cases rx
  have e':k=b:=e
  subst e'
  exact wpAny_truthy_bool ⟨H,I,q⟩
 | int i=>
  obtain ⟨t,rfl⟩:=rx
  have e':k=(i != 0):=e
  subst e'
  exact PySem.P.truthy_int ⟨H,I,q⟩
 | str y=>
  obtain ⟨t,rfl⟩:=rx
  obtain ⟨hy,e'⟩ : y.length<=sizeLine/\k=((y.length:Int) != 0):=e
  subst e'
  exact PySem.P.truthy_str (by omega) ⟨H,I.tok _,q⟩
 | byt y=>
  obtain ⟨t,rfl⟩:=rx
  obtain ⟨hy,e'⟩ : y.size<=sizeLine/\k=((y.size:Int) != 0):=e
  subst e'
  exact PySem.W.truthy_bytes (by omega) ⟨H,I.tok _,q⟩
 | ref p=>
  cases rx
  have e':(∃ xs,SqL X.K H p xs/\k=!xs.isEmpty)\/(∃ xs,SqT X.K H p xs/\k=!xs.isEmpty)\/∃ kvs,H p=some (.dK kvs)/\k=!kvs.isEmpty:=e
  rcases e' with ⟨xs,hx,e'⟩ | ⟨xs,hx,e'⟩ | ⟨kvs,hx,e'⟩
  ·subst e'
   obtain ⟨its,r,pl,hz⟩:=I.list hx
   have hlen:=r.length
   exact wpAny_truthy_list pl.isList (by simp only [List.size_toArray];omega) ⟨H,I.tok _,by rw [isEmpty_of r];exact q⟩
  ·subst e'
   obtain ⟨its,r,pl,hz⟩:=I.tuple hx
   have hlen:=r.length
   exact truthy_tuple pl (by simp only [List.size_toArray];omega) ⟨H,I.tok _,by rw [isEmpty_of r];exact q⟩
  ·subst e'
   obtain ⟨hz,hS,vs,r,m⟩ : kvs.length<=sizeLine/\(p == sysModules)=false/\∃ vs,KV kvs vs/\s.heap.DictOf (mixKind X.prog X.w) p vs:=I.hok p _ hx
   have hlen:kvs.length=vs.length:=Paired.length r
   exact wpAny_truthy_dict hS m (by omega) ⟨H,I.tok _,by rw [isEmpty_kv r];exact q⟩
 | _=>exact (show False from e).elim
theorem op_add_str:OpR X (binaryOp .Add) (fun x y H Q=>∃ i j,x = .str i/\y = .str j/\i.length+j.length<=sizeLine/\Q (.str (i++j)) H):=by
 intro pins s σ H x y v u Q I rx ry h
 obtain ⟨i,j,rfl,rfl,hz,q⟩:=h
 obtain ⟨t,rfl⟩:=rx
 obtain ⟨t',rfl⟩:=ry
 exact add_str (fun t' tk=>⟨.str (i++j),H,I.tok _,⟨_,rfl⟩,q⟩) hz
theorem vals1 {x:V} {us:List Value} (r:Vals [x] us):∃ u,us=[u]/\RelV x u:=by
 cases r with
 | cons r1 r2=>cases r2;exact ⟨_,rfl,r1⟩
theorem vals2 {x y:V} {us:List Value} (r:Vals [x,y] us):∃ u w',us=[u,w']/\RelV x u/\RelV y w':=by
 cases r with
 | cons r1 r2=>
  cases r2 with
  | cons r3 r4=>cases r4;exact ⟨_,_,rfl,r1,r3⟩
theorem call_max2 (hc:X.calm=true):CallR X (.builtin "max") (fun xs H Q=>∃ i j,xs=[.int i,.int j]/\Q (.int (if j > i then j else i)) H):=by
 intro pins s σ H xs us Q I r h
 obtain ⟨i,j,rfl,q⟩:=h
 obtain ⟨u,w',rfl,⟨t,rfl⟩,⟨t',rfl⟩⟩:=vals2 r
 refine max_two_ints (I.ok.hd hc) fun h' tk k=>⟨_,H,I.kept k,?_,q⟩
 by_cases hj:j > i
 ·rw [if_pos hj,if_pos hj];exact ⟨_,rfl⟩
 ·rw [if_neg hj,if_neg hj];exact ⟨_,rfl⟩
theorem call_min2 (hc:X.calm=true):CallR X (.builtin "min") (fun xs H Q=>∃ i j,xs=[.int i,.int j]/\Q (.int (if j < i then j else i)) H):=by
 intro pins s σ H xs us Q I r h
 obtain ⟨i,j,rfl,q⟩:=h
 obtain ⟨u,w',rfl,⟨t,rfl⟩,⟨t',rfl⟩⟩:=vals2 r
 refine min_two_ints (I.ok.hd hc) fun h' tk k=>⟨_,H,I.kept k,?_,q⟩
 by_cases hj:j < i
 ·rw [if_pos hj,if_pos hj];exact ⟨_,rfl⟩
 ·rw [if_neg hj,if_neg hj];exact ⟨_,rfl⟩
theorem call_int1:CallR X (.type "int") (fun xs H Q=>(∃ i,xs=[.int i]/\Q (.int i) H)\/∃ k,xs=[.bl k]/\Q (.int (if k then 1 else 0)) H):=by
 intro pins s σ H xs us Q I r h
 rcases h with ⟨i,rfl,q⟩ | ⟨k,rfl,q⟩
 ·obtain ⟨u,rfl,t,rfl⟩:=vals1 r
  exact call_int_int ⟨.int i,H,I,⟨_,rfl⟩,q⟩
 ·obtain ⟨u,rfl,r1⟩:=vals1 r
  cases r1
  exact call_int_bool ⟨.int (if k then 1 else 0),H,I.tok _,⟨_,rfl⟩,q⟩
end
end L2
namespace L2
open PySem PySem.Spec PyProof.Rows
section
variable {prog:Program} {w:World} {A:Around} {E:Value->Shared->Prop} {s:Shared} {K:PySem.W.Frag} {x dx C f:Addr} {mA:Str->Option Value} {name:Str} {v:Value}
end
theorem RelO.some_of {v:V} {o:Option Value} (r:RelO (some v) o):∃ u,o=some u/\RelV v u:=by
 cases o with
 | none=>exact (show False from r).elim
 | some u=>exact ⟨u,rfl,r⟩
theorem handed_of {v:V} {u:Value} (r:RelV v u):PySem.W.handedIn u=true:=by
 cases v with
 | non=>cases (show u=Value.none from r);rfl
 | bl b=>cases (show u=Value.bool b from r);rfl
 | int i=>obtain ⟨t,e⟩:=(show ∃ t,u=Value.int i t from r);cases e;rfl
 | str x=>obtain ⟨t,e⟩:=(show ∃ t,u=Value.str x t from r);cases e;rfl
 | byt b=>obtain ⟨t,e⟩:=(show ∃ t,u=Value.bytes b t from r);cases e;rfl
 | flt b=>obtain ⟨t,e⟩:=(show ∃ t,u=Value.float b t from r);cases e;rfl
 | ref a=>cases (show u=Value.ref a from r);rfl
 | ty n=>cases (show u=Value.type n from r);rfl
section
variable {P:Program} {w:World} {H H':Hp} {h h':Heap} {a C dx:Addr} {fs fs':List (Str×V)}
end
section
variable {X:Cx} {pins:List (Addr×Obj)} {σ:St} {H:Hp} {s:Shared} {a C dx:Addr} {fs:List (Str×V)} {f:Str} {v:V} {A:Around} {E:Value->Shared->Prop}
theorem attr_of {prog:Program} {w:World} {env:Env} {e:Expr} {f:Str} {pos:Pos} {s:Shared} {Q:Value->Shared->Prop} (hb:attributeBase e f env (eval e env)=eval e env)
  (h:wpAny (model prog w) A (eval e env) (fun o s₁=>wpAny (model prog w) A (getAttr o f true) Q E s₁) E s):wpAny (model prog w) A (eval (.Attribute e f pos) env) Q E s:=
 Attribute_any_ h (by rw [arm_eval_Attribute,hb])
end
section
variable {X:Cx} {o e value:Expr} {f:Str} {pos pos' tpos:Pos} {ta tv:TE}
end
section
variable {X:Cx} {pins:List (Addr×Obj)} {σ:St} {H:Hp} {s:Shared} {A:Around} {E:Value->Shared->Prop} {Q:Value->Shared->Prop} {c:Value} {b:Bool}
end
end L2
namespace L2
open PySem PySem.Spec PyProof.Rows
structure Room (k:Nat) (A:Around):Prop where
 hd:A.handled=none
 dp:A.depth+3 * k+5 < recursionLimit
 un:A.units+16 * k+200 < cLine
theorem Room.mono {j k:Nat} {A:Around} (r:Room k A) (h:j<=k):Room j A:=⟨r.hd,by have:=r.dp;omega,by have:=r.un;omega⟩
theorem Room.deeper {k:Nat} {A:Around} (r:Room (k+1) A) (env:Env):Room k (A.deeper env):=
 ⟨r.hd,by have:=r.dp;show A.depth+1+3 * k+5 < _;omega,by have:=r.un;show A.units+3+16 * k+200 < _;omega⟩
theorem Room.in1 {k:Nat} {A:Around} (r:Room (k+1) A):Room k A.in1:=
 ⟨r.hd,by have:=r.dp;show A.depth+3 * k+5 < _;omega,by have:=r.un;show A.units+1+16 * k+200 < _;omega⟩
theorem make_depth {A:Around} {C:Addr} {us:List Value} {kw:List (Str×Value)}:(A.under (.builtin "type.__call__" ⟨.ref C :: us,kw⟩)).depth=A.depth+1:=by
 first | rfl | simp [Around.under,Code.weight,Code.isCreation,Code.isGuard,Code.isCaller,Code.frames,Code.isFrame,guardIds]
theorem make_units {A:Around} {C:Addr} {us:List Value} {kw:List (Str×Value)}:(A.under (.builtin "type.__call__" ⟨.ref C :: us,kw⟩)).units=A.units+1:=by
 first | rfl | simp [Around.under,Code.cUnits,Code.frames,Code.isFrame]
theorem Room.make {k:Nat} {A:Around} (r:Room (k+1) A) (C:Addr) (us:List Value) (kw:List (Str×Value)):Room k (A.under (.builtin "type.__call__" ⟨.ref C :: us,kw⟩)):=
 ⟨r.hd,by have:=r.dp;rw [make_depth];omega,by have:=r.un;rw [make_units];omega⟩
theorem Room.depth {k:Nat} {A:Around} (r:Room k A):A.depth < recursionLimit:=by have:=r.dp;omega
theorem Room.units {k:Nat} {A:Around} (r:Room k A):A.units+64 < cLine:=by have:=r.un;omega
def tNil:TA:=fun _ H Q=>Q [] H
def tCons (ta:TE) (tr:TA):TA:=fun σ H Q=>ta σ H fun x H1=>tr σ H1 fun xs H2=>Q (x :: xs) H2
section
variable {X:Cx} {e:Expr} {es:List Expr} {te:TE} {t:TA} {pos:Pos}
theorem pa_nil:PA X [] tNil:=fun _ _ _ _ H Q I h=>Calls.spliced_nil ⟨[],H,I,.nil,h⟩
theorem pa_cons (ha:PE X e te) (hr:PA X es t) (hs:starEach (e :: es) X.env=(false,eval e X.env) :: starEach es X.env:=by rfl):PA X (e :: es) (tCons te t):=by
 intro pos pins s σ H Q I h
 rw [hs]
 show wpAny _ _ (spliced ((false,eval e X.env) :: backTo pos (starEach es X.env))) _ _ s
 refine Calls.spliced_cons (thn (ha pins s σ H _ I h) fun u s1 ⟨x,H1,I1,r1,q1⟩=>?_)
 exact thn (hr pos pins s1 σ H1 _ I1 q1) fun us s2 ⟨xs,H2,I2,r2,q2⟩=>⟨x :: xs,H2,I2,.cons r1 r2,q2⟩
def tTup (t:TA):TE:=fun σ H Q=>t σ H fun xs H1=>xs.length<=sizeLine/\∀ p,H1 p=none->Q (.ref p) (upd H1 p (.tup xs))
def tLst (t:TA):TE:=fun σ H Q=>t σ H fun xs H1=>xs.length<=sizeLine/\∀ p,H1 p=none->Q (.ref p) (upd H1 p (.lst xs))
theorem pe_tup {x1} (h:PA X es t):PE X (.Tuple es x1 pos) (tTup t):=by
 intro pins s σ H Q I hq
 refine wpAny_Tuple_spliced (thn (h pos pins s σ H _ I hq) fun us s1 ⟨xs,H1,I1,r,z,q⟩=>⟨by rw [<-r.length];exact z,?_⟩)
 have hf:H1 s1.heap.objs.size=none:=I1.hok.fresh (Nat.le_refl _)
 refine ⟨.ref s1.heap.objs.size,upd H1 s1.heap.objs.size (.tup xs),I1.laid (t':=s1.toks) (fun b u e=>Heap.get?_push_of_some _ e) (Nat.le_refl _) ?_,rfl,q _ hf⟩
 exact ⟨z,us,r,⟨_,Heap.get?_push_size _ rfl,rfl,_,rfl⟩⟩
theorem pe_lst (h:PA X es t):PE X (.List es pos) (tLst t):=by
 intro pins s σ H Q I hq
 refine wpAny_List_spliced (thn (h pos pins s σ H _ I hq) fun us s1 ⟨xs,H1,I1,r,z,q⟩=>⟨by rw [<-r.length];exact z,?_⟩)
 have hf:H1 s1.heap.objs.size=none:=I1.hok.fresh (Nat.le_refl _)
 refine ⟨.ref s1.heap.objs.size,upd H1 s1.heap.objs.size (.lst xs),I1.laid (t':=s1.toks) (fun b u e=>Heap.get?_push_of_some _ e) (Nat.le_refl _) ?_,rfl,q _ hf⟩
 exact ⟨z,us,0,r,Heap.get?_push_size _ rfl⟩
end
abbrev Sp:=List V->Hp->VK->XK->Prop
abbrev CXT:=List Env->Hp->Shared->XK->Value->Shared->Prop
structure Env0 (P:Program) (w:World) (K:PySem.W.Frag) (mg:Str->Option Value) (base:Heap) (A:Around) (outer:List Env) (s:Shared) (H:Hp):Prop where
 frames:A.frames=some outer
 mod:Mod K mg base
 bs:∀ b o,base.get? b=some o->s.heap.get? b=some o/\H b=none
 bsz:base.objs.size<=s.heap.objs.size
 funs:s.heap.FunFrames base outer
 frf:∀ b∈frs outer,H b=none
 hok:HOk P w H s.heap
 bare:AllBare s.gens
def CE (outer:List Env) (P:Program) (w:World) (H:Hp) (s:Shared) (Q:VK) (u:Value) (s':Shared):Prop:=
 ∃ v H',s'.os=s.os/\AllBare s'.gens/\Un (frs outer) [] H H' s.heap s'.heap/\HOk P w H' s'.heap/\RelV v u/\Q v H'
def CR (CX:CXT) (outer:List Env) (P:Program) (w:World) (H:Hp) (s:Shared) (Q:VK) (E:XK) (r:Result) (s':Shared):Prop:=
 match r with
 | .ok (.ret u)=>CE outer P w H s Q u s'
 | .ok _=>False
 | .error e=>CX outer H s E e s'
structure FnOk (P:Program) (w:World) (K:PySem.W.Frag) (mg:Str->Option Value) (base:Heap) (CX:CXT) (k:Nat) (f:Addr) (fd:FuncData) (ps:List Str) (sp:Sp):Prop where
 len:∀ vs H Q E,sp vs H Q E->vs.length=ps.length
 run:∀ (A:Around) (outer:List Env) (s:Shared) (H:Hp) (args:Args) (us:List Value) (vs:List V) (Q:VK) (E:XK),Room k A->Env0 P w K mg base A outer s H->BindsTo s fd args (ps.zip us)->Vals vs us->sp vs H Q E →
  codeAny (model P w) A (.call (.ref f) args) (CR CX outer P w H s Q E) s
theorem FnOk.mono {P:Program} {w:World} {K:PySem.W.Frag} {mg:Str->Option Value} {base:Heap} {CX:CXT} {j k:Nat} {f:Addr} {fd:FuncData} {ps:List Str} {sp:Sp} (F:FnOk P w K mg base CX j f fd ps sp) (h:j<=k) :
  FnOk P w K mg base CX k f fd ps sp:=⟨F.len,fun A outer s H args us vs Q E hr=>F.run A outer s H args us vs Q E (hr.mono h)⟩
theorem Env0.make {P:Program} {w:World} {K:PySem.W.Frag} {mg:Str->Option Value} {base:Heap} {A:Around} {outer:List Env} {s:Shared} {H:Hp} (e:Env0 P w K mg base A outer s H) (C:Addr) (us:List Value) (kw:List (Str×Value)) :
  Env0 P w K mg base (A.under (.builtin "type.__call__" ⟨.ref C :: us,kw⟩)) outer s H:=⟨by first | exact e.frames | (simpa [Around.under,Code.envs,Code.isFrame,pushEnvs] using e.frames),e.mod,e.bs,e.bsz,e.funs,e.frf,e.hok,e.bare⟩
theorem Env0.in1 {P:Program} {w:World} {K:PySem.W.Frag} {mg:Str->Option Value} {base:Heap} {A:Around} {outer:List Env} {s:Shared} {H:Hp} (e:Env0 P w K mg base A outer s H) :
  Env0 P w K mg base A.in1 outer s H:=⟨e.frames,e.mod,e.bs,e.bsz,e.funs,e.frf,e.hok,e.bare⟩
section
variable {X:Cx} {pins:List (Addr×Obj)} {σ:St} {H:Hp} {s s':Shared}
theorem Inv.env0 (I:Inv X pins σ H s):Env0 X.prog X.w X.K X.mg X.base X.A X.stack s H:=
 ⟨I.ok.frames,I.ok.mod,I.bs,Nat.le_trans I.ok.bsz I.sz,I.stack,I.stkFree,I.hok,I.bare⟩
theorem Inv.after {Q:VK} {u:Value} (I:Inv X pins σ H s) (h:CE X.stack X.prog X.w H s Q u s'):EP X pins σ Q u s':=by
 obtain ⟨v,H',os,bare,un,hok,r,q⟩:=h
 obtain ⟨hh,g,d,t,os'⟩:=s'
 obtain rfl:os'=s.os:=os
 exact ⟨v,H',I.call (h':=hh) (g':=g) (d':=d) (t':=t) (ch:=[]) un hok bare (fun b z=>absurd z (by simp)),r,q⟩
end
def tCall (sp:Sp) (dvs:List V) (E:XK) (t:TA):TE:=fun σ H Q=>t σ H fun vs H1=>sp (vs++dvs) H1 Q E
def Binds (K:PySem.W.Frag) (fd:FuncData) (ps:List Str) (ds:List Value):Prop:=
 ∀ (s:Shared) (us:List Value),K.In s.heap->(us++ds).length=ps.length->BindsTo s fd ⟨us,[]⟩ (ps.zip (us++ds))
theorem Binds.all {K:PySem.W.Frag} {fd:FuncData} {ps:List Str} (h:∀ us:List Value,us.length=ps.length->bindArgs fd ⟨us,[]⟩=pure (ps.zip us)):Binds K fd ps []:=fun s us _ hl=>by
 rw [List.append_nil] at hl ⊢
 exact .of_eq (h us hl)
def Passes (CX:CXT) (X:Cx) (E:XK):Prop:=∀ (pins:List (Addr×Obj)) (σ:St) (H:Hp) (s:Shared) (e:Value) (s':Shared),Inv X pins σ H s->CX X.stack H s E e s'->X.xe e s'
section
variable {X:Cx} {CX:CXT} {k:Nat} {f C:Addr} {fd:FuncData} {ps:List Str} {sp:Sp} {dvs:List V} {ds:List Value} {E:XK} {x m:Str} {p pos apos:Pos} {e o:Expr} {es:List Expr} {ta:TE} {t:TA}
theorem run_fn {pins:List (Addr×Obj)} {σ:St} {H:Hp} {s:Shared} {Q:VK} {us:List Value} {vs:List V} (F:FnOk X.prog X.w X.K X.mg X.base CX k f fd ps sp) (hr:Room k X.A) (hb:Binds X.K fd ps ds) (hd:Vals dvs ds) (hx:Passes CX X E)
  (I:Inv X pins σ H s) (r:Vals vs us) (h:sp (vs++dvs) H Q E):wpAny (model X.prog X.w) X.A (call (.ref f) us) (EP X pins σ Q) X.xe s:=by
 have r2:Vals (vs++dvs) (us++ds):=r.append hd
 have hl:(us++ds).length=ps.length:=by rw [<-r2.length];exact F.len _ _ _ _ h
 refine wpAny_call (codeAny_mono (F.run X.A X.stack s H ⟨us,[]⟩ (us++ds) (vs++dvs) Q E hr I.env0 (hb s us I.kIn hl) r2 h) fun r s' hq=>?_)
 cases r with
 | error e=>exact hx pins σ H s e s' I hq
 | ok fl=>
  cases fl with
  | ret u=>exact I.after hq
  | next=>exact False.elim hq
  | brk=>exact False.elim hq
  | cont=>exact False.elim hq
theorem pe_call (F:FnOk X.prog X.w X.K X.mg X.base CX k f fd ps sp) (hr:Room k X.A) (hg:Gl X x) (hm:X.mg x=some (.ref f)) (hk:PySem.W.keepIn X.K (.ref f)=true) (hb:Binds X.K fd ps ds) (hd:Vals dvs ds) (hx:Passes CX X E)
  (ha:PA X (e :: es) t) (hdb:(x == ("__debug__" : Str))=false:=by decide) (he:starEach (e :: es) X.env=(false,eval e X.env) :: starEach es X.env:=by rfl) (hpl:(backTo pos (starEach es X.env)).any (·.1)=false:=by rfl) :
  PE X (.Call (.Name x p) (e :: es) [] pos) (tCall sp dvs E t):=by
 intro pins s σ H Q I h
 refine wpAny_Call_Name_kw (ld_glob I hg hm ?_ hdb)
 refine PySem.W.callWith_K (h₀:=X.base) I.ok.mod.kin hk (thn (ha pos pins s σ H _ I h) fun us s1 ⟨vs,H1,I1,r,q⟩=>⟨I1.kIn,?_⟩) he hpl
 exact run_fn F hr hb hd hx I1 r q
end
section
variable {X:Cx} {CX:CXT} {k:Nat} {f C:Addr} {fd:FuncData} {ps ks:List Str} {sp:Sp} {E:XK} {x m:Str} {p pos apos kpos:Pos} {e o:Expr} {es:List Expr} {kws:List Keyword} {te ta:TE} {t tk:TA} {nm:Option Str}
variable {g:List Value->List Value->List Value} {gV:List V->List V->List V}
end
structure FnScope (N P:List Str) (sc:Scope):Prop where
 kind:sc.kind = .function
 co:sc.isCoroutine=false
 gen:sc.isGenerator=false
 nd:N.Nodup
 pre:N.take P.length=P
 par:∀ x∈P,sc.names.lookup x=some .local\/sc.names.lookup x=some .cell
 nofree:∀ y∈sc.names,y.2≠.free
theorem bindL_out {kindOf:Str->Option NameKind} {x:Str}:∀ {binds:List (Str×Value)} {m:Str->Option Value},(∀ v,(x,v) ∉ binds)->bindL kindOf binds m x=m x
 | [],_,_=>rfl
 | (n,v) :: r,m,h=>by
  unfold bindL
  rw [bindL_out fun w hw=>h w (List.mem_cons_of_mem _ hw)]
  split
  ·have:x≠n:=by rintro rfl;exact h v List.mem_cons_self
   simp [this]
  ·rfl
theorem bindC_out {kindOf:Str->Option NameKind} {x:Str}:∀ {binds:List (Str×Value)} {m:Str->Option Value},(∀ v,(x,v) ∉ binds)->bindC kindOf binds m x=m x
 | [],_,_=>rfl
 | (n,v) :: r,m,h=>by
  unfold bindC
  rw [bindC_out fun w hw=>h w (List.mem_cons_of_mem _ hw)]
  split
  ·rfl
  ·have:x≠n:=by rintro rfl;exact h v List.mem_cons_self
   simp [this]
theorem bindL_get {kindOf:Str->Option NameKind} {x:Str} {v:Value}:∀ {P:List Str} {vs:List Value} {i:Nat} {m:Str->Option Value},P.Nodup->P[i]? = some x->vs[i]? = some v->kindOf x=some .local →
  bindL kindOf (P.zip vs) m x=some v
 | [],_,_,_,_,h,_,_=>by simp at h
 | _ :: _,[],_,_,_,_,h,_=>by simp at h
 | p :: P,w :: vs,0,m,nd,h1,h2,hk=>by
  simp at h1 h2;subst h1;subst h2
  show bindL kindOf ((p,w) :: P.zip vs) m p=_
  unfold bindL
  rw [bindL_out fun v hv=>(List.nodup_cons.mp nd).1 (List.of_mem_zip hv).1,if_pos hk]
  simp
 | p :: P,w :: vs,i+1,m,nd,h1,h2,hk=>by
  show bindL kindOf ((p,w) :: P.zip vs) m x=_
  unfold bindL
  exact bindL_get (i:=i) (List.nodup_cons.mp nd).2 (by simpa using h1) (by simpa using h2) hk
theorem bindC_get {kindOf:Str->Option NameKind} {x:Str} {v:Value}:∀ {P:List Str} {vs:List Value} {i:Nat} {m:Str->Option Value},P.Nodup->P[i]? = some x->vs[i]? = some v->kindOf x≠some .local →
  bindC kindOf (P.zip vs) m x=some v
 | [],_,_,_,_,h,_,_=>by simp at h
 | _ :: _,[],_,_,_,_,h,_=>by simp at h
 | p :: P,w :: vs,0,m,nd,h1,h2,hk=>by
  simp at h1 h2;subst h1;subst h2
  show bindC kindOf ((p,w) :: P.zip vs) m p=_
  unfold bindC
  rw [bindC_out fun v hv=>(List.nodup_cons.mp nd).1 (List.of_mem_zip hv).1,if_neg hk]
  simp
 | p :: P,w :: vs,i+1,m,nd,h1,h2,hk=>by
  show bindC kindOf ((p,w) :: P.zip vs) m x=_
  unfold bindC
  exact bindC_get (i:=i) (List.nodup_cons.mp nd).2 (by simpa using h1) (by simpa using h2) hk
def start (N:List Str) (vs:List V):St:=vs.map some++List.replicate (N.length - vs.length) none
def cxOf (CX:CXT) (P:Program) (w:World) (K:PySem.W.Frag) (mg:Str->Option Value) (base:Heap) (N:List Str) (qual:Str) (scope:Scope) (f:Addr) (cd:Value) (A:Around) (outer:List Env) (s:Shared) (H:Hp) (E:XK):Cx where
 prog:=P
 w:=w
 K:=K
 mg:=mg
 base:=base
 A:=A.deeper (envOfC qual scope s.heap.objs.size f cd)
 N:=N
 s₀:=s
 H₀:=H
 env:=envOfC qual scope s.heap.objs.size f cd
 outer:=outer
 stack:=envOfC qual scope s.heap.objs.size f cd :: outer
 ex:=[]
 calm:=true
 fn:=fun _=>true
 pn:=[]
 xe:=fun e s'=>wpAny (model P w) (A.deeper (envOfC qual scope s.heap.objs.size f cd)) (leaving (envOfC qual scope s.heap.objs.size f cd) e) (fun _ s''=>CX outer H s E e s'') (fun e' s''=>CX outer H s E e' s'') s'
theorem cell_has {sc:Scope} {n:Nat} {x:Str} (h:sc.names.lookup x=some .cell):∃ c,(cellsFrom n sc.names []).lookup x=some c:=by
 have q:=PySem.W.cellsFrom_some sc.names n [] (.inl h)
 exact Option.isSome_iff_exists.mp q
theorem inv_start {CX:CXT} {P:Program} {w:World} {K:PySem.W.Frag} {mg:Str->Option Value} {base:Heap} {N ps:List Str} {qual:Str} {scope:Scope} {f:Addr} {cd:Value} {A:Around} {outer:List Env} {s s1:Shared} {H:Hp} {E:XK} {us:List Value} {vs:List V}
  (S:FnScope N ps scope) (hd:A.handled=none) (e0:Env0 P w K mg base A outer s H) (hl:vs.length=ps.length) (r:Vals vs us)
  (x:InCallC s s.heap.objs.size (bindL (envOfC qual scope s.heap.objs.size f cd).kindOf (ps.zip us) fun _=>none) (cellsFrom (s.heap.objs.size+1) scope.names []) (bindC (envOfC qual scope s.heap.objs.size f cd).kindOf (ps.zip us) fun _=>none) s1) :
  Inv (cxOf CX P w K mg base N qual scope f cd A outer s H E) [] (start N vs) H s1:=by
 have hpl:ps.length<=N.length:=by have:=congrArg List.length S.pre;rw [List.length_take] at this;omega
 obtain ⟨h1,tk,rfl,hk⟩:=x.done
 have noA:∀ b:Addr,b ∉ (cxOf CX P w K mg base N qual scope f cd A outer s H E).ex:=fun b z=>absurd (show b∈([]:List Addr) from z) (by simp)
 refine ⟨⟨e0.mod,S.kind,rfl,rfl,Nat.le_refl _,fun y z c h1 h2=>?_,fun y hy=>?_,fun y c _ h=>?_,fun _=>hd,Around.frames_deeper e0.frames,.inr ⟨rfl,rfl⟩,fun b z=>absurd z (noA b),e0.bs,e0.bsz,fun b _ _=>noA b,fun b z=>absurd z (noA b),e0.funs,e0.frf⟩,
  rfl,e0.bare,Un.kept hk,⟨_,x.toInCall.ns,fun i y v h1 h2 h3=>?_⟩,fun y c h=>⟨_,x.cell y c h⟩,e0.hok.fresh (Nat.le_refl _),fun y c h=>?_,fun p hp=>absurd (show p∈([]:List (Addr×Obj)) from hp) (by simp),e0.hok.kept hk,?_⟩
 ·exact name_of_addr x.apart (PySem.mem_of_lookup h1) (PySem.mem_of_lookup h2)
 ·have hy:scope.names.lookup y=some .cell\/scope.names.lookup y=some .free:=hy
  rcases hy with hy | hy
  ·exact cell_has hy
  ·exact absurd rfl (S.nofree _ (PySem.mem_of_lookup hy))
 ·exact Nat.le_of_lt (x.above y c (PySem.mem_of_lookup h))
 ·have hi:i < vs.length:=by
   unfold start at h2
   by_cases hi:i < vs.length
   ·exact hi
   ·rw [List.getElem?_append_right (by simpa using hi)] at h2
    rw [List.getElem?_replicate] at h2
    split at h2<;>cases h2
  have ha:vs[i]? = some v:=by
   unfold start at h2
   rw [List.getElem?_append_left (by simpa using hi),List.getElem?_map] at h2
   cases e:vs[i]? with
   | none=>rw [e] at h2;cases h2
   | some a=>rw [e] at h2;cases h2;rfl
  obtain ⟨u,hu,rv⟩:=r.get ha
  have hp:ps[i]? = some y:=by
   rw [<-S.pre,List.getElem?_take_of_lt (by omega)];exact h1
  have ndP:ps.Nodup:=by rw [<-S.pre];exact S.nd.sublist (List.take_sublist _ _)
  refine ⟨u,rv,?_⟩
  rcases S.par y (List.mem_of_getElem? hp) with k | k
  ·exact .inl ⟨k,bindL_get ndP hp hu k⟩
  ·obtain ⟨c,e⟩:=cell_has (n:=s.heap.objs.size+1) k
   refine .inr ⟨.inl k,c,e,?_⟩
   have q:=x.cell y c e
   rw [bindC_get ndP hp hu (by show scope.names.lookup y≠_;rw [k];decide)] at q
   exact q
 ·exact e0.hok.fresh (Nat.le_of_lt (x.above y c (PySem.mem_of_lookup h)))
 ·unfold start
  show _=N.length
  rw [List.length_append,List.length_map,List.length_replicate]
  omega
theorem fn_of {CX:CXT} {P:Program} {w:World} {K:PySem.W.Frag} {mg:Str->Option Value} {base:Heap} {k:Nat} {f:Addr} {name qual:Str} {params:Arguments} {body:List Stmt} {scope:Scope} {dV kV doc pm cdv ct oc:Value} {an od:Option Addr}
  {osl:Array (Option Value)} {N ps:List Str} {sp:Sp} (lk:K.lookup f=some ⟨oc,od,.func (PySem.W.fnOf name qual params body scope dV kV doc pm an cdv ct),osl⟩) (hcd:PySem.W.codeIn K cdv qual=true) (S:FnScope N ps scope)
  (len:∀ vs H Q E,sp vs H Q E->vs.length=ps.length)
  (hbody:∀ (A:Around) (outer:List Env) (s:Shared) (H:Hp) (vs:List V) (Q:VK) (E:XK),Room k (A.deeper (envOfC qual scope s.heap.objs.size f cdv))->sp vs H Q E →
   ∃ t,PSs (cxOf CX P w K mg base N qual scope f cdv A outer s H E) body t/\t { nx:=fun _ H'=>Q .non H',rt:=Q } (start N vs) H) :
  FnOk P w K mg base CX (k+1) f (PySem.W.fnOf name qual params body scope dV kV doc pm an cdv ct) ps sp:=by
 refine ⟨len,fun A outer s H args us vs Q E hr e0 hb r hsp=>?_⟩
 have hl:=len _ _ _ _ hsp
 have KX:K.In s.heap:=e0.mod.kin.keeps fun b o e=>(e0.bs b o e).1
 have lim:s.heap.NoLimit:=e0.mod.nolimit.keeps fun b o e=>(e0.bs b o e).1
 have hkind:∀ y∈ps.zip us,scope.names.lookup y.1=some .local\/(scope.names.lookup y.1=some .cell/\((cellsFrom (s.heap.objs.size+1) scope.names []).lookup y.1).isSome=true):=fun ⟨n,v⟩ hy=>by
  rcases S.par n (List.of_mem_zip hy).1 with q | q
  ·exact .inl q
  ·exact .inr ⟨q,PySem.W.cellsFrom_some _ _ _ (.inl q)⟩
 refine codeAny_call_function hr.depth (KX _ _ lk) rfl S.co S.gen rfl (PySem.W.codeRec_of KX hcd) (hb _ _ _ _ ?_)
 refine wpAny_newFunctionEnv_cells S.kind hkind fun env he s1 x=>?_
 subst he
 refine ⟨lim.keeps x.toInCall.keep,codeAny_func ?_⟩
 obtain ⟨t,ht,hq⟩:=hbody A outer s H vs Q E (hr.deeper _) hsp
 have I:Inv (cxOf CX P w K mg base N qual scope f cdv A outer s H E) [] (start N vs) H s1:=inv_start S hr.hd e0 hl r x
 refine wpAny_mono (ht [] s1 (start N vs) H _ I hq) (fun fl s' hs=>?_) fun e s' hs=>hs
 have fin:∀ {σ':St} {H':Hp} {v:V} {u:Value},Inv (cxOf CX P w K mg base N qual scope f cdv A outer s H E) [] σ' H' s'->RelV v u->Q v H'->CE outer P w H s Q u s':=
  fun {σ' H' v u} J rv q=>⟨v,H',J.os,J.bare,J.base,J.hok,rv,q⟩
 cases fl with
 | ret u=>
  obtain ⟨v,σ',H',J,rv,q⟩:=hs
  exact fin J rv q
 | next=>
  obtain ⟨σ',H',J,q⟩:=hs
  exact fin (v:=V.non) (u:=Value.none) J rfl q
 | brk=>
  obtain ⟨_,_,_,q⟩:=hs
  exact False.elim q
 | cont=>
  obtain ⟨_,_,_,q⟩:=hs
  exact False.elim q
end L2
namespace L2
open PySem PySem.Spec PyProof.Rows
section
variable {X:Cx} {x:Str} {p pos:Pos} {e:Expr} {es:List Expr} {t:TA} {id T:String} {r:List V->Hp->VK->Prop}
def tCB (r:List V->Hp->VK->Prop) (t:TA):TE:=fun σ H Q=>t σ H fun vs H1=>r vs H1 Q
theorem pe_callB (hc:CallR X (.builtin id) r) (hg:Gl X x) (hm:X.mg x=none) (hv:bootBuiltins x=some (.builtin id)) (ha:PA X (e :: es) t) (hn:x≠"__name__" := by decide) (hdb:(x == ("__debug__" : Str))=false:=by decide)
  (he:starEach (e :: es) X.env=(false,eval e X.env) :: starEach es X.env:=by rfl) (hpl:(backTo pos (starEach es X.env)).any (·.1)=false:=by rfl):PE X (.Call (.Name x p) (e :: es) [] pos) (tCB r t):=by
 intro pins s σ H Q I h
 refine wpAny_Call_Name_kw (ld_blt I hg hm hv ?_ hn hdb)
 exact PyProof.Rows.callWith_builtin1 (thn (ha pos pins s σ H _ I h) fun us s1 ⟨vs,H1,I1,r1,q1⟩=>hc pins s1 σ H1 vs us Q I1 r1 q1) he hpl
theorem pe_callTy (hc:CallR X (.type T) r) (hg:Gl X x) (hm:X.mg x=none) (hv:bootBuiltins x=some (.type T)) (ha:PA X (e :: es) t) (hn:x≠"__name__" := by decide) (hdb:(x == ("__debug__" : Str))=false:=by decide)
  (he:starEach (e :: es) X.env=(false,eval e X.env) :: starEach es X.env:=by rfl) (hpl:(backTo pos (starEach es X.env)).any (·.1)=false:=by rfl):PE X (.Call (.Name x p) (e :: es) [] pos) (tCB r t):=by
 intro pins s σ H Q I h
 refine wpAny_Call_Name_kw (ld_blt I hg hm hv ?_ hn hdb)
 exact PyProof.Rows.callWith_type1 (thn (ha pos pins s σ H _ I h) fun us s1 ⟨vs,H1,I1,r1,q1⟩=>hc pins s1 σ H1 vs us Q I1 r1 q1) he hpl
end
end L2
namespace HT
open PySem PyProof.Rows
section
open PySem.SeqAt
open PySem.AutoSeq1 (wpAny_loadPart')
open PySem.MeetsSeq PySem.MeetsSeq2 PySem.MeetsSeq3
end
section
variable {prog:Program} {w:World} {A:Around} {E:Value->Shared->Prop} {s:Shared}
def sIx (n d:Nat):Option Int->Nat
 | none=>d
 | some v=>if v < 0 then (v+(n:Int)).toNat else min v.toNat n
theorem sIx_nat (n d k:Nat):sIx n d (some (k:Int))=min k n:=by
 show (if (k:Int) < 0 then ((k:Int)+(n:Int)).toNat else min (k:Int).toNat n)=min k n
 rw [if_neg (by omega),Int.toNat_natCast]
end
end HT
namespace L2
open PySem PySem.Spec PyProof.Rows
abbrev TO:=St->Hp->(Option Int->Hp->Prop)->Prop
def PO (X:Cx) (e:Option Expr) (t:TO):Prop:=
 ∀ (pins:List (Addr×Obj)) (s:Shared) (σ:St) (H:Hp) (Q:Option Int->Hp->Prop),Inv X pins σ H s->t σ H Q →
  wpAny (model X.prog X.w) X.A (evalPart e X.env) (fun u s'=>∃ o H',Inv X pins σ H' s'/\IsPart u o/\Q o H') X.xe s
def tNoPart:TO:=fun _ H Q=>Q none H
section
variable {X:Cx} {e:Expr} {te:TE} {lo hi:Option Expr} {tl th:TO} {pos p2:Pos}
theorem po_none:PO X none tNoPart:=by
 intro pins s σ H Q I h
 rw [evalPart_none]
 exact wpAny_pure ⟨none,H,I,.none,h⟩
def SlR (X:Cx) (r:V->Option Int->Option Int->Hp->VK->Prop):Prop:=
 ∀ (pins:List (Addr×Obj)) (s:Shared) (σ:St) (H:Hp) (x:V) (v vl vu:Value) (lo hi:Option Int) (sl:Addr) (Q:VK),Inv X pins σ H s->RelV x v->s.heap.IsSliceOf sl vl vu .none->IsPart vl lo->IsPart vu hi->r x lo hi H Q →
  ∃ T id,typeLookup (.type T) "__getitem__" = pure (some (.builtin id))/\s.TypeIs v T/\wpAny (model X.prog X.w) X.A (getItem v (.ref sl)) (EP X pins σ Q) X.xe s
theorem SlR.or {r r':V->Option Int->Option Int->Hp->VK->Prop} (h:SlR X r) (h':SlR X r'):SlR X (fun x lo hi H Q=>r x lo hi H Q\/r' x lo hi H Q):=by
 intro pins s σ H x v vl vu lo hi sl Q I rx hs pl pu q
 rcases q with q | q
 ·exact h pins s σ H x v vl vu lo hi sl Q I rx hs pl pu q
 ·exact h' pins s σ H x v vl vu lo hi sl Q I rx hs pl pu q
def tSl (r:V->Option Int->Option Int->Hp->VK->Prop) (te:TE) (tl th:TO):TE:=fun σ H Q=>te σ H fun x H1=>tl σ H1 fun l H2=>th σ H2 fun u H3=>r x l u H3 Q
theorem pe_slice {r:V->Option Int->Option Int->Hp->VK->Prop} (hr:SlR X r) (he:PE X e te) (hl:PO X lo tl) (hu:PO X hi th):PE X (.Subscript e (.Slice lo hi none p2) pos) (tSl r te tl th):=by
 intro pins s σ H Q I h
 refine Subscript_ (thn (he pins s σ H _ I h) fun v s1 ⟨x,H1,I1,r1,q1⟩=>?_)
 refine wpAny_Slice (thn (hl pins s1 σ H1 _ I1 q1) fun vl s2 ⟨l,H2,I2,pl,q2⟩=>thn (hu pins s2 σ H2 _ I2 q2) fun vu s3 ⟨u,H3,I3,pu,q3⟩=>?_)
 rw [evalPart_none]
 refine wpAny_pure ?_
 have I4:Inv X pins σ H3 { s3 with heap:=s3.heap.push { cls:=.type "slice",data:=.fields #[vl,vu,.none] } }:=I3.kept (t':=s3.toks) fun b ob q=>Heap.get?_push_of_some _ q
 obtain ⟨T,id,hT,ht,hg⟩:=hr pins { s3 with heap:=s3.heap.push { cls:=.type "slice",data:=.fields #[vl,vu,.none] } } σ H3 x v vl vu l u s3.heap.objs.size Q I4 r1 (Heap.IsSliceOf.new ..) pl pu q3
 show wpAny (model X.prog X.w) X.A (subscriptTail e (.Slice lo hi none p2) v (.ref s3.heap.objs.size)) (EP X pins σ Q) X.xe { s3 with heap:=s3.heap.push { cls:=.type "slice",data:=.fields #[vl,vu,.none] } }
 exact tail_any (ops:=[.ref s3.heap.objs.size,v]) ht hT hg (by with_unfolding_all rfl)
def cutV (xs:List V) (lo hi:Option Int):List V:=(xs.drop (HT.sIx xs.length 0 lo)).take (HT.sIx xs.length xs.length hi - HT.sIx xs.length 0 lo)
theorem cutV_length (xs:List V) (lo hi:Option Int):(cutV xs lo hi).length<=xs.length:=by
 unfold cutV
 rw [List.length_take,List.length_drop]
 omega
end
end L2
namespace L2
open PySem PySem.Spec PyProof.Rows
def ixN (n:Nat) (i:Int):Option Nat:=if 0<=i then (if i < n then some i.toNat else none) else if -(n:Int)<=i then some (i+n).toNat else none
def atI {α:Type} (xs:List α) (i:Int):Option α:=(ixN xs.length i).bind fun j=>xs[j]?
theorem ixN_seq {n:Nat} {i:Int} {j:Nat} (h:ixN n i=some j):seqIndex? i n=some j/\j < n/\-(n:Int)<=i/\i < n:=by
 unfold ixN at h
 by_cases h0:0<=i
 ·rw [if_pos h0] at h
  by_cases h1:i < n
  ·rw [if_pos h1] at h
   have e:i.toNat=j:=Option.some.inj h
   exact ⟨by rw [seqIndex_of h0 h1,e],by omega,by omega,h1⟩
  ·rw [if_neg h1] at h;cases h
 ·rw [if_neg h0] at h
  by_cases h1 : -(n:Int)<=i
  ·rw [if_pos h1] at h
   have e:(i+n).toNat=j:=Option.some.inj h
   exact ⟨by rw [seqIndex_neg (by omega) h1,e],by omega,h1,by omega⟩
  ·rw [if_neg h1] at h;cases h
theorem atI_get {α:Type} {xs:List α} {i:Int} {v:α} (h:atI xs i=some v):∃ j,seqIndex? i xs.length=some j/\xs[j]? = some v/\j < xs.length/\-(xs.length:Int)<=i/\i < xs.length:=by
 unfold atI at h
 cases e:ixN xs.length i with
 | none=>rw [e] at h;cases h
 | some j=>
  rw [e] at h
  obtain ⟨h1,h2,h3,h4⟩:=ixN_seq e
  exact ⟨j,h1,h,h2,h3,h4⟩
theorem atI_nat {α:Type} {xs:List α} {j:Nat} {v:α} (h:xs[j]? = some v):atI xs (j:Int)=some v:=by
 have hj:j < xs.length:=(List.getElem?_eq_some_iff.mp h).1
 have e:ixN xs.length (j:Int)=some j:=by
  unfold ixN
  rw [if_pos (by omega),if_pos (by omega)];simp
 unfold atI;rw [e];exact h
theorem atI_last {α:Type} (xs:List α) (v:α):atI (xs++[v]) (-1)=some v:=by
 have hl:(xs++[v]).length=xs.length+1:=by simp
 have e:ixN (xs++[v]).length (-1)=some xs.length:=by
  unfold ixN
  rw [hl,if_neg (by decide),if_pos (by omega)]
  congr 1
  omega
 unfold atI
 rw [e]
 show (xs++[v])[xs.length]? = some v
 simp
def PlainIx (b:Expr):Prop:=∀ o i,subscripted b false o i=operate [o,i] (getItem o i)
def IxR (X:Cx) (r:R2):Prop:=
 ∀ (value slice:Expr) (pins:List (Addr×Obj)) (s:Shared) (σ:St) (H:Hp) (x y:V) (v u:Value) (Q:VK),Inv X pins σ H s->RelV x v->RelV y u->r x y H Q →
  subscripted slice false v u=operate [v,u] (getItem v u)->wpAny (model X.prog X.w) X.A (subscriptTail value slice v u) (EP X pins σ Q) X.xe s
section
variable {X:Cx} {a b:Expr} {ta tb:TE} {pos:Pos}
theorem IxR.or {r r':R2} (h:IxR X r) (h':IxR X r'):IxR X (fun x y H Q=>r x y H Q\/r' x y H Q):=by
 intro value slice pins s σ H x y v u Q I rx ry q hs
 rcases q with q | q
 ·exact h value slice pins s σ H x y v u Q I rx ry q hs
 ·exact h' value slice pins s σ H x y v u Q I rx ry q hs
theorem pe_ix {r:R2} (hr:IxR X r) (ha:PE X a ta) (hb:PE X b tb) (hs:PlainIx b):PE X (.Subscript a b pos) (tOp r ta tb):=by
 intro pins s σ H Q I h
 exact Subscript_ (binT ha hb I h fun v u s2 x y H2 I2 rx ry q=>hr a b pins s2 σ H2 x y v u Q I2 rx ry q (hs _ _))
def rIxL (K:PySem.W.Frag):R2:=fun x y H Q=>∃ p xs i v,x = .ref p/\y = .int i/\SqL K H p xs/\atI xs i=some v/\Q v H
def rIxT (K:PySem.W.Frag):R2:=fun x y H Q=>∃ p xs i v,x = .ref p/\y = .int i/\SqT K H p xs/\atI xs i=some v/\Q v H
def rIxS:R2:=fun x y H Q=>∃ z i c,x = .str z/\y = .int i/\z.length<=sizeLine/\atI z.cps.toList i=some c/\Q (.str ⟨#[c]⟩) H
theorem ix_list:IxR X (rIxL X.K):=by
 intro value slice pins s σ H x y v u Q I rx ry h hs
 obtain ⟨p,xs,i,z,rfl,rfl,hq,he,q⟩:=h
 cases rx
 obtain ⟨t,rfl⟩:=ry
 obtain ⟨its,r,pl,hz⟩:=I.list hq
 obtain ⟨j,h1,h2,h3,h4,h5⟩:=atI_get he
 obtain ⟨w,ew,rw'⟩:=r.get h2
 have hl:=r.length
 have hn:=line63
 have fin:EP X pins σ Q w s:=⟨z,H,I,rw',q⟩
 by_cases h0:0<=i
 ·have hj:i.toNat=j:=by
   rw [seqIndex_of h0 h5] at h1
   exact Option.some.inj h1
  exact item_listR pl.isList h0 (by omega) (by rw [hj];simpa using ew) fin hs
 ·have hj:(i+(its.toArray.size:Int)).toNat=j:=by
   rw [seqIndex_neg (by omega) h4] at h1
   rw [List.size_toArray,<-hl]
   exact Option.some.inj h1
  exact subscriptTail_builtinR (x:=w) pl.isList.typeIs slot_list_getitem.lookup
   (wpAny_getItem_list_neg (Q:=fun r s'=>r=w/\EP X pins σ Q r s') pl.isList (by omega) (by rw [List.size_toArray]<;>omega) (by omega) (by rw [hj];simpa using ew) ⟨rfl,fin⟩) hs
theorem ix_tup:IxR X (rIxT X.K):=by
 intro value slice pins s σ H x y v u Q I rx ry h hs
 obtain ⟨p,xs,i,z,rfl,rfl,hq,he,q⟩:=h
 cases rx
 obtain ⟨t,rfl⟩:=ry
 obtain ⟨its,r,pl,hz⟩:=I.tuple hq
 obtain ⟨j,h1,h2,h3,h4,h5⟩:=atI_get he
 obtain ⟨w,ew,rw'⟩:=r.get h2
 have hl:=r.length
 have hn:=line63
 have fin:EP X pins σ Q w s:=⟨z,H,I,rw',q⟩
 exact subscriptTail_builtinR (x:=w) pl.typeIs slot_tuple_getitem.lookup
  (getItem_tuple (j:=j) (Q:=fun r s'=>r=w/\EP X pins σ Q r s') pl (by omega) (by omega) (by rw [List.size_toArray,<-hl];exact h1) (by simpa using ew) ⟨rfl,fin⟩) hs
theorem ix_str:IxR X rIxS:=by
 intro value slice pins s σ H x y v u Q I rx ry h hs
 obtain ⟨z,i,c,rfl,rfl,hz,he,q⟩:=h
 obtain ⟨t,rfl⟩:=rx
 obtain ⟨t',rfl⟩:=ry
 obtain ⟨j,h1,h2,h3,h4,h5⟩:=atI_get he
 have hl:z.cps.toList.length=z.length:=by simp [Str.length]
 rw [hl] at h1 h4 h5
 have hn:=line63
 exact tail_any (typeIs_str s z t) slot_str_getitem.lookup (getItem_str (c:=c) (by
  have e1:decide (i < -(2 ^ 63:Int))=false:=decide_eq_false (by omega)
  have e2:decide (i ≥ 2 ^ 63)=false:=decide_eq_false (by omega)
  rw [e1,e2,Bool.or_false]) (by rw [h1];simpa using h2) ⟨.str ⟨#[c]⟩,H,I.tok _,⟨_,rfl⟩,q⟩) hs
def rIx (K:PySem.W.Frag):R2:=fun x y H Q=>rIxL K x y H Q\/rIxT K x y H Q\/rIxS x y H Q
theorem ix_seq:IxR X (rIx X.K):=ix_list.or (ix_tup.or ix_str)
theorem mapSeq_set (its:List Value) (n j:Nat) (u:Value):Obj.mapSeq (·.setIfInBounds j u) { cls:=.type "list",data:=.seq its.toArray n }={ cls:=.type "list",data:=.seq (its.set j u).toArray n }:=by
 simp [Obj.mapSeq]
theorem Inv.lst {pins:List (Addr×Obj)} {σ:St} {H:Hp} {s:Shared} {p:Addr} {xs:List V} (I:Inv X pins σ H s) (h:H p=some (.lst xs)) :
  ∃ (its:List Value) (n:Nat),Vals xs its/\s.heap.get? p=some { cls:=.type "list",data:=.seq its.toArray n }/\xs.length<=sizeLine:=by
 obtain ⟨z,its,n,r,e⟩:=I.hok p _ h
 exact ⟨its,n,r,e,z⟩
theorem Inv.lstUpd {pins:List (Addr×Obj)} {σ:St} {H:Hp} {s:Shared} {p:Addr} {xs ys:List V} {its its':List Value} {n n':Nat} {f:Obj->Obj} (I:Inv X pins σ H s) (h:H p=some (.lst xs))
  (ho:s.heap.get? p=some { cls:=.type "list",data:=.seq its.toArray n }) (hf:f { cls:=.type "list",data:=.seq its.toArray n }={ cls:=.type "list",data:=.seq its'.toArray n' }) (r:Vals ys its') (hz:ys.length<=sizeLine) (t:Nat) :
  Inv X pins σ (upd H p (.lst ys)) { s with heap:=s.heap.update p f,toks:=t }:=by
 have e:(s.heap.update p f).get? p=some { cls:=.type "list",data:=.seq its'.toArray n' }:=by
  rw [Heap.get?_update_self f ho (by rw [hf]<;>rfl),hf]
 refine I.write (x:=p) (e:=p) (by rw [h];trivial) (.inl rfl) (fun b u hb q=>(Heap.get?_update_other _ _ (Ne.symm hb)).trans q) ⟨_,e⟩ ?_
 exact ⟨hz,its',n',r,e⟩
def rSetL:V->V->V->Hp->(Hp->Prop)->Prop:=fun o i v H Q=>∃ p xs k j,o = .ref p/\i = .int k/\H p=some (.lst xs)/\ixN xs.length k=some j/\Q (upd H p (.lst (xs.set j v)))
theorem set_list:PSet X rSetL:=by
 intro pins s σ H o i v ov iv u Q I ro ri rv h
 obtain ⟨p,xs,k,j,rfl,rfl,hp,hj,q⟩:=h
 cases ro
 obtain ⟨t,rfl⟩:=ri
 obtain ⟨its,n,r,ho,hz⟩:=I.lst hp
 obtain ⟨h1,h2,h3,h4⟩:=ixN_seq hj
 have hl:=r.length
 have hn:=line63
 have I':Inv X pins σ (upd H p (.lst (xs.set j v))) { s with heap:=s.heap.update p (Obj.mapSeq (·.setIfInBounds j u)) }:=
  I.lstUpd hp ho (mapSeq_set its n j u) (r.set rv j) (by rw [List.length_set];exact hz) s.toks
 by_cases h0:0<=k
 ·have hk:k.toNat=j:=by
   rw [seqIndex_of h0 h4] at h1
   exact Option.some.inj h1
  exact PySem.W.ki_setAt ho h0 (by omega) (by rw [List.size_toArray,<-hl];exact h4) (by rw [hk];exact ⟨_,I',q⟩)
 ·have hk:(k+(its.toArray.size:Int)).toNat=j:=by
   rw [seqIndex_neg (by omega) h3] at h1
   rw [List.size_toArray,<-hl]
   exact Option.some.inj h1
  exact PySem.W.ki_setBack ho (by omega) (by rw [List.size_toArray,<-hl];exact h3) (by omega) (by rw [hk];exact ⟨_,I',q⟩)
theorem slice_bounds (lo hi:Option Int) (n:Nat):(sliceBounds lo hi none n).1=((HT.sIx n 0 lo:Nat):Int)/\(sliceBounds lo hi none n).2.1=((HT.sIx n n hi:Nat):Int)/\(sliceBounds lo hi none n).2.2=1:=by
 refine ⟨?_,?_,rfl⟩
 ·cases lo with
  | none=>simp [sliceBounds,HT.sIx]
  | some i=>
   simp only [sliceBounds,HT.sIx,Option.getD_none,show (1:Int) > 0 by decide,if_true]
   by_cases h:i < 0
   ·simp only [h,if_true]<;>omega
   ·simp only [h,if_false]<;>omega
 ·cases hi with
  | none=>simp [sliceBounds,HT.sIx]
  | some i=>
   simp only [sliceBounds,HT.sIx,Option.getD_none,show (1:Int) > 0 by decide,if_true]
   by_cases h:i < 0
   ·simp only [h,if_true]<;>omega
   ·simp only [h,if_false]<;>omega
theorem slicePick_cut (its:List Value) (lo hi:Option Int):slicePick its.toArray lo hi none=((its.drop (HT.sIx its.length 0 lo)).take (HT.sIx its.length its.length hi - HT.sIx its.length 0 lo)).toArray:=by
 obtain ⟨h1,h2,h3⟩:=slice_bounds lo hi its.toArray.size
 unfold slicePick
 rw [h1,h2,h3]
 simp only [sliceRange_one,pick_run,List.size_toArray]<;>rfl
def rSlL (K:PySem.W.Frag):V->Option Int->Option Int->Hp->VK->Prop:=fun x lo hi H Q=>∃ a xs,x = .ref a/\SqL K H a xs/\∀ p,H p=none->Q (.ref p) (upd H p (.lst (cutV xs lo hi)))
theorem sl_list:SlR X (rSlL X.K):=by
 intro pins s σ H x v vl vu lo hi sl Q I rx hs pl pu h
 obtain ⟨a,xs,rfl,hx,q⟩:=h
 cases rx
 obtain ⟨its,r,ht,hz⟩:=I.list hx
 have hlen:=r.length
 refine ⟨"list",_,slot_list_getitem.lookup,ht.isList.typeIs,?_⟩
 refine wpAny_getItem_list_slice ht.isList hs pl pu .none (by simp) ?_ (by rw [List.size_toArray]<;>omega)
 rw [slicePick_cut,<-hlen]
 refine ⟨.ref s.heap.objs.size,_,I.laid (t':=s.toks) (o:=.lst (cutV xs lo hi)) (fun b ob q=>Heap.get?_push_of_some _ q) (Nat.le_refl _) ?_,rfl,q _ (I.hok.fresh (Nat.le_refl _))⟩
 exact ⟨Nat.le_trans (cutV_length xs lo hi) hz,_,0,(r.drop (HT.sIx xs.length 0 lo)).take (HT.sIx xs.length xs.length hi - HT.sIx xs.length 0 lo),Heap.get?_push_size _ rfl⟩
theorem call_len_seq:CallR X (.builtin "len") (fun xs H Q=>∃ p ys,xs=[.ref p]/\(SqL X.K H p ys\/SqT X.K H p ys)/\Q (.int ys.length) H):=by
 intro pins s σ H xs us Q I r h
 obtain ⟨p,ys,rfl,hq,q⟩:=h
 obtain ⟨u,rfl,rx⟩:=vals1 r
 cases rx
 have hn:=line63
 rcases hq with hq | hq
 ·obtain ⟨its,r',pl,hz⟩:=I.list hq
  have hlen:=r'.length
  exact Calls.call_len_list pl.isList (by simp only [List.size_toArray]<;>omega) ⟨.int ys.length,H,I.tok _,⟨s.toks+1,by rw [List.size_toArray,hlen]⟩,q⟩
 ·obtain ⟨its,r',pl,hz⟩:=I.tuple hq
  have hlen:=r'.length
  exact len_tuple pl (by simp only [List.size_toArray]<;>omega) ⟨.int ys.length,H,I.tok _,⟨s.toks+1,by rw [List.size_toArray,hlen]⟩,q⟩
theorem call_len_str:CallR X (.builtin "len") (fun xs H Q=>∃ z,xs=[.str z]/\z.length<=sizeLine/\Q (.int z.length) H):=by
 intro pins s σ H xs us Q I r h
 obtain ⟨z,rfl,hz,q⟩:=h
 obtain ⟨u,rfl,t,rfl⟩:=vals1 r
 have hn:=line63
 exact len_str (by omega) ⟨.int z.length,H,I.tok _,⟨_,rfl⟩,q⟩
theorem CallR.or {f:Value} {r r':List V->Hp->VK->Prop} (h:CallR X f r) (h':CallR X f r'):CallR X f (fun xs H Q=>r xs H Q\/r' xs H Q):=by
 intro pins s σ H xs us Q I rs q
 rcases q with q | q
 ·exact h pins s σ H xs us Q I rs q
 ·exact h' pins s σ H xs us Q I rs q
theorem call_list_of:CallR X (.type "list") (fun xs H Q=>∃ p ys,xs=[.ref p]/\(SqL X.K H p ys\/SqT X.K H p ys)/\∀ l,H l=none->Q (.ref l) (upd H l (.lst ys))):=by
 intro pins s σ H xs us Q I r h
 obtain ⟨p,ys,rfl,hq,q⟩:=h
 obtain ⟨u,rfl,rx⟩:=vals1 r
 cases rx
 have fin:∀ (its:List Value),Vals ys its->ys.length<=sizeLine->∀ (h':Heap) (c':Nat),(∀ b o',s.heap.get? b=some o'->h'.get? b=some o') →
   h'.get? s.heap.objs.size=some { cls:=.type "list",dict:=none,data:=.seq its.toArray c',slots:=#[] }->EP X pins σ Q (.ref s.heap.objs.size) { s with heap:=h' }:=fun its r' hz h' c' kp e=>
  ⟨.ref s.heap.objs.size,_,I.laid (t':=s.toks) kp (Nat.le_refl _) (show ObjOk X.prog X.w _ h' _ (.lst ys) from ⟨hz,its,c',r',e⟩),rfl,q _ (I.hok.fresh (Nat.le_refl _))⟩
 rcases hq with hq | hq
 ·obtain ⟨its,r',pl,hz⟩:=I.list hq
  have hlen:=r'.length
  obtain ⟨o,ho,hc,n,hd⟩:=pl.isList
  exact call_list_seq p (.inl rfl) ho hc hd (fun h' c' kp e=>fin its r' hz h' c' kp e) (by simp only [List.size_toArray]<;>omega)
 ·obtain ⟨its,r',pl,hz⟩:=I.tuple hq
  have hlen:=r'.length
  obtain ⟨o,ho,hc,n,hd⟩:=pl
  exact call_list_seq p (.inr rfl) ho hc hd (fun h' c' kp e=>fin its r' hz h' c' kp e) (by simp only [List.size_toArray]<;>omega)
def tyV (K:PySem.W.Frag) (T:String) (x:V) (H:Hp):Prop:=match x with
 | .str _=>T = "str"
 | .int _=>T = "int"
 | .ref p=>(T = "list"/\∃ xs,SqL K H p xs)\/(T = "tuple"/\∃ o,K.lookup p=some o/\o.cls = .type "tuple"/\o.dict=none) ∨
   (T = "dict"/\((∃ kvs,H p=some (.dK kvs))\/∃ kvs,H p=some (.dT kvs)))\/(T = "set"/\∃ S n,H p=some (.set S n))
 | _=>False
theorem tyV_is {pins:List (Addr×Obj)} {σ:St} {H:Hp} {s:Shared} {T:String} {x:V} {v:Value} (I:Inv X pins σ H s) (r:RelV x v) (ty:tyV X.K T x H) :
  s.TypeIs v T/\∀ a,v = .ref a->∃ ob,s.heap.get? a=some ob/\ob.dict=none:=by
 cases x with
 | str z=>
  obtain ⟨t,rfl⟩:=r
  cases (show T = "str" from ty)
  exact ⟨typeIs_str s z t,fun _ e=>nomatch e⟩
 | int i=>
  obtain ⟨t,rfl⟩:=r
  cases (show T = "int" from ty)
  exact ⟨typeIs_int s i t,fun _ e=>nomatch e⟩
 | ref p=>
  cases r
  rcases ty with ⟨rfl,xs,hq⟩ | ⟨rfl,o,hk,hc,hd⟩ | ⟨rfl,hk⟩ | ⟨rfl,S,n,hk⟩
  ·obtain ⟨its,_,pl,_⟩:=I.list hq
   refine ⟨pl.isList.typeIs,fun a e=>?_⟩
   cases e
   obtain ⟨o,n,e,c,hd,_⟩:=pl
   exact ⟨o,e,hd⟩
  ·refine ⟨⟨o,I.kIn p o hk,hc⟩,fun a e=>?_⟩
   cases e
   exact ⟨o,I.kIn _ o hk,hd⟩
  ·have z:∃ o,s.heap.get? p=some o/\o.ExactDict:=by
    rcases hk with ⟨kvs,hk⟩ | ⟨kvs,hk⟩
    ·obtain ⟨_,_,_,_,o,_,_,e,ex,_⟩:=I.hok p _ hk
     exact ⟨o,e,ex⟩
    ·obtain ⟨_,_,_,_,o,_,_,e,ex,_⟩:=I.hok p _ hk
     exact ⟨o,e,ex⟩
   obtain ⟨o,e,ex⟩:=z
   refine ⟨⟨o,e,ex.1⟩,fun a e2=>?_⟩
   cases e2
   exact ⟨o,e,ex.2.1⟩
  ·obtain ⟨o,_,_,_,e,ex,_⟩:=I.hok p _ hk
   refine ⟨⟨o,e,ex.1⟩,fun a e2=>?_⟩
   cases e2
   exact ⟨o,e,ex.2.1⟩
 | _=>exact False.elim ty
variable {o e:Expr} {es:List Expr} {to:TE} {t:TA} {name:Str} {apos cpos:Pos} {T id:String} {r:V->List V->Hp->VK->Prop}
/- xs.append(e),list.index on a module's tuple .. are MtR facts of 06m -/
end
end L2
namespace L2
open PySem PySem.Spec PyProof.Rows
def MtM (X:Cx) (id:String) (r:V->List V->Hp->VK->Prop):Prop:=
 ∀ (pins:List (Addr×Obj)) (s:Shared) (σ:St) (H:Hp) (x:V) (xs:List V) (v:Value) (us:List Value) (Q:VK),Inv X pins σ H s->RelV x v->Vals xs us->r x xs H Q →
  wpAny (model X.prog X.w) X.A (call (.builtin id) (v :: us)) (EP X pins σ Q) X.xe s
theorem Vals.one:∀ {x:V} {us:List Value},Vals [x] us->∃ u,us=[u]/\RelV x u
 | _,_,.cons r .nil=>⟨_,rfl,r⟩
theorem Vals.zero:∀ {us:List Value},Vals [] us->us=[]
 | _,.nil=>rfl
theorem Vals.dropLast {xs:List V} {us:List Value} (h:Vals xs us):Vals xs.dropLast us.dropLast:=by
 induction h with
 | nil=>exact .nil
 | cons r t ih=>
  cases t with
  | nil=>exact .nil
  | cons q t'=>exact .cons r ih
theorem Vals.eraseIdx:∀ {xs:List V} {us:List Value} (i:Nat),Vals xs us->Vals (xs.eraseIdx i) (us.eraseIdx i)
 | _,_,_,.nil=>.nil
 | _,_,0,.cons _ t=>t
 | _,_,i+1,.cons r t=>.cons r (Vals.eraseIdx i t)
theorem Vals.reverse {xs:List V} {us:List Value} (h:Vals xs us):Vals xs.reverse us.reverse:=by
 induction h with
 | nil=>exact .nil
 | cons r t ih=>rw [List.reverse_cons,List.reverse_cons];exact Vals.append ih (.cons r .nil)
theorem Vals.rep {xs:List V} {us:List Value} (h:Vals xs us):∀ k:Nat,Vals (List.replicate k xs).flatten (List.replicate k us).flatten
 | 0=>.nil
 | k+1=>by
  rw [List.replicate_succ,List.replicate_succ,List.flatten_cons,List.flatten_cons]
  exact Vals.append h (Vals.rep h k)
theorem foldl_rep (its:List Value):∀ (k:Nat) (acc:List Value),
  List.foldl (fun x1 x2=>x1++x2) acc.toArray (List.replicate k its.toArray)=(acc++(List.replicate k its).flatten).toArray
 | 0,acc=>by simp
 | k+1,acc=>by
  have e:acc.toArray++its.toArray=(acc++its).toArray:=by simp
  have e2:(acc++its)++(List.replicate k its).flatten=acc++(List.replicate (k+1) its).flatten:=by
   rw [List.replicate_succ,List.flatten_cons,List.append_assoc]
  rw [<-e2,<-foldl_rep its k (acc++its),<-e,List.replicate_succ,List.foldl_cons]
section
variable {X:Cx} {pins:List (Addr×Obj)} {σ:St} {H:Hp} {s:Shared} {l b:Addr} {xs ys zs:List V}
theorem Inv.lset {its its':List Value} {n:Nat} {f:Array Value->Array Value} {t':Nat} (I:Inv X pins σ H s) (hH:H l=some (.lst xs))
  (e:s.heap.get? l=some { cls:=.type "list",data:=.seq its.toArray n }) (hf:f its.toArray=its'.toArray) (hv:Vals ys its') (hz:ys.length<=sizeLine) :
  Inv X pins σ (upd H l (.lst ys)) { s with heap:=s.heap.update l (Obj.mapSeq f),toks:=t' }:=by
 have q:=PySem.IsL.update e f
 rw [hf] at q
 refine I.write (x:=l) (e:=l) (by rw [hH];exact trivial) (.inl rfl) (fun b' u hb hu=>(Heap.get?_update_other s.heap (Obj.mapSeq f) (Ne.symm hb)).trans hu) ⟨_,q⟩ ?_
 exact ⟨hz,its',_,hv,q⟩
theorem Inv.lnew {its:List Value} {t':Nat} (I:Inv X pins σ H s) (hv:Vals ys its) (hz:ys.length<=sizeLine) :
  Inv X pins σ (upd H s.heap.objs.size (.lst ys)) { s with heap:=s.heap.push { cls:=.type "list",data:=.seq its.toArray },toks:=t' }:=
 I.laid (fun _ _ q=>Heap.get?_push_of_some _ q) (Nat.le_refl _) ⟨hz,its,0,hv,Heap.get?_push_size _ rfl⟩
theorem Inv.fresh (I:Inv X pins σ H s):H s.heap.objs.size=none:=I.hok.fresh (Nat.le_refl _)
theorem Inv.lstM (I:Inv X pins σ H s) (hH:H l=some (.lst xs)):xs.length<=sizeLine/\∃ (its:List Value) (n:Nat),Vals xs its/\xs.length=its.length/\s.heap.get? l=some { cls:=.type "list",data:=.seq its.toArray n }:=by
 obtain ⟨z,its,n,r,e⟩:=I.hok l _ hH
 exact ⟨z,its,n,r,r.length,e⟩
theorem notLongL {n:Nat} (h:n<=sizeLine):Builtin.List.listTooLong n=false:=by
 unfold Builtin.List.listTooLong
 exact decide_eq_false (by omega)
end
section
variable {X:Cx}
def rAppend:V->List V->Hp->VK->Prop:=fun x vs H Q=>∃ l xs y,x = .ref l/\vs=[y]/\H l=some (.lst xs)/\xs.length < sizeLine/\Q .non (upd H l (.lst (xs++[y])))
theorem mt_append:MtM X "list.append" rAppend:=by
 intro pins s σ H x vs v us Q I rx rv h
 obtain ⟨l,xs,y,rfl,rfl,hH,hz,q⟩:=h
 cases rx
 obtain ⟨u,rfl,ru⟩:=rv.one
 obtain ⟨z,its,n,r,hl,e⟩:=I.lstM hH
 refine call_meets F.slot_list_append ⟨_,e,rfl⟩ F.entry_list_append (F.args_list_append_2 _ _) (PySem.list_append l its.toArray n u (by rw [List.size_toArray];omega)) ⟨e,?_⟩
 refine ⟨.non,_,I.lset (its':=its++[u]) hH e (by simp) (r.append (.cons ru .nil)) ?_,rfl,q⟩
 rw [List.length_append,List.length_singleton]
 omega
def rCat:R2:=fun x y H Q=>∃ l b xs zs,x = .ref l/\y = .ref b/\H l=some (.lst xs)/\H b=some (.lst zs)/\xs.length+zs.length<=sizeLine/\∀ p,H p=none->Q (.ref p) (upd H p (.lst (xs++zs)))
theorem op_cat:OpR X (binaryOp .Add) rCat:=by
 intro pins s σ H x y v u Q I rx ry h
 obtain ⟨l,b,xs,zs,rfl,rfl,hH,hB,hz,q⟩:=h
 cases rx
 cases ry
 obtain ⟨z,its,n,r,hl,e⟩:=I.lstM hH
 obtain ⟨z2,its2,n2,r2,hl2,e2⟩:=I.lstM hB
 refine PySem.P.add_list e e2 ?_ (by rw [List.size_toArray,List.size_toArray];omega)
 have ea:its.toArray++its2.toArray=(its++its2).toArray:=by simp
 rw [ea]
 exact ⟨.ref _,_,I.lnew (t':=s.toks) (r.append r2) (by rw [List.length_append];omega),rfl,q _ I.fresh⟩
def rRep:R2:=fun x y H Q=>∃ l k xs,x = .ref l/\y = .int k/\H l=some (.lst xs)/\-(2 ^ 63)<=k/\k < 2 ^ 63/\xs.length * k.toNat<=sizeLine ∧
 ∀ p,H p=none->Q (.ref p) (upd H p (.lst (List.replicate k.toNat xs).flatten))
theorem len_rep {α:Type} (xs:List α) (k:Nat):(List.replicate k xs).flatten.length=k * xs.length:=by
 induction k with
 | zero=>simp
 | succ k ih=>rw [List.replicate_succ,List.flatten_cons,List.length_append,ih,Nat.succ_mul,Nat.add_comm]
theorem op_rep:OpR X (binaryOp .Mult) rRep:=by
 intro pins s σ H x y v u Q I rx ry h
 obtain ⟨l,k,xs,rfl,rfl,hH,h1,h2,hz,q⟩:=h
 cases rx
 obtain ⟨t,rfl⟩:=ry
 obtain ⟨z,its,n,r,hl,e⟩:=I.lstM hH
 have hlen:its.toArray.size * k.toNat<=sizeLine:=by rw [List.size_toArray,<-hl];exact hz
 have hcap:¬ its.toArray.size * k.toNat > (2 ^ 63 - 1) / 8:=by
  have:(sizeLine:Nat)<=(2 ^ 63 - 1) / 8:=by decide
  omega
 have hfit:¬ (!Builtin.List.listFitsIndex k)=true:=by
  rw [fitsIndex_both h1 h2]
  exact Bool.false_ne_true
 have hlong:¬ Builtin.List.listTooLong (its.toArray.size * k.toNat)=true:=by
  rw [notLongL hlen]
  exact Bool.false_ne_true
 have hnew:List.foldl (fun x1 x2=>x1++x2) #[] (List.replicate (if its.toArray.isEmpty=true then 0 else k.toNat) its.toArray)=(List.replicate k.toNat its).flatten.toArray:=by
  have f0:∀ m:Nat,List.foldl (fun x1 x2=>x1++x2) #[] (List.replicate m its.toArray)=(List.replicate m its).flatten.toArray:=fun m=>by
   have:=foldl_rep its m []
   rw [List.nil_append] at this
   exact this
  rw [f0]
  cases its with
  | nil=>simp
  | cons a r'=>rw [if_neg (by simp)]
 refine wpAny_binaryOp_repeat_ref (T:= "list") (U:= "int") (by decide) ⟨_,e,rfl⟩ (fun s'=>typeIs_int s' k t) noFill_list_mul F.fills_int_mul F.slot_int_rmul repeat_list F.slot_int_index.lookup
  (call_meets F.slot_int_rmul (typeIs_int s k t) F.entry_int_rmul (F.args_int_rmul_2 _ _) (int___rmul___int_list k t l its.toArray n)
   ⟨e,rfl,⟨_,e,rfl⟩,call_meets F.slot_list_mul ⟨_,e,rfl⟩ F.entry_list_mul (F.args_list_mul_2 _ _) (AutoListH.list___mul___list_int_3 l its.toArray n k t hfit hcap hlong) ⟨e,?_⟩⟩)
 rw [hnew]
 exact ⟨.ref _,_,I.lnew (t':=s.toks) (r.rep k.toNat) (by rw [len_rep,Nat.mul_comm];exact hz),rfl,q _ I.fresh⟩
end
section
variable {prog:Program} {w:World} {A:Around} {E:Value->Shared->Prop} {s:Shared}
set_option maxRecDepth 100000 in
end
section
variable {X:Cx}
end
end L2
namespace Att
open PySem PySem.W PySem.Calls PyProof.Rows
theorem ints_of_wellAll {P:Params} {h:Heap}:∀ (ns:List Int) (vs:List Value),WellAll P h vs (ns.map WData.int)->IntsAre vs ns:=by
 intro ns
 induction ns with
 | nil=>
  intro vs w
  rw [List.map_nil] at w
  cases w
  exact .nil
 | cons n ns ih=>
  intro vs w
  rw [List.map_cons] at w
  cases w with
  | cons a b=>
   cases a
   exact .cons _ _ (ih _ b)
theorem script_of {l:OpenLaw} {n:Nat} (hn:l.most=some n) {P:Params} {h:Heap} {args:List WData} {vals:List Value}
  (hpre:l.row.toRowW.claim.pre args=true) (hwl:WellAll P h vals args) :
  ∃ a vs ns,vals=[Value.ref a]/\args=[WData.list (ns.map WData.int)]/\h.get? a=some { cls:=.type "list",data:=.seq vs.toArray }/\IntsAre vs ns/\ns.length<=n:=by
 have hsh:WShape.hasAll [] args [.list .int]=true:=(pre_splitW hpre).1
 have hc:l.pre.holds [] { args:=args }=true:=(pre_splitW hpre).2
 obtain ⟨d,r,rfl,h1,h2⟩:=hasAllW_cons hsh
 obtain rfl:=hasAllW_nil h2
 obtain ⟨xs,rfl,h3⟩:=hasW_list h1
 obtain ⟨ns,rfl⟩:=items_int h3
 have hlen:ns.length<=n:=by
  unfold OpenLaw.pre at hc
  have h4:(WTm.not (.lt (.lit (.int (n:Int))) (.len (.arg 0)))).holds [] { args:=[.list (ns.map .int)] }=true:=by
   have h4:=(holds_andW hc).1
   rw [hn] at h4
   exact h4
  have h5:=condW_of h4 (w_not (w_lt w_lit (w_len_list (w_arg rfl))))
  rw [List.length_map] at h5
  refine Nat.le_of_not_lt fun q=>?_
  have q':(n:Int) < ((ns.length:Nat):Int):=by omega
  first
   | (rw [decide_eq_true q'] at h5;exact absurd h5 (by decide))
   | (simp at h5;omega)
 cases hwl with
 | cons w1 w2=>
  cases w2
  cases w1 with
  | list ho hall=>exact ⟨_,_,ns,rfl,rfl,ho,ints_of_wellAll ns _ hall,hlen⟩
theorem post_true (l:OpenLaw) (args:List WData):l.row.toRowW.claim.post args (.bool true) args=true:=
 postW_of (r:=l.row.toRowW) (X:=(true == true))
  (show WShape.has [] (.bool true) .bool=true by first | rfl | decide | simp [WShape.has,WShape.arms,WShape.armsAll])
  (show (WTm.eq .res (.lit (.bool true))).value [] { args:=args,res:=some (.bool true),after:=args }=some (.bool (true == true)) from w_eq_bool (w_res rfl) w_lit) rfl
theorem attach_call {l:OpenLaw} {n:Nat} {q:Program} {loose:List Str} {XP:(Str->Option Value)->Heap->Prop} {YP:World->Heap->Prop} {d:DefRec}
  (hn:l.most=some n) (hdf:d.params.defaults=[])
  (call:∀ (w:World) (s₀ s₁:Shared) (mg mb:Str->Option Value) (fa:Addr) (o:Obj) (pm cd doc:Value) (a:Addr) (vs:List Value) (ns:List Int),
   Ground q loose [] XP w s₀ mg mb s₁.heap->YP w s₁.heap →
   s₁.heap.get? fa=some o->o.data = .func (docDef d.name d.params d.body d.scope pm cd doc)->s₁.heap.CodeRec cd d.name->mg d.name=some (.ref fa) →
   s₁.heap.get? a=some { cls:=.type "list",data:=.seq vs.toArray }->IntsAre vs ns->ns.length<=n->s₁.gens = #[] →
   codeAny (model l.prog w) callerA (.call (.ref fa) ⟨[.ref a],[]⟩) (fun r s'=>r = .ok (.ret (.bool true))/\OldK s₁.heap s'.heap/\s'.os=s₁.os/\AllBare s'.gens) s₁) :
  WalkO q loose XP YP l.row.toRowW d [] (fun f vs=>PySem.call f vs):=by
 intro w s₀ s₁ mg mb G Y fa o pm cd doc dV kV ho hd hcd hD hmg hg args vals as hpre hlay hrd hwl hlo
 obtain rfl:dV = .none:=Dflts.none hD hdf
 obtain rfl:kV = .none:=Dflts.noKw hD
 obtain ⟨a,vs,ns,rfl,rfl,hobj,hints,hlen⟩:=script_of hn hpre hwl
 refine enter_call (codeAny_mono (call w s₀ s₁ mg mb fa o pm cd doc a vs ns G Y ho (fd_plain hd) hcd hmg hobj hints hlen hg) fun r s' hq=>?_)
 obtain ⟨rfl,h2,h3,h4⟩:=hq
 exact ⟨.inl ⟨.bool true,.bool true,[],rfl,fun _=>rfl,.bool true,post_true l _,fun _=>⟨List.Pairwise.nil,fun _ hm=>(nomatch hm)⟩⟩,h2,h3,h4⟩
section
variable {prog:Program} {w:World} {A:Around} {E:Value->Shared->Prop} {s:Shared} {K:Frag}
end
end Att
namespace L2
open PySem PySem.Spec PyProof.Rows
theorem vals_ints:∀ {vs:List Value} {ns:List Int},IntsAre vs ns->Vals (ns.map V.int) vs
 | _,_,.nil=>.nil
 | _,_,.cons n t h=>.cons ⟨t,rfl⟩ (vals_ints h)
def Only (H:Hp):Prop:=∀ b,H b=none\/∃ o xs,H b=some (.frz o (.lst xs))
theorem law_call {P:Program} {w:World} {K:PySem.W.Frag} {mg mb:Str->Option Value} {CX:CXT} {k:Nat} {fa a:Addr} {fd:FuncData} {x:Str} {sp:Sp} {s₁:Shared} {vs:List Value} {ns:List Int}
  (KX:K.In s₁.heap) (hns:s₁.heap.Ns mainGlobals mg) (hb:s₁.heap.Ns builtinsNs mb) (hbb:∀ x:Str,x≠"__name__"->mb x=bootBuiltins x) (hlim:s₁.heap.NoLimit) (hg:s₁.gens = #[])
  (ha:s₁.heap.get? a=some { cls:=.type "list",data:=.seq vs.toArray }) (hi:IntsAre vs ns) (hl:ns.length<=sizeLine) (hr:Room k callerA)
  (F:∀ base:Heap,K.In base->base.Ns mainGlobals mg->FnOk P w K mg base CX k fa fd [x] sp) (hbind:∀ (s:Shared) (u:Value),BindsTo s fd ⟨[u],[]⟩ [(x,u)])
  (hsp:∀ H:Hp,Only H->SqL K H a (ns.map V.int)->sp [.ref a] H (fun v _=>v = .bl true) fun _ _ _=>False)
  (hCX:∀ H e s',CX [] H s₁ (fun _ _ _=>False) e s'->False) :
  codeAny (model P w) callerA (.call (.ref fa) ⟨[.ref a],[]⟩) (fun r s'=>r = .ok (.ret (.bool true))/\OldK s₁.heap s'.heap/\s'.os=s₁.os/\AllBare s'.gens) s₁:=by
 have rv:=vals_ints hi
 have lenV:=hi.length
 have core:∀ H:Hp,Only H->SqL K H a (ns.map V.int)->HOk P w H s₁.heap->(∀ b,H b≠none->b=a)->(H a≠none->K.lookup a=none) →
   codeAny (model P w) callerA (.call (.ref fa) ⟨[.ref a],[]⟩) (fun r s'=>r = .ok (.ret (.bool true))/\OldK s₁.heap s'.heap/\s'.os=s₁.os/\AllBare s'.gens) s₁:=by
  intro H hO hS hok hA hK
  have base_of:∀ {b:Addr} {o:Obj},s₁.heap.get? b=some o->H b=none->(hidT s₁.heap H).get? b=some o:=fun e n=>hidT_get e n
  have noA:∀ {b:Addr} {o:Obj} {es:Array DictEntry} {ep:Nat},s₁.heap.get? b=some o->o.data = .dict es ep->H b=none:=fun {b o es ep} e d=>by
   cases q:H b with
   | none=>rfl
   | some u=>
    have e':b=a:=hA b (by rw [q];simp)
    subst e'
    rw [ha] at e;cases e
    have d':Data.seq vs.toArray _=Data.dict es ep:=d
    cases d'
  have nsK:∀ {b:Addr} {m:Str->Option Value},s₁.heap.Ns b m->(hidT s₁.heap H).Ns b m:=fun {b m} ⟨o,es,ep,e,d,r⟩=>⟨o,es,ep,base_of e (noA e d),d,r⟩
  have hKb:K.In (hidT s₁.heap H):=fun b o e=>base_of (KX b o e) (by
   cases q:H b with
   | none=>rfl
   | some u=>
    have e':b=a:=hA b (by rw [q];simp)
    subst e'
    rw [hK (by rw [q];simp)] at e;cases e)
  have hM:Mod K mg (hidT s₁.heap H):=⟨hKb,nsK hns,⟨mb,nsK hb,hbb⟩,let ⟨mc,h1,h2⟩:=hlim;⟨mc,nsK h1,h2⟩⟩
  have e0:Env0 P w K mg (hidT s₁.heap H) callerA [] s₁ H:=⟨rfl,hM,fun b o e=>of_hidT e,Nat.le_of_eq (hidT_size _ _),trivial,fun b hb=>absurd (show b∈([]:List Addr) from hb) (by simp),hok,.of_eq hg⟩
  refine codeAny_mono ((F _ hKb (nsK hns)).run callerA [] s₁ H ⟨[.ref a],[]⟩ [.ref a] [.ref a] _ _ hr e0 (hbind s₁ (.ref a)) (.cons rfl .nil) (hsp H hO hS)) fun r s' h=>?_
  cases r with
  | error e=>exact (hCX H e s' h).elim
  | ok fl=>
   cases fl with
   | next=>exact False.elim h
   | brk=>exact False.elim h
   | cont=>exact False.elim h
   | ret u=>
    obtain ⟨v,H',os,bare,un,hok',r',q⟩:=h
    have q':v = .bl true:=q
    subst q'
    obtain rfl:u=Value.bool true:=r'
    refine ⟨rfl,OldK.of_keep fun b o e=>?_,os,bare⟩
    cases q:H b with
    | none=>exact un.keep b o e q (by intro z;exact absurd (show b∈([]:List Addr) from z) (by simp)) (by simp)
    | some u=>
     rcases hO b with z | ⟨ob,xs,z⟩
     ·rw [q] at z;cases z
     ·have z2:=un.frzs b ob _ z
      obtain ⟨e1,_⟩:=hok b _ z
      obtain ⟨e2,_⟩:=hok' b _ z2
      rw [e] at e1;cases e1
      exact e2
 cases hk:K.lookup a with
 | some o=>
  have e:=KX a o hk
  rw [ha] at e
  cases e
  refine core (fun _=>none) (fun _=>.inl rfl) (.inr ⟨_,vs.toArray,_,hk,rfl,rfl,rfl,by rw [List.size_toArray,lenV];exact hl,by simpa using rv⟩) (fun b u z=>by have z':(none:Option HO)=some u:=z;cases z') (fun b z=>absurd rfl z) fun z=>absurd rfl z
 | none=>
  refine core (fun b=>if b=a then some (.frz { cls:=.type "list",data:=.seq vs.toArray } (.lst (ns.map V.int))) else none) (fun b=>?_) (.inl (.inr ⟨{ cls:=.type "list",data:=.seq vs.toArray },if_pos rfl⟩)) (fun b u z=>?_) (fun b z=>?_) fun _=>hk
  ·by_cases hb:b=a
   ·exact .inr ⟨_,_,if_pos hb⟩
   ·exact .inl (if_neg hb)
  ·by_cases hb:b=a
   ·have z':=(if_pos hb).symm.trans z
    cases z'
    subst hb
    exact ⟨ha,by rw [List.length_map];exact hl,vs,_,rv,ha⟩
   ·have z':=(if_neg hb).symm.trans z
    cases z'
  ·by_cases hb:b=a
   ·exact hb
   ·exact absurd (if_neg hb) z
end L2
namespace L2
open PySem PySem.Spec PyProof.Rows
abbrev KOf {K:PySem.W.Frag} {h:Heap} (_:K.In h):PySem.W.Frag:=K
theorem walk_of {l:PySem.W.OpenLaw} {n k:Nat} {q:Program} {loose:List Str} {XP:(Str->Option Value)->Heap->Prop} {YP:World->Heap->Prop} {d:DefRec} {K:Params->PySem.W.Frag} {CX:World->CXT} {sp:World->Sp} {x:Str}
  (hn:l.most=some n) (hn2:n<=sizeLine) (hdf:d.params.defaults=[]) (hr:Room k callerA)
  (hY:∀ (w:World) (h:Heap),YP w h->(K w.params).In h)
  (F:∀ (w:World) (mg:Str->Option Value) (fa:Addr) (h:Heap),(K w.params).In h->h.Ns mainGlobals mg->mg d.name=some (.ref fa) →
   ∃ fd:FuncData,(∀ (s:Shared) (u:Value),BindsTo s fd ⟨[u],[]⟩ [(x,u)]) ∧
    ∀ base:Heap,(K w.params).In base->base.Ns mainGlobals mg->FnOk l.prog w (K w.params) mg base (CX w) k fa fd [x] (sp w))
  (hsp:∀ (w:World) (H:Hp) (a:Addr) (ns:List Int),ns.length<=n->Only H->SqL (K w.params) H a (ns.map V.int)->sp w [.ref a] H (fun v _=>v = .bl true) fun _ _ _=>False)
  (hCX:∀ (w:World) (H:Hp) (s:Shared) (e:Value) (s':Shared),CX w [] H s (fun _ _ _=>False) e s'->False) :
  PySem.W.WalkO q loose XP YP l.row.toRowW d [] (fun f vs=>PySem.call f vs):=by
 refine Att.attach_call hn hdf fun w s₀ s₁ mg mb fa o pm cd doc a vs ns G Y ho hd hcd hmg hobj hints hlen hg=>?_
 have KX:=hY w _ Y
 obtain ⟨fd,hb,hF⟩:=F w mg fa _ KX G.T.g hmg
 exact law_call KX G.T.g G.T.b G.T.builtins G.T.nolimit hg hobj hints (Nat.le_trans hlen hn2) hr hF hb (fun H hO hS=>hsp w H a ns hlen hO hS) fun H e s'=>hCX w H s₁ e s'
end L2
/- THE LAST THEOREM (shape;LID,My.* are yours):
   My.Adr: a structure of the addresses that your layer names (classes,functions);My.Txt K t: a structure (Prop) of the equations over K;
   My.txt_mk:{K} {implicit addresses ..} (e1:nsIn K mainGlobals "law" = some (some (.ref f))) (e2:K.lookup f=some ⟨oc,od,.func (fnOf "law" "law" params body scope dV kV doc pm an cdv ct),sl⟩) (e3:codeIn K cdv "law" = true) .. : ∃ t,My.Txt K t
set_option maxRecDepth 100000 in
set_option maxHeartbeats 0 in
theorem PySem.Challenge.cw_LID_holds : PySem.Challenge.rw_LID.Holds := by
 w_on;o_law;k_head;(case hw=>w_witness2)
 k_fill
 refine L2.walk_of (l:=PySem.Challenge.rw_LID) (n:=63) (k:=40) (x:= "script") (CX:=fun w=>..) (sp:=fun _=>My.sp_law) rfl (by decide) rfl ⟨rfl,by decide,by decide⟩ (fun w h Y=>PySem.W.kIn_of Y) ?F ?S ?C
 case F=>
  intro w mg fa h KX G hmg
  have T:∃ t,My.Txt (L2.KOf KX) t:=by
   dsimp only [L2.KOf]                          -- K must stand as «<heap const> w.params» for k_is
   refine' My.txt_mk ?e1 ?e2 ?e3 ..
   (case e1=>PySem.W.k_is)                    -- in the order: a name -> its address -> its object -> its parts
   (case e2=>PySem.W.k_is)
   ..
  obtain ⟨t,T⟩:=T
  have e0:=hmg.symm.trans (PySem.W.mg_of KX G T.law)
  cases e0                                       -- fa is the law's own address
  exact ⟨_,fun s u=>.of_eq rfl,fun base kb nb=>My.law_fn T kb nb⟩     -- if «.of_eq rfl» comes too early: refine' ⟨_,?b,fun base kb nb=>My.law_fn T kb nb⟩;exact fun s u=>.of_eq rfl
 case S=>exact fun w H a ns hl hO hS=>..
 case C=>exact ..
(the tactic k_is has no namespace: write k_is) -/
namespace L2
open PySem PySem.Spec PyProof.Rows
def defArgs (s:Stmt):Arguments:=match s with
 | .FunctionDef _ a _ _ _ _ _ _ _ _=>a
 | _=>{ posonlyargs:=[],args:=[],vararg:=none,kwonlyargs:=[],kw_defaults:=[],kwarg:=none,defaults:=[] }
def defBody (s:Stmt):List Stmt:=match s with
 | .FunctionDef _ _ b _ _ _ _ _ _ _=>b
 | _=>[]
def defScope (s:Stmt):Scope:=match s with
 | .FunctionDef _ _ _ _ _ _ sc _ _ _=>sc
 | _=>{ kind:=.function,names:=[],isGenerator:=false,isCoroutine:=false }
abbrev CX0:CXT:=fun _ _ _ _ _ _=>False
abbrev E0:XK:=fun _ _ _=>False
theorem pass0 {X:Cx}:Passes CX0 X E0:=fun _ _ _ _ _ _ _ h=>h.elim
structure Fun (K:PySem.W.Frag) (x qual:Str) (st:Stmt) (f:Addr) (fd:FuncData):Prop where
 ex:∃ (oc:Value) (od:Option Addr) (kV doc pm:Value) (an:Option Addr) (cdv ct:Value) (osl:Array (Option Value)),
  fd=PySem.W.fnOf x qual (defArgs st) (defBody st) (defScope st) .none kV doc pm an cdv ct/\K.lookup f=some ⟨oc,od,.func fd,osl⟩/\PySem.W.codeIn K cdv qual=true
 kp:PySem.W.keepIn K (.ref f)=true
section
variable {P:Program} {w:World} {K:PySem.W.Frag} {mg:Str->Option Value} {base:Heap}
theorem Fun.ok {x qual:Str} {st:Stmt} {f:Addr} {fd:FuncData} {N ps:List Str} {k:Nat} {sp:Sp} (F:Fun K x qual st f fd) (S:FnScope N ps (defScope st)) (len:∀ vs H Q E,sp vs H Q E->vs.length=ps.length)
  (hbody:∀ (cdv:Value) (A:Around) (outer:List Env) (s:Shared) (H:Hp) (vs:List V) (Q:VK) (E:XK),Room k (A.deeper (envOfC qual (defScope st) s.heap.objs.size f cdv))->sp vs H Q E →
   ∃ t,PSs (cxOf CX0 P w K mg base N qual (defScope st) f cdv A outer s H E).nox (defBody st) t/\t { nx:=fun _ H'=>Q .non H',rt:=Q } (start N vs) H):FnOk P w K mg base CX0 (k+1) f fd ps sp:=by
 obtain ⟨oc,od,kV,doc,pm,an,cdv,ct,osl,rfl,lk,hcd⟩:=F.ex
 refine fn_of lk hcd S len fun A outer s H vs Q E hr hsp=>?_
 obtain ⟨t,h,q⟩:=hbody cdv A outer s H vs Q E hr hsp
 exact ⟨t,h.nox,q⟩
theorem Fun.binds {x qual:Str} {st:Stmt} {f:Addr} {fd:FuncData} {ps:List Str} (F:Fun K x qual st f fd)
  (h:∀ (kV doc pm:Value) (an:Option Addr) (cdv ct:Value) (us:List Value),us.length=ps.length->bindArgs (PySem.W.fnOf x qual (defArgs st) (defBody st) (defScope st) .none kV doc pm an cdv ct) ⟨us,[]⟩=pure (ps.zip us)):Binds K fd ps []:=by
 obtain ⟨oc,od,kV,doc,pm,an,cdv,ct,osl,rfl,lk,hcd⟩:=F.ex
 exact .all (h kV doc pm an cdv ct)
theorem fun_mk {x qual:Str} {st:Stmt} {f:Addr} {oc:Value} {od an:Option Addr} {osl:Array (Option Value)} {kV doc pm cdv ct:Value} (l:K.lookup f=some ⟨oc,od,.func (PySem.W.fnOf x qual (defArgs st) (defBody st) (defScope st) .none kV doc pm an cdv ct),osl⟩)
  (c:PySem.W.codeIn K cdv qual=true) (k:PySem.W.keepIn K (.ref f)=true):Fun K x qual st f (PySem.W.fnOf x qual (defArgs st) (defBody st) (defScope st) .none kV doc pm an cdv ct):=⟨⟨oc,od,kV,doc,pm,an,cdv,ct,osl,rfl,l,c⟩,k⟩
end
section
variable {X:Cx}
end
theorem iteF {A B:Prop} (h:B):if false=true then A else B:=by
 rw [if_neg Bool.false_ne_true]
 exact h
theorem ite2 {c A B:Prop} [Decidable c] (h1:c->A) (h2:¬ c->B):if c then A else B:=by
 by_cases h:c
 ·rw [if_pos h]
  exact h1 h
 ·rw [if_neg h]
  exact h2 h
def Same (H H':Hp):Prop:=∀ b o,H b=some o->H' b=some o
theorem Same.refl (H:Hp):Same H H:=fun _ _ h=>h
theorem Same.trans {H H1 H2:Hp} (a:Same H H1) (b:Same H1 H2):Same H H2:=fun c o h=>b c o (a c o h)
theorem Same.free {H H':Hp} (e:Same H H') {l:Addr} (h:H' l=Option.none):H l=Option.none:=by
 cases q:H l with
 | none=>rfl
 | some o=>
  rw [e l o q] at h
  cases h
theorem Same.seq {K:PySem.W.Frag} {H H':Hp} {a:Addr} {xs:List V} (e:Same H H') (h:SqL K H a xs):SqL K H' a xs:=by
 rcases h with (h | ⟨o,h⟩) | h
 ·exact .inl (.inl (e _ _ h))
 ·exact .inl (.inr ⟨o,e _ _ h⟩)
 ·exact .inr h
end L2
section
namespace L2
open PySem
section
variable {prog:Program} {w:World} {A:Around} {R:Result->Shared->Prop} {s:Shared}
theorem compLoop_any {elt target iter:Expr} {ifs:List Expr} {scope:Scope} {pos:Pos} {it acc:Value} {env:Env} (I:Nat->Shared->Prop)
  (turn:∀ n s,I n s->wpAny (model prog w) A (pyNext it) (fun r s₁=>match r with
   | none=>R (.ok .next) s₁
   | some v=>wpAny (model prog w) A (letOwnedTupleGo target it v) (fun _ s₁'=>wpAny (model prog w) A (assign target env v) (fun _ s₂=>
     wpAny (model prog w) A (forIn ifs true fun c r=>if r=true then do let ok <-isTrue c env (eval c env);pure (ForInStep.yield ok) else pure (ForInStep.yield r)) (fun ok s₃=>
      if ok=true then wpAny (model prog w) A (eval elt env) (fun x s₄=>
       wpAny (model prog w) A (call (.builtin "list.append") [acc,x]) (fun _ s₅=>∃ m,m < n/\I m s₅) (fun _ _=>False) s₄) (fun _ _=>False) s₃
      else ∃ m,m < n/\I m s₃) (fun _ _=>False) s₂) (fun _ _=>False) s₁') (fun _ _=>False) s₁) (fun _ _=>False) s)
  (n:Nat) (h:I n s) :
  codeAny (model prog w) A (.compLoop (.ListComp elt [⟨target,iter,ifs,0⟩] scope pos) 0 it acc env) R s:=by
 refine codeAny_loop rfl I (fun n s hI=>?_) n h
 show wpAny _ A ((compTurn (.ListComp elt [⟨target,iter,ifs,0⟩] scope pos) 0 it acc env).onRaise (fun x=>do noteFrame x env;theTreesLotGoes x)) _ _ s
 refine wpAny_noted ?_
 rw [compTurn_list]
 refine wpAny_bind (wpAny_standAt (wpAny_bind (wpAny_mono (turn n s hI) (fun r s₁ h₁=>?_) fun _ _ h'=>h'.elim)))
 cases r with
 | none=>exact wpAny_pure h₁
 | some v=>
  refine wpAny_bind (wpAny_mono h₁ (fun _ s₁' h₁'=>?_) fun _ _ h'=>h'.elim)
  refine wpAny_bind (wpAny_mono h₁' (fun _ s₂ h₂=>wpAny_bind (wpAny_mono h₂ (fun ok s₃ h₃=>?_) fun _ _ h'=>h'.elim)) fun _ _ h'=>h'.elim)
  cases ok with
  | false=>exact wpAny_pure ⟨rfl,h₃⟩
  | true=>
   exact wpAny_bind (wpAny_bind (wpAny_mono h₃ (fun x s₄ h₄=>wpAny_bind (wpAny_mono h₄ (fun _ s₅ h₅=>wpAny_pure (wpAny_pure ⟨rfl,h₅⟩)) fun _ _ h'=>h'.elim)) fun _ _ h'=>h'.elim))
end
theorem closure_from {env:Env}:∀ (names:List (Str×NameKind)) (acc:List (Str×Addr)),(∀ y∈names,y.2 = .free->∃ c,env.cells.lookup y.1=some c)->(∀ x c,acc.lookup x=some c->env.cells.lookup x=some c) →
  ∃ cl:List (Str×Addr),(forIn names acc fun (x:Str×NameKind) (r:List (Str×Addr))=>(match x with | (name,kind)=>if (kind == NameKind.free)=true then do let a <-cellOf env name;pure (ForInStep.yield ((name,a) :: r)) else pure (ForInStep.yield r):Sem (ForInStep (List (Str×Addr)))))=pure cl ∧
   (∀ x c,cl.lookup x=some c->env.cells.lookup x=some c)/\(∀ y∈names,y.2 = .free->∃ c,cl.lookup y.1=some c)/\∀ x c,acc.lookup x=some c->∃ c',cl.lookup x=some c'
 | [],acc,_,h=>⟨acc,rfl,h,(fun y z=>by cases z),fun _ c e=>⟨c,e⟩⟩
 | (name,kind) :: r,acc,hf,h=>by
  by_cases hk:kind = .free
  ·subst hk
   obtain ⟨c,hc⟩:=hf (name,.free) List.mem_cons_self rfl
   have h2:∀ x d,((name,c) :: acc).lookup x=some d->env.cells.lookup x=some d:=fun x d e=>by
    rw [List.lookup_cons] at e
    cases hx:x == name with
    | true=>rw [hx] at e;cases e;rw [eq_of_beq hx];exact hc
    | false=>rw [hx] at e;exact h x d e
   obtain ⟨cl,e,h3,h4,h5⟩:=closure_from r ((name,c) :: acc) (fun y hy=>hf y (List.mem_cons_of_mem _ hy)) h2
   refine ⟨cl,?_,h3,fun y hy hyf=>?_,fun x d hx=>?_⟩
   ·rw [List.forIn_cons]
    simp only [beq_self_eq_true,if_true,cellOf,hc,pure_bind]
    exact e
   ·rcases List.mem_cons.mp hy with rfl | hy
    ·exact h5 name c (by simp [List.lookup_cons])
    ·exact h4 y hy hyf
   ·cases hxn:x == name with
    | true=>exact h5 x c (by rw [List.lookup_cons,hxn])
    | false=>exact h5 x d (by rw [List.lookup_cons,hxn];exact hx)
  ·obtain ⟨cl,e,h3,h4,h5⟩:=closure_from r acc (fun y hy=>hf y (List.mem_cons_of_mem _ hy)) h
   have hb:(kind == NameKind.free)=false:=by simpa using hk
   refine ⟨cl,?_,h3,fun y hy hyf=>?_,h5⟩
   ·rw [List.forIn_cons]
    simp only [hb,Bool.false_eq_true,if_false,pure_bind]
    exact e
   ·rcases List.mem_cons.mp hy with rfl | hy
    ·exact absurd hyf hk
    ·exact h4 y hy hyf
theorem closure_ok {env:Env} {scope:Scope} (hf:∀ y∈scope.names,y.2 = .free->∃ c,env.cells.lookup y.1=some c) :
  ∃ cl,closureFor scope env=pure cl/\(∀ x c,cl.lookup x=some c->env.cells.lookup x=some c)/\∀ y∈scope.names,y.2 = .free->∃ c,cl.lookup y.1=some c:=by
 obtain ⟨cl,e,h1,h2,_⟩:=closure_from (env:=env) scope.names [] hf (fun x c e=>by simp at e)
 refine ⟨cl,?_,h1,h2⟩
 unfold closureFor
 exact (congrArg (· >>= pure) e).trans (pure_bind _ _)
end L2
end
section
namespace L2
open PySem PySem.Spec PyProof.Rows
abbrev Cx.block (X:Cx) (scope:Scope) (cl:List (Str×Addr)) (C:Addr) (N:List Str) (s:Shared) (H:Hp) (fp:List Addr):Cx:=
 { X with N:=N,s₀:=s,H₀:=H,env:=compEnvC scope cl C X.env,outer:=X.stack,ex:=fp,fn:=fun _=>false,pn:=[],xe:=fun _ _=>False }
def compOk (osc:Scope) (oN:List Str) (sc:Scope) (N:List Str) (js:List Nat):Bool:=
 sc.names.all (fun y=>y.2 != .cell) && (sc.names.all (fun y=>y.2 != .local || sc.names.lookup y.1 == some .local) && (decide (js.length<=N.length) &&
  (sc.names.all (fun y=>y.2 != .free || (osc.names.lookup y.1 == some .cell || osc.names.lookup y.1 == some .free)) &&
   (List.range js.length).all (fun i=>match N[N.length - js.length+i]?,oN[js.getD i 0]? with | some x,some y=>x == y && sc.names.lookup x == some .free | _,_=>false))))
structure CompSc (osc:Scope) (oN:List Str) (sc:Scope) (N:List Str) (js:List Nat):Prop where
 nocell:∀ y∈sc.names,y.2≠.cell
 names:∀ y∈sc.names,y.2 = .local->sc.names.lookup y.1=some .local
 len:js.length<=N.length
 tk:∀ y∈sc.names,y.2 = .free->osc.names.lookup y.1=some .cell\/osc.names.lookup y.1=some .free
 fr:∀ (i j:Nat),js[i]? = some j->∃ x,N[N.length - js.length+i]? = some x/\oN[j]? = some x/\sc.names.lookup x=some .free
theorem compOk_sc {osc:Scope} {oN:List Str} {sc:Scope} {N:List Str} {js:List Nat} (h:compOk osc oN sc N js=true):CompSc osc oN sc N js:=by
 unfold compOk at h
 simp only [Bool.and_eq_true] at h
 obtain ⟨h1,h2,h3,h4,h5⟩:=h
 refine ⟨fun y hy=>?_,fun y hy hl=>?_,of_decide_eq_true h3,fun y hy hf=>?_,fun i j hj=>?_⟩
 ·have:=List.all_eq_true.mp h1 y hy
  simpa using this
 ·have:=List.all_eq_true.mp h2 y hy
  rw [hl] at this
  simpa using this
 ·have:=List.all_eq_true.mp h4 y hy
  rw [hf] at this
  simpa using this
 ·have hi:i < js.length:=(List.getElem?_eq_some_iff.mp hj).1
  have:=List.all_eq_true.mp h5 i (List.mem_range.mpr hi)
  have e:js.getD i 0=j:=by rw [List.getD_eq_getElem?_getD,hj];rfl
  rw [e] at this
  split at this
  ·rename_i x y e1 e2
   simp only [Bool.and_eq_true,beq_iff_eq] at this
   obtain ⟨rfl,h⟩:=this
   exact ⟨x,e1,e2,h⟩
  ·cases this
def blk (n:Nat) (js:List Nat) (σ:St):St:=List.replicate n none++js.map fun j=>(σ[j]?).join
theorem blk_get {n:Nat} {js:List Nat} {σ:St} {i:Nat} {v:V} (h:(blk n js σ)[i]? = some (some v)):∃ k j,i=n+k/\js[k]? = some j/\σ[j]? = some (some v):=by
 unfold blk at h
 by_cases hi:i < n
 ·rw [List.getElem?_append_left (by simpa using hi),List.getElem?_replicate] at h
  split at h<;>cases h
 ·rw [List.getElem?_append_right (by simpa using hi),List.length_replicate,List.getElem?_map] at h
  cases e:js[i - n]? with
  | none=>rw [e] at h;cases h
  | some j=>
   rw [e] at h
   refine ⟨i - n,j,by omega,e,?_⟩
   have h':(σ[j]?).join=some v:=by simpa using h
   cases q:σ[j]? with
   | none=>rw [q] at h';cases h'
   | some o=>
    rw [q] at h'
    have:o=some v:=h'
    rw [this]
theorem relabel_lookup {env:Env}:∀ {names:List (Str×NameKind)} {x:Str} {k:NameKind},
  (names.map fun (n,k)=>if (k == NameKind.free && env.scope.kind == .function && env.kindOf n == some .cell) then (n,NameKind.cell) else (n,k)).lookup x=some k->k = .cell\/k = .free->(∀ y∈names,y.2≠.cell)->(x,NameKind.free)∈names
 | [],_,_,h,_,_=>by simp at h
 | (n,k1) :: r,x,k,h,hk,hc=>by
  have ih:=@relabel_lookup env r x k
  have hc':∀ y∈r,y.2≠.cell:=fun y hy=>hc y (List.mem_cons_of_mem _ hy)
  have h1:k1≠.cell:=hc (n,k1) List.mem_cons_self
  have h:List.lookup x ((if (k1 == NameKind.free && env.scope.kind == .function && env.kindOf n == some .cell)=true then (n,NameKind.cell) else (n,k1)) :: _)=some k:=h
  by_cases c:(k1 == NameKind.free && env.scope.kind == .function && env.kindOf n == some .cell)=true
  ·rw [if_pos c,List.lookup_cons] at h
   cases hx:x == n with
   | true=>
    have e:k1 = .free:=by simp only [Bool.and_eq_true,beq_iff_eq] at c;exact c.1.1
    rw [eq_of_beq hx,e]
    exact List.mem_cons_self
   | false=>rw [hx] at h;exact List.mem_cons_of_mem _ (ih h hk hc')
  ·rw [if_neg c,List.lookup_cons] at h
   cases hx:x == n with
   | true=>
    rw [hx] at h
    have e:k1=k:=Option.some.inj h
    have e2:k1 = .free:=by
     rcases hk with z | z
     ·exact absurd (e.trans z) h1
     ·exact e.trans z
    rw [eq_of_beq hx,e2]
    exact List.mem_cons_self
   | false=>rw [hx] at h;exact List.mem_cons_of_mem _ (ih h hk hc')
theorem relabel_free {env:Env}:∀ {names:List (Str×NameKind)} {x:Str},names.lookup x=some .free →
  (names.map fun (n,k)=>if (k == NameKind.free && env.scope.kind == .function && env.kindOf n == some .cell) then (n,NameKind.cell) else (n,k)).lookup x=some .cell ∨
  (names.map fun (n,k)=>if (k == NameKind.free && env.scope.kind == .function && env.kindOf n == some .cell) then (n,NameKind.cell) else (n,k)).lookup x=some .free
 | [],_,h=>by simp at h
 | (n,k1) :: r,x,h=>by
  have ih:=@relabel_free env r x
  show List.lookup x ((if (k1 == NameKind.free && env.scope.kind == .function && env.kindOf n == some .cell)=true then (n,NameKind.cell) else (n,k1)) :: _)=_\/List.lookup x ((if (k1 == NameKind.free && env.scope.kind == .function && env.kindOf n == some .cell)=true then (n,NameKind.cell) else (n,k1)) :: _)=_
  rw [List.lookup_cons] at h
  by_cases c:(k1 == NameKind.free && env.scope.kind == .function && env.kindOf n == some .cell)=true
  ·rw [if_pos c,List.lookup_cons]
   cases hx:x == n with
   | true=>exact .inl rfl
   | false=>rw [hx] at h;exact ih h
  ·rw [if_neg c,List.lookup_cons]
   cases hx:x == n with
   | true=>rw [hx] at h;exact .inr h
   | false=>rw [hx] at h;exact ih h
def PF (X:Cx) (ifs:List Expr) (t:TT):Prop:=
 ∀ (pins:List (Addr×Obj)) (s:Shared) (σ:St) (H:Hp) (Q:Bool->Hp->Prop),Inv X pins σ H s->t σ H Q →
  wpAny (model X.prog X.w) X.A (forIn ifs true fun c r=>if r=true then do let ok <-isTrue c X.env (eval c X.env);pure (ForInStep.yield ok) else pure (ForInStep.yield r)) (TP X pins σ Q) X.xe s
def tYes:TT:=fun _ H Q=>Q true H
theorem pf_nil {X:Cx}:PF X [] tYes:=fun _ _ _ H _ I h=>wpAny_tests_nil ⟨H,I,h⟩
theorem pf_one {X:Cx} {c:Expr} {t:TT} (h:PT X c t):PF X [c] t:=fun pins s σ H Q I hw=>wpAny_tests_one (h pins s σ H Q I hw)
def tComp (n:Nat) (js:List Nat) (wi:TI) (g:TG) (tt:TT) (te:TE):TE:=fun σ H Q=>wi σ H fun J H1=>∀ D,H1 D=none->∃ W:Nat->Nat->St->Hp->List V->Prop,
 (∃ m,W 0 m (blk n js σ) (upd H1 D (.lst [])) [])/\∀ i m τ H2 ys,W i m τ H2 ys->H2 D=some (.lst ys) ∧
  ((J.stop i H2/\Q (.ref D) H2)\/(J.go i H2/\ys.length < sizeLine/\∃ N:St->Hp->List V->Prop,(∀ τ' H' ys',N τ' H' ys'->∃ m',m' < m/\W (i+1) m' τ' H' ys')/\∀ x H3,J.yld i H2 x H3->g x τ H3 fun τ4 H4=>tt τ4 H4 fun b H5=>
   if b=true then te τ4 H5 fun y H6=>H6 D=some (.lst ys)/\N τ4 (upd H6 D (.lst (ys++[y]))) (ys++[y])
   else N τ4 H5 ys))
section
variable {X:Cx}
theorem block_inv {pins:List (Addr×Obj)} {σ:St} {H:Hp} {s:Shared} {h₁:Heap} {tk:Nat} {scope:Scope} {N:List Str} {js:List Nat} {cl:List (Str×Addr)} {fp:List Addr}
  (I:Inv X pins σ H s) (hk:scope.kind = .function) (hN:N.Nodup) (S:CompSc X.env.scope X.N scope N js) (hcl:∀ x c,cl.lookup x=some c->X.env.cells.lookup x=some c) (hcl2:∀ y∈scope.names,y.2 = .free->∃ c,cl.lookup y.1=some c)
  (hf:∀ b∈fp,b < s.heap.objs.size/\b≠X.env.locals/\b ∉ X.fs/\(b∈X.ex\/X.s₀.heap.objs.size<=b)/\(∀ x c,X.env.cells.lookup x=some c->c≠b))
  (hns:h₁.Ns s.heap.objs.size fun _=>none) (old:∀ b o,s.heap.get? b=some o->h₁.get? b=some o) :
  Inv (X.block scope cl s.heap.objs.size N s H fp) [] (blk (N.length - js.length) js σ) H { s with heap:=h₁,toks:=tk }:=by
 have look:∀ x,((relabel scope X.env).names.lookup x=some .cell\/(relabel scope X.env).names.lookup x=some .free)->∃ c,cl.lookup x=some c:=fun x hx=>by
  have hm:(x,NameKind.free)∈scope.names:=by
   rcases hx with z | z
   ·exact relabel_lookup z (.inl rfl) S.nocell
   ·exact relabel_lookup z (.inr rfl) S.nocell
  exact hcl2 _ hm rfl
 refine ⟨⟨I.ok.mod,hk,I.ok.glob,I.ok.blt,Nat.le_refl _,fun x y c h1 h2=>I.ok.inj x y c (hcl x c h1) (hcl y c h2),look,fun x c h=>(by cases h),I.ok.hd,I.ok.frames,.inl rfl,fun b hb=>?_,I.bs,Nat.le_trans I.ok.bsz I.sz,fun b o e hb=>?_,fun b hb z=>?_,I.stack,I.stkFree⟩,
  rfl,I.bare,Un.kept old,⟨_,hns,fun i x v h1 h2 h3=>?_⟩,fun x c h=>?_,I.hok.fresh (Nat.le_refl _),fun x c h=>I.freeC x c (hcl x c h),fun p hp=>absurd (show p∈([]:List (Addr×Obj)) from hp) (by simp),I.hok.kept old,?_⟩
 ·exact ⟨Nat.ne_of_lt (hf b hb).1,fun x c h=>(hf b hb).2.2.2.2 x c (hcl x c h)⟩
 ·rcases (hf b hb).2.2.2.1 with z | z
  ·exact I.ok.noex b o e z
  ·exact absurd (Nat.lt_of_lt_of_le (Heap.lt_size e) (Nat.le_trans I.ok.bsz z)) (Nat.lt_irrefl _)
 ·rcases List.mem_cons.mp (I.stkSub b z) with q | q
  ·exact (hf b hb).2.1 q
  ·exact (hf b hb).2.2.1 q
 ·obtain ⟨k,j,rfl,hj,hσ⟩:=blk_get h2
  obtain ⟨x',e1,e2,e3⟩:=S.fr k j hj
  rw [e1] at h1
  have ex:x'=x:=Option.some.inj h1
  subst ex
  have ok:=S.tk _ (PySem.mem_of_lookup e3) rfl
  obtain ⟨m,_,hl⟩:=I.loc
  obtain ⟨u,r,l⟩:=hl j x' v e2 hσ (.inr ok)
  refine ⟨u,r,?_⟩
  rcases l with ⟨hk',_⟩ | ⟨_,c,hc,hcell⟩
  ·have hk2:X.env.scope.names.lookup x'=some .local:=hk'
   rcases ok with z | z<;>(rw [hk2] at z;cases z)
  ·obtain ⟨c',hc'⟩:=hcl2 _ (PySem.mem_of_lookup e3) rfl
   have:c'=c:=Option.some.inj ((hcl _ _ hc').symm.trans hc)
   subst this
   obtain ⟨o,ho,hd⟩:=hcell
   exact .inr ⟨relabel_free e3,c',hc',⟨o,old _ _ ho,hd⟩⟩
 ·obtain ⟨v,o,ho,hd⟩:=I.cell x c (hcl x c h)
  exact ⟨v,o,old _ _ ho,hd⟩
 ·show (blk (N.length - js.length) js σ).length=N.length
  unfold blk
  rw [List.length_append,List.length_replicate,List.length_map]
  have:=S.len
  omega
theorem comp_block {pins:List (Addr×Obj)} {σ:St} {H:Hp} {s:Shared} {elt target iter:Expr} {ifs:List Expr} {scope:Scope} {pos:Pos} {N:List Str} {js:List Nat} {cl:List (Str×Addr)} {J:It} {fp:List Addr} {it:Addr} {tn:Nat->Heap->Prop}
  {g:TG} {tt:TT} {te:TE} {E:Value->Shared->Prop} {RR:Value->Addr->Result->Shared->Prop} {Q:VK}
  (hc:X.calm=true) (I:Inv X pins σ H s) (T:Turn X.prog X.w X.K target J fp it tn) (st:tn 0 s.heap) (hf:∀ b∈fp,FpOk X pins H b)
  (hk:scope.kind = .function) (hN:N.Nodup) (S:CompSc X.env.scope X.N scope N js) (hcl:∀ x c,cl.lookup x=some c->X.env.cells.lookup x=some c) (hcl2:∀ y∈scope.names,y.2 = .free->∃ c,cl.lookup y.1=some c)
  (hg:∀ cl C s H fp,PG (X.block scope cl C N s H fp) target g) (ht:∀ cl C s H fp,PF (X.block scope cl C N s H fp) ifs tt) (he:∀ cl C s H fp,PE (X.block scope cl C N s H fp) elt te)
  (h:∀ D,H D=none->∃ W:Nat->Nat->St->Hp->List V->Prop,(∃ m,W 0 m (blk (N.length - js.length) js σ) (upd H D (.lst [])) [])/\∀ i m τ H2 ys,W i m τ H2 ys->H2 D=some (.lst ys) ∧
   ((J.stop i H2/\Q (.ref D) H2)\/(J.go i H2/\ys.length < sizeLine/\∃ N:St->Hp->List V->Prop,(∀ τ' H' ys',N τ' H' ys'->∃ m',m' < m/\W (i+1) m' τ' H' ys')/\∀ x H3,J.yld i H2 x H3->g x τ H3 fun τ4 H4=>tt τ4 H4 fun b H5=>
    if b=true then te τ4 H5 fun y H6=>H6 D=some (.lst ys)/\N τ4 (upd H6 D (.lst (ys++[y]))) (ys++[y])
    else N τ4 H5 ys)))
  (hend:∀ D C H' s',(∃ m,s'.heap.Ns C m)->FpOk X pins H' C->Inv X pins σ H' s'->Q (.ref D) H'->RR (.ref D) C (.ok .next) s') :
  wpAny (model X.prog X.w) X.A (newList []) (fun acc s₃=>wpAny (model X.prog X.w) X.A (newFunctionEnv scope X.env.globals cl [] X.env.qual none .none (some X.env)) (fun cenv s₄=>
   codeAny (model X.prog X.w) X.A (.compStart (.ListComp elt [⟨target,iter,ifs,0⟩] scope pos) 0 (.ref it) acc { cenv with scope:=relabel scope X.env }) (RR acc cenv.locals) s₄) E s₃) E s:=by
 obtain ⟨W,⟨m0,w0⟩,turn⟩:=h s.heap.objs.size I.fresh
 refine wpAny_newObj_type (wpAny_newFunctionEnv S.nocell (by intro y hy;simp at hy) (fun h₁ hns₁ hsb₁=>?_) hk)
 have I3:Inv X pins σ (upd H s.heap.objs.size (.lst [])) { s with heap:=s.heap.push { cls:=.type "list",dict:=none,data:=.seq ([]:List Value).toArray } }:=I.lnew (its:=[]) (ys:=[]) (t':=s.toks) .nil (Nat.zero_le _)
 have hF3:∀ b∈fp,b < s.heap.objs.size:=fun b hb=>by
  obtain ⟨o,e,_⟩:=T.obj 0 s.heap st b hb
  exact Heap.lt_size e
 have st3:tn 0 (s.heap.push { cls:=.type "list",dict:=none,data:=.seq ([]:List Value).toArray }):=T.keep 0 _ _ st fun b hb o e=>Heap.get?_push_of_some _ e
 generalize hs3:({ s with heap:=s.heap.push { cls:=.type "list",dict:=none,data:=.seq ([]:List Value).toArray } }:Shared)=s3 at I3 hns₁ hsb₁ ⊢
 have e3:s3.heap=s.heap.push { cls:=.type "list",dict:=none,data:=.seq ([]:List Value).toArray }:=by rw [<-hs3]
 rw [<-e3] at st3
 have z3:s.heap.objs.size<=s3.heap.objs.size:=by rw [e3,Heap.size_push];exact Nat.le_succ _
 have old:∀ b o,s3.heap.get? b=some o->h₁.get? b=some o:=fun b o e=>hsb₁.extBut b o (Nat.ne_of_lt (Heap.lt_size e)) (Heap.get?_push_of_some _ e)
 have hf3:∀ b∈fp,b < s3.heap.objs.size/\b≠X.env.locals/\b ∉ X.fs/\(b∈X.ex\/X.s₀.heap.objs.size<=b)/\(∀ x c,X.env.cells.lookup x=some c->c≠b):=fun b hb=>
  let ⟨_,q1,q2,q3,q4,_⟩:=hf b hb
  ⟨Nat.lt_of_lt_of_le (hF3 b hb) z3,q1,q2,q3,q4⟩
 have nD:∀ b∈fp,upd H s.heap.objs.size (.lst []) b=none:=fun b hb=>by
  rw [upd_ne (Nat.ne_of_lt (hF3 b hb))]
  exact (hf b hb).1
 have I4:Inv (X.block scope cl s3.heap.objs.size N s3 (upd H s.heap.objs.size (.lst [])) fp) [] (blk (N.length - js.length) js σ) (upd H s.heap.objs.size (.lst [])) { s3 with heap:=h₁,toks:=s3.toks+([]:List (Str×Value)).length }:=
  block_inv I3 hk hN S hcl hcl2 hf3 hns₁ old
 have st4:tn 0 h₁:=T.keep 0 _ _ st3 fun b hb o e=>old b o e
 have hg':=hg cl s3.heap.objs.size s3 (upd H s.heap.objs.size (.lst [])) fp
 have ht':=ht cl s3.heap.objs.size s3 (upd H s.heap.objs.size (.lst [])) fp
 have he':=he cl s3.heap.objs.size s3 (upd H s.heap.objs.size (.lst [])) fp
 have stat:∀ {H':Hp},(∀ b∈fp,H' b=none)->∀ b∈fp,FpOk (X.block scope cl s3.heap.objs.size N s3 (upd H s.heap.objs.size (.lst [])) fp) [] H' b:=fun hn b hb=>
  ⟨hn b hb,(I4.ok.exf b hb).1,I4.ok.exfs b hb,.inl hb,(I4.ok.exf b hb).2,fun p hp=>absurd (show p∈([]:List (Addr×Obj)) from hp) (by simp)⟩
 have loop:codeAny (model X.prog X.w) X.A (.compLoop (.ListComp elt [⟨target,iter,ifs,0⟩] scope pos) 0 (.ref it) (.ref s.heap.objs.size) (compEnvC scope cl s3.heap.objs.size X.env)) (RR (.ref s.heap.objs.size) s3.heap.objs.size) { s3 with heap:=h₁,toks:=s3.toks+([]:List (Str×Value)).length }:=by
  refine compLoop_any (fun n s'=>∃ i τ H' ys,Inv (X.block scope cl s3.heap.objs.size N s3 (upd H s.heap.objs.size (.lst [])) fp) [] τ H' s'/\tn i s'.heap/\(∀ b∈fp,H' b=none)/\W i n τ H' ys) ?_ m0 ⟨0,_,_,[],I4,st4,nD,w0⟩
  rintro n s5 ⟨i,τ,H5,ys,I5,st5,fr5,w5⟩
  obtain ⟨hD,hw⟩:=turn i n τ H5 ys w5
  rcases hw with ⟨stop,qn⟩ | ⟨go,hz,M,hM,step⟩
  ·refine thn (T.done (X.block scope cl s3.heap.objs.size N s3 (upd H s.heap.objs.size (.lst [])) fp) rfl rfl rfl hc i [] s5 τ H5 (fun _ _=>False) I5 (stat fr5) st5 stop) fun r s6 ⟨hr,I6⟩=>?_
   subst hr
   refine hend _ _ H5 s6 (let ⟨m,hn,_⟩:=I6.loc;⟨m,hn⟩) (I3.fpOk (Nat.le_refl _) I6.free) ?_ qn
   exact I3.call' (ch:=fp) I6.os I6.base I6.hok I6.bare fun b hb=>⟨(hf b hb).2.2.2.1,(hf b hb).2.1,(hf b hb).2.2.2.2.1,(hf b hb).2.2.2.2.2⟩
  ·refine thn (T.item (X.block scope cl s3.heap.objs.size N s3 (upd H s.heap.objs.size (.lst [])) fp) rfl rfl rfl hc i [] s5 τ H5 (fun _ _=>False) I5 (stat fr5) st5 go) fun r s6 ⟨u,hr,h6⟩=>?_
   subst hr
   refine thn h6 fun _ s7 ⟨x,H7,I7,r7,y7,st7,fr7⟩=>?_
   have I7':=I7.pinned (stat fr7) (T.obj _ _ st7)
   refine thn (hg' _ s7 τ H7 x u _ I7' r7 (step x H7 y7)) fun _ s8 ⟨τ8,H8,I8,q8⟩=>?_
   refine thn (ht' _ s8 τ8 H8 _ I8 q8) fun b s9 ⟨H9,I9,q9⟩=>?_
   have again:∀ {τ':St} {H':Hp} {s':Shared} {ys':List V},Inv (X.block scope cl s3.heap.objs.size N s3 (upd H s.heap.objs.size (.lst [])) fp) ([]++pinsAt fp s7.heap) τ' H' s'->M τ' H' ys' →
     ∃ m,m < n/\∃ i τ H' ys,Inv (X.block scope cl s3.heap.objs.size N s3 (upd H s.heap.objs.size (.lst [])) fp) [] τ H' s'/\tn i s'.heap/\(∀ b∈fp,H' b=none)/\W i m τ H' ys:=fun {τ' H' s' ys'} I' hm'=>by
    obtain ⟨m',hm,w'⟩:=hM _ _ _ hm'
    refine ⟨m',hm,i+1,τ',H',ys',I'.unpinned,T.keep _ _ _ st7 fun b hb o e=>(I'.pin (b,o) (List.mem_append_right _ (List.mem_append_right _ (mem_pinsAt hb e)))).1,fun b hb=>?_,w'⟩
    obtain ⟨o,e,d⟩:=T.obj _ _ st7 b hb
    exact (I'.pin (b,o) (List.mem_append_right _ (List.mem_append_right _ (mem_pinsAt hb e)))).2.1
   cases b with
   | false=>exact again I9 q9
   | true=>
    refine thn (he' _ s9 τ8 H9 _ I9 q9) fun y s10 ⟨v10,H10,I10,r10,hD10,q10⟩=>?_
    refine thn (mt_append (X:=X.block scope cl s3.heap.objs.size N s3 (upd H s.heap.objs.size (.lst [])) fp) _ s10 τ8 H10 (.ref s.heap.objs.size) [v10] (.ref s.heap.objs.size) [y] (fun _ H'=>M τ8 H' (ys++[v10])) I10 rfl (.cons r10 .nil) ⟨_,ys,v10,rfl,rfl,hD10,hz,q10⟩) fun _ s11 ⟨_,H11,I11,_,q11⟩=>?_
    exact again I11 q11
 exact codeAny_compStart_list loop (T.self X.A 0 _ _ _ st4 loop)
variable {elt target iter:Expr} {ifs:List Expr} {scope:Scope} {pos spos:Pos} {wi:TI} {g:TG} {tt:TT} {te:TE}
theorem pe_comp (N:List Str) (js:List Nat) (hok:compOk X.env.scope X.N scope N js=true) (hN:N.Nodup) (hc:X.calm=true) (hi:PI X target iter wi)
  (hg:∀ cl C s H fp,PG (X.block scope cl C N s H fp) target g) (ht:∀ cl C s H fp,PF (X.block scope cl C N s H fp) ifs tt) (he:∀ cl C s H fp,PE (X.block scope cl C N s H fp) elt te)
  (hk:scope.kind = .function:=by rfl) (hs:∀ x,foldedSetIterable iter X.env x=pure x:=by intro _;rfl) :
  PE X (.ListComp elt [⟨target,iter,ifs,0⟩] scope pos) (tComp (N.length - js.length) js wi g tt te):=by
 intro pins s σ H Q I h
 have S:=compOk_sc hok
 obtain ⟨cl,hclos,hcl,hcl2⟩:=closure_ok (env:=X.env) (scope:=scope) fun y hy hf=>I.ok.has _ (S.tk y hy hf)
 rw [eval_ListComp]
 refine wpAny_comprehension_free (use:=none) rfl hs hclos hk S.names (thn (hi pins s σ H _ I h) fun v s1 h1=>thn h1 fun itv s2 h2=>?_)
 obtain ⟨it,fp,tn,J,H2,e,I2,T,st2,f2,hw⟩:=h2
 subst e
 refine comp_block (RR:=fun acc C=>compPost (model X.prog X.w) X.A X.xe none (EP X pins σ Q) acc C) (Q:=Q) hc I2 T st2 f2 hk hN S hcl hcl2 hg ht he hw ?_
 rintro D C H' s' ⟨m,hn⟩ ⟨c0,c1,c2,c3,c4,c5⟩ I' q
 exact ⟨m,hn,fun h' hs'=>⟨.ref D,H',I'.turned (t':=s'.toks) (fun b o hb e=>(hs'.2 b hb).trans e) c0 c1 c3 c4 c5,rfl,q⟩⟩
theorem ps_setComp {i:Nat} {y:Str} {py:Pos} (N:List Str) (js:List Nat) (hok:compOk X.env.scope X.N scope N js=true) (hN:N.Nodup) (hc:X.calm=true) (hXN:X.N.Nodup) (hyi:X.N[i]? = some y) (hy:Loc X.env.scope y) (hi:PI X target iter wi)
  (hg:∀ cl C s H fp,PG (X.block scope cl C N s H fp) target g) (ht:∀ cl C s H fp,PF (X.block scope cl C N s H fp) ifs tt) (he:∀ cl C s H fp,PE (X.block scope cl C N s H fp) elt te)
  (hsw:swapsWith (.ListComp elt [⟨target,iter,ifs,0⟩] scope pos) (some (.Name y py)) spos.line X.env=pure true:=by rfl)
  (hk:scope.kind = .function:=by rfl) (hs:∀ x,foldedSetIterable iter X.env x=pure x:=by intro _;rfl) (hf:X.fn y=true\/X.env.scope.names.lookup y=some .local:=by first | exact .inl rfl | exact .inr rfl | assumption) :
  PS X (.Assign [.Name y py] (.ListComp elt [⟨target,iter,ifs,0⟩] scope pos) spos) (tAsg (tComp (N.length - js.length) js wi g tt te) (gName i)):=by
 intro pins s σ H D I h
 have S:=compOk_sc hok
 obtain ⟨cl,hclos,hcl,hcl2⟩:=closure_ok (env:=X.env) (scope:=scope) fun y hy hf=>I.ok.has _ (S.tk y hy hf)
 rw [exec_Assign_Name_used _ _ _ _ hsw]
 refine wpAny_bind (wpAny_standAt (wpAny_bind ?_))
 show wpAny _ X.A (do let _ <-comprehension (.ListComp elt [⟨target,iter,ifs,0⟩] scope pos) scope X.env _ (newList []) false (eval iter X.env) (some (assign (.Name y py) X.env))) _ _ s
 refine wpAny_bind (wpAny_mono (wpAny_comprehension_free (use:=some (assign (.Name y py) X.env)) (Q:=fun _ s'=>SP X pins D .next s') rfl hs hclos hk S.names
  (thn (hi pins s σ H _ I h) fun v s1 h1=>thn h1 fun itv s2 h2=>?_)) (fun _ s' hq=>wpAny_pure (wpAny_pure hq)) fun _ _ e=>e)
 obtain ⟨it,fp,tn,J,H2,e,I2,T,st2,f2,hw⟩:=h2
 subst e
 refine comp_block (RR:=fun acc C=>compPost (model X.prog X.w) X.A X.xe (some (assign (.Name y py) X.env)) (fun _ s'=>SP X pins D .next s') acc C) (Q:=fun v H'=>D.nx (σ.set i (some v)) H') hc I2 T st2 f2 hk hN S hcl hcl2 hg ht he hw ?_
 rintro E C H' s' ⟨m,hn⟩ ⟨c0,c1,c2,c3,c4,c5⟩ I' q
 show wpAny _ X.A (assign (.Name y py) X.env (.ref E)) _ _ _
 obtain ⟨oC,es,ep,hoC,hdC,hrC⟩:=id hn
 have I2':Inv X (pins++[(C,oC)]) σ H' s':=I'.pins_of fun p hp=>(List.mem_append.mp hp).elim (fun z=>I'.pin p (List.mem_append_right _ z)) fun z=>by
  have e:p=(C,oC):=by simpa using z
  subst e
  exact ⟨hoC,c0,c1,c2,fun v z=>by rw [hdC] at z;cases z⟩
 refine wpAny_assign_Name (store_ok I2' hXN hyi hy (v:=.ref E) rfl (fun s'' I''=>?_) hf)
 have hC2:=(I''.pin (C,oC) (List.mem_append_right _ (List.mem_append_right _ (by simp)))).1
 have I3:Inv X pins (σ.set i (some (.ref E))) H' s'':=I''.unpinned
 exact ⟨m,⟨oC,es,ep,hC2,hdC,hrC⟩,fun h' hs'=>⟨_,H',I3.turned (t':=s''.toks) (fun b o hb e=>(hs'.2 b hb).trans e) c0 c1 c3 c4 c5,q⟩⟩
end
structure ItOk (J:It) (xs:List V) (ok:Hp->Prop):Prop where
 stop:∀ H,ok H->J.stop xs.length H
 go:∀ i H,ok H->i < xs.length->J.go i H
 yld:∀ i H x H',ok H->i < xs.length->J.yld i H x H'->H'=H/\xs[i]? = some x
theorem it_list (K:PySem.W.Frag) (a:Addr) (xs:List V):ItOk (Itl K a) xs fun H=>SqL K H a xs:=
 ⟨fun H h=>⟨xs,h,Nat.le_refl _⟩,fun i H h hi=>⟨xs,xs[i],h,by simp [hi]⟩,fun i H x H' h hi y=>⟨y.1,y.2 xs h⟩⟩
theorem it_range (lo:Int) (n:Nat):ItOk (Itr lo n) ((List.range n).map fun i=>V.int (lo+(i:Nat))) fun _=>True:=
 ⟨fun H _=>by show n<=_;simp,fun i H _ hi=>(by show i < n;simpa using hi),fun i H x H' _ hi y=>⟨y.1,by
  have hi':i < n:=by simpa using hi
  obtain ⟨_,rfl⟩:=y
  simp [hi']⟩⟩
theorem comp_by {J:It} {D:Addr} {xs:List V} {ok:Hp->Prop} {g:TG} {tt:TT} {te:TE} {Q:Hp->Prop} {τ:St} {H:Hp} (IO:ItOk J xs ok) (Pv:Nat->St->Hp->List V->Prop) (hz:xs.length<=sizeLine) (h0:Pv 0 τ H [])
  (hl:∀ i τ H ys,i<=xs.length->Pv i τ H ys->ok H/\H D=some (.lst ys)/\ys.length<=i)
  (hs:∀ i x τ H ys,i < xs.length->xs[i]? = some x->Pv i τ H ys->g x τ H fun τ4 H4=>tt τ4 H4 fun b H5=>
   if b=true then te τ4 H5 fun y H6=>H6 D=some (.lst ys)/\Pv (i+1) τ4 (upd H6 D (.lst (ys++[y]))) (ys++[y]) else Pv (i+1) τ4 H5 ys)
  (hd:∀ τ H ys,Pv xs.length τ H ys->Q H) :
  ∃ W:Nat->Nat->St->Hp->List V->Prop,(∃ m,W 0 m τ H [])/\∀ i m τ H2 ys,W i m τ H2 ys->H2 D=some (.lst ys) ∧
   ((J.stop i H2/\Q H2)\/(J.go i H2/\ys.length < sizeLine/\∃ N:St->Hp->List V->Prop,(∀ τ' H' ys',N τ' H' ys'->∃ m',m' < m/\W (i+1) m' τ' H' ys')/\∀ x H3,J.yld i H2 x H3->g x τ H3 fun τ4 H4=>tt τ4 H4 fun b H5=>
    if b=true then te τ4 H5 fun y H6=>H6 D=some (.lst ys)/\N τ4 (upd H6 D (.lst (ys++[y]))) (ys++[y])
    else N τ4 H5 ys)):=by
 refine ⟨fun i m τ H ys=>m=xs.length - i/\i<=xs.length/\Pv i τ H ys,⟨xs.length,by simp,Nat.zero_le _,h0⟩,?_⟩
 rintro i m τ H ys ⟨rfl,hi,p⟩
 obtain ⟨q,hD,hy⟩:=hl i τ H ys hi p
 refine ⟨hD,?_⟩
 by_cases hlt:i < xs.length
 ·refine .inr ⟨IO.go i H q hlt,by omega,Pv (i+1),fun τ' H' ys' p'=>⟨xs.length - (i+1),by omega,rfl,hlt,p'⟩,fun x H' y=>?_⟩
  obtain ⟨e,hx⟩:=IO.yld i H x H' q hlt y
  subst e
  exact hs i x τ _ ys hlt hx p
 ·have e:i=xs.length:=by omega
  subst e
  exact .inl ⟨IO.stop H q,hd τ H ys p⟩
theorem for_by {J:It} {xs:List V} {ok:Hp->Prop} {g:TG} {tb:TS} {D:Ends} {σ:St} {H:Hp} (IO:ItOk J xs ok) (Pv:Nat->St->Hp->Prop) (h0:Pv 0 σ H) (hl:∀ i σ H,i<=xs.length->Pv i σ H->ok H)
  (hs:∀ i x σ H,i < xs.length->xs[i]? = some x->Pv i σ H->g x σ H fun σ2 H2=>tb { D with nx:=Pv (i+1),ct:=Pv (i+1),bk:=D.nx } σ2 H2) (hd:∀ σ H,Pv xs.length σ H->D.nx σ H) :
  ∃ W:Nat->Nat->St->Hp->Prop,(∃ m,W 0 m σ H)/\∀ i m σ H,W i m σ H →
   (J.stop i H/\D.nx σ H)\/(J.go i H/\∃ N:St->Hp->Prop,(∀ σ' H',N σ' H'->∃ m',m' < m/\W (i+1) m' σ' H')/\∀ x H',J.yld i H x H'->g x σ H' fun σ2 H2=>tb { D with nx:=N,ct:=N,bk:=D.nx } σ2 H2):=by
 refine ⟨fun i m σ H=>m=xs.length - i/\i<=xs.length/\Pv i σ H,⟨xs.length,by simp,Nat.zero_le _,h0⟩,?_⟩
 rintro i m σ H ⟨rfl,hi,p⟩
 have q:=hl i σ H hi p
 by_cases hlt:i < xs.length
 ·refine .inr ⟨IO.go i H q hlt,Pv (i+1),fun σ' H' p'=>⟨xs.length - (i+1),by omega,rfl,hlt,p'⟩,fun x H' y=>?_⟩
  obtain ⟨e,hx⟩:=IO.yld i H x H' q hlt y
  subst e
  exact hs i x σ _ hlt hx p
 ·have e:i=xs.length:=by omega
  subst e
  exact .inl ⟨IO.stop H q,hd σ H p⟩
end L2
end
section
namespace L2
open PySem PySem.Spec PyProof.Rows
section
variable {X:Cx}
def tyN (H:Hp):V->Option String
 | .non=>some "NoneType"
 | .bl _=>some "bool"
 | .int _=>some "int"
 | .str _=>some "str"
 | .ref a=>match H a with
  | some (.lst _)=>some "list"
  | some (.tup _)=>some "tuple"
  | some (.dK _)=>some "dict"
  | _=>none
 | _=>none
theorem call_isinst:CallR X (.builtin "isinstance") (fun xs H Q=>∃ x T Tx,xs=[x,.ty T]/\tyN H x=some Tx/\T∈["int","bool","list","tuple","str"]/\Q (.bl (Tx == T || (Tx == "bool" && T == "int"))) H):=by
 intro pins s σ H xs us Q I r h
 obtain ⟨x,T,Tx,rfl,hT,hm,q⟩:=h
 obtain ⟨u,w',rfl,r1,r2⟩:=vals2 r
 obtain rfl:w' = .type T:=r2
 have no:∀ {b:Bool},b=(Tx == T || (Tx == "bool" && T == "int"))->∀ tk,EP X pins σ Q (.bool b) { s with toks:=tk }:=fun {b} hb tk=>⟨.bl b,H,I.tok _,rfl,by rw [hb];exact q⟩
 have ye:∀ {b:Bool},b=(Tx == T || (Tx == "bool" && T == "int"))->EP X pins σ Q (.bool b) s:=fun {b} hb=>⟨.bl b,H,I,rfl,by rw [hb];exact q⟩
 simp only [List.mem_cons,List.not_mem_nil,or_false] at hm
 cases x with
 | int i=>
  obtain ⟨t,rfl⟩:=r1
  cases hT
  rcases hm with rfl | rfl | rfl | rfl | rfl
  ·exact IsiPair.int_int (ye (by decide))
  ·exact IsiPair.int_bool (no (by decide) _)
  ·exact IsiPair.int_list (no (by decide) _)
  ·exact IsiPair.int_tuple (no (by decide) _)
  ·exact IsiPair.int_str (no (by decide) _)
 | str i=>
  obtain ⟨t,rfl⟩:=r1
  cases hT
  rcases hm with rfl | rfl | rfl | rfl | rfl
  ·exact IsiPair.str_int (no (by decide) _)
  ·exact IsiPair.str_bool (no (by decide) _)
  ·exact IsiPair.str_list (no (by decide) _)
  ·exact IsiPair.str_tuple (no (by decide) _)
  ·exact IsiPair.str_str (ye (by decide))
 | bl i=>
  cases r1
  cases hT
  rcases hm with rfl | rfl | rfl | rfl | rfl
  ·exact IsiPair.bool_int (ye (by decide))
  ·exact IsiPair.bool_bool (ye (by decide))
  ·exact IsiPair.bool_list (no (by decide) _)
  ·exact IsiPair.bool_tuple (no (by decide) _)
  ·exact IsiPair.bool_str (no (by decide) _)
 | ref a=>
  cases r1
  cases hH:H a with
  | none=>simp [tyN,hH] at hT
  | some o=>
   cases o with
   | lst ys=>
    simp [tyN,hH] at hT
    subst hT
    obtain ⟨_,its,n,_,e⟩:=I.hok a _ hH
    have hx:∃ o,s.heap.get? a=some o/\o.cls = .type "list" := ⟨_,e,rfl⟩
    rcases hm with rfl | rfl | rfl | rfl | rfl
    ·exact call_isinstance (isinstance_false_list (by decide +kernel) F.isi_meta_int F.sub_list_int) ⟨hx,no (by decide) _⟩
    ·exact call_isinstance (isinstance_false_list (by decide +kernel) F.isi_meta_bool F.sub_list_bool) ⟨hx,no (by decide) _⟩
    ·exact call_isinstance (isinstance_true (Tx:= "list") F.isi_meta_list F.sub_list_list) ⟨⟨_,e,rfl⟩,ye (by decide)⟩
    ·exact call_isinstance (isinstance_false_list (by decide +kernel) F.isi_meta_tuple F.sub_list_tuple) ⟨hx,no (by decide) _⟩
    ·exact call_isinstance (isinstance_false_list (by decide +kernel) F.isi_meta_str F.sub_list_str) ⟨hx,no (by decide) _⟩
   | tup ys=>
    simp [tyN,hH] at hT
    subst hT
    obtain ⟨_,its,_,o,e,hc,_⟩:=I.hok a _ hH
    have hx:∃ o,s.heap.get? a=some o/\o.cls = .type "tuple" := ⟨_,e,hc⟩
    rcases hm with rfl | rfl | rfl | rfl | rfl
    ·exact call_isinstance (isinstance_false_tuple (by decide +kernel) F.isi_meta_int F.sub_tuple_int) ⟨hx,no (by decide) _⟩
    ·exact call_isinstance (isinstance_false_tuple (by decide +kernel) F.isi_meta_bool F.sub_tuple_bool) ⟨hx,no (by decide) _⟩
    ·exact call_isinstance (isinstance_false_tuple (by decide +kernel) F.isi_meta_list F.sub_tuple_list) ⟨hx,no (by decide) _⟩
    ·exact call_isinstance (isinstance_true (Tx:= "tuple") F.isi_meta_tuple F.sub_tuple_tuple) ⟨⟨_,e,hc⟩,ye (by decide)⟩
    ·exact call_isinstance (isinstance_false_tuple (by decide +kernel) F.isi_meta_str F.sub_tuple_str) ⟨hx,no (by decide) _⟩
   | dK ys=>
    simp [tyN,hH] at hT
    subst hT
    obtain ⟨_,_,vs,_,dd⟩:=I.hok a _ hH
    obtain ⟨o,es,ep,e,hc,_⟩:=dd
    have hx:∃ o,s.heap.get? a=some o/\o.cls = .type "dict" := ⟨o,e,hc.1⟩
    rcases hm with rfl | rfl | rfl | rfl | rfl
    ·exact call_isinstance (isinstance_false_dict (by decide +kernel) F.isi_meta_int F.sub_dict_int) ⟨hx,no (by decide) _⟩
    ·exact call_isinstance (isinstance_false_dict (by decide +kernel) F.isi_meta_bool F.sub_dict_bool) ⟨hx,no (by decide) _⟩
    ·exact call_isinstance (isinstance_false_dict (by decide +kernel) F.isi_meta_list F.sub_dict_list) ⟨hx,no (by decide) _⟩
    ·exact call_isinstance (isinstance_false_dict (by decide +kernel) F.isi_meta_tuple F.sub_dict_tuple) ⟨hx,no (by decide) _⟩
    ·exact call_isinstance (isinstance_false_dict (by decide +kernel) F.isi_meta_str F.sub_dict_str) ⟨hx,no (by decide) _⟩
   | _=>simp [tyN,hH] at hT
 | non=>
  cases r1
  cases hT
  rcases hm with rfl | rfl | rfl | rfl | rfl
  ·exact IsiPair.NoneType_int (no (by decide) _)
  ·exact IsiPair.NoneType_bool (no (by decide) _)
  ·exact IsiPair.NoneType_list (no (by decide) _)
  ·exact IsiPair.NoneType_tuple (no (by decide) _)
  ·exact IsiPair.NoneType_str (no (by decide) _)
 | _=>cases hT
theorem vals_bools:∀ {bs:List Bool} {us:List Value},Vals (bs.map V.bl) us->us=bs.map Value.bool
 | [],us,r=>by cases r;rfl
 | b :: bs,us,r=>by
  cases r with
  | cons r1 r2=>
   cases r1
   rw [vals_bools r2];rfl
theorem all_range (bs:List Bool):(List.range bs.length).all (fun i=>bs.getD i true)=bs.all id:=by
 rw [Bool.eq_iff_iff,List.all_eq_true,List.all_eq_true]
 constructor
 ·intro h b hb
  obtain ⟨i,hi,rfl⟩:=List.mem_iff_getElem.mp hb
  have:=h i (List.mem_range.mpr hi)
  rw [List.getD_eq_getElem?_getD,List.getElem?_eq_getElem hi] at this
  exact this
 ·intro h i hi
  have hi:=List.mem_range.mp hi
  rw [List.getD_eq_getElem?_getD,List.getElem?_eq_getElem hi]
  exact h _ (List.getElem_mem hi)
theorem call_all (hc:X.calm=true):CallR X (.builtin "all") (fun xs H Q=>∃ (p:Addr) (bs:List Bool),xs=[.ref p]/\H p=some (.lst (bs.map V.bl))/\Q (.bl (bs.all id)) H):=by
 intro pins s σ H xs us Q I r h
 obtain ⟨p,bs,rfl,hH,q⟩:=h
 obtain ⟨u,rfl,r1⟩:=vals1 r
 cases r1
 obtain ⟨z,its,n,rv,e⟩:=I.hok p _ hH
 have ei:=vals_bools rv
 subst ei
 have hl:s.heap.IsList p (bs.map Value.bool).toArray:=⟨_,e,rfl,_,rfl⟩
 have hp:p < s.heap.objs.size:=Heap.lt_size e
 refine call_all_walk (wpAny_pyIter_list hl ?_)
 refine ⟨s.heap.objs.size,_,[s.heap.objs.size],_,_,_,(fun i=>bs.getD i true),rfl,Walks.list (A:=X.A.in1) (I.ok.hd hc) s.heap.objs.size p (Nat.ne_of_lt hp) (bs.map Value.bool).toArray,⟨⟨_,Heap.get?_push_size _ rfl,rfl,rfl⟩,hl.push _⟩,?_,fun h' tk hk=>?_⟩
 ·intro i v s' Q' E' hP hQ
  have hP:(bs.map Value.bool).toArray[i]? = some v:=hP
  have hb:∃ b,bs[i]? = some b/\v = .bool b:=by
   rw [List.getElem?_toArray,List.getElem?_map] at hP
   cases e:bs[i]? with
   | none=>rw [e] at hP;cases hP
   | some b=>rw [e] at hP;exact ⟨b,rfl,(Option.some.inj hP).symm⟩
  obtain ⟨b,hb,rfl⟩:=hb
  have e:bs.getD i true=b:=by rw [List.getD_eq_getElem?_getD,hb];rfl
  dsimp only at hQ
  rw [e] at hQ
  exact wpAny_truthy_bool hQ
 ·have hn:(bs.map Value.bool).toArray.size=bs.length:=by simp
  rw [hn,all_range]
  exact ⟨.bl (bs.all id),H,I.kept fun b o e=>hk b o (fun hm=>by
   have:b=s.heap.objs.size:=by simpa using hm
   exact absurd (this ▸ Heap.lt_size e) (Nat.lt_irrefl _)) (Heap.get?_push_of_some _ e),rfl,q⟩
theorem vals_strs:∀ {ws:List Str} {us:List Value},Vals (ws.map V.str) us->StrsAre us ws
 | [],us,r=>by cases r;exact .nil
 | w :: ws,us,r=>by
  cases r with
  | cons r1 r2=>
   obtain ⟨t,rfl⟩:=r1
   exact .cons w t (vals_strs r2)
theorem mt_join:MtM X "str.join" (fun x vs H Q=>∃ (sep:Str) (p:Addr) (ws:List Str),x = .str sep/\vs=[.ref p]/\H p=some (.lst (ws.map V.str))/\(ws.map (·.length)).sum+ws.length * sep.length<=16777216/\Q (.str (Txt.join sep ws)) H):=by
 intro pins s σ H x vs v us Q I rx rv h
 obtain ⟨sep,p,ws,rfl,rfl,hH,hz,q⟩:=h
 obtain ⟨t,rfl⟩:=rx
 obtain ⟨u,rfl,ru⟩:=rv.one
 cases ru
 obtain ⟨z,its,n,r,e⟩:=I.hok p _ hH
 exact join_list (items:=its.toArray) ⟨_,e,rfl,_,rfl⟩ (vals_strs r) hz fun t' k=>⟨.str _,H,I.tok _,⟨_,rfl⟩,q⟩
theorem mt_strip:MtM X "str.strip" (fun x vs H Q=>∃ z y,x = .str z/\vs=[.str y]/\z.length<=sizeLine/\Q (.str (Txt.stripChars z y)) H):=by
 intro pins s σ H x vs v us Q I rx rv h
 obtain ⟨z,y,rfl,rfl,hz,q⟩:=h
 obtain ⟨t,rfl⟩:=rx
 obtain ⟨u,rfl,t',rfl⟩:=rv.one
 exact SC.stripChars (fun t' k=>⟨.str _,H,I.tok _,⟨_,rfl⟩,q⟩) hz
theorem mt_bitlen:MtM X "int.bit_length" (fun x vs H Q=>∃ i,x = .int i/\vs=[]/\Q (.int (Builtin.Int.intBits i)) H):=by
 intro pins s σ H x vs v us Q I rx rv h
 obtain ⟨i,rfl,rfl,q⟩:=h
 obtain ⟨t,rfl⟩:=rx
 obtain rfl:=rv.zero
 exact call_int_bit_length ⟨.int _,H,I.tok _,⟨_,rfl⟩,q⟩
theorem sl_str:SlR X (fun x lo hi H Q=>∃ z,x = .str z/\z.length<=sizeLine/\Q (.str (Txt.slice z lo hi)) H):=by
 intro pins s σ H x v vl vu lo hi sl Q I rx hs pl pu h
 obtain ⟨z,rfl,hz,q⟩:=h
 obtain ⟨t,rfl⟩:=rx
 have fin:∀ t' k,EP X pins σ Q (.str (Txt.slice z lo hi) t') { s with toks:=k }:=fun t' k=>⟨.str _,H,I.tok _,⟨_,rfl⟩,q⟩
 refine ⟨"str",_,F.slot_str_getitem.lookup,typeIs_str _ _ _,?_⟩
 cases pl with
 | none=>
  cases pu with
  | none=>exact wpAny_getItem_str_slice (l:=none) (u:=none) (st:=none) hs rfl (post_val_or_str ⟨Nat.le_trans (Txt.slice_le z _ _) hz,fin⟩)
  | int j uj=>exact wpAny_getItem_str_slice (l:=none) (u:=some (j,uj)) (st:=none) hs rfl (post_val_or_str ⟨Nat.le_trans (Txt.slice_le z _ _) hz,fin⟩)
 | int i ui=>
  cases pu with
  | none=>exact wpAny_getItem_str_slice (l:=some (i,ui)) (u:=none) (st:=none) hs rfl (post_val_or_str ⟨Nat.le_trans (Txt.slice_le z _ _) hz,fin⟩)
  | int j uj=>exact wpAny_getItem_str_slice (l:=some (i,ui)) (u:=some (j,uj)) (st:=none) hs rfl (post_val_or_str ⟨Nat.le_trans (Txt.slice_le z _ _) hz,fin⟩)
theorem call_int_bit:CallR X (.type "int") (fun xs H Q=>∃ b:Bool,xs=[.str (if b then ("1" : Str) else "0")]/\Q (.int (if b then 1 else 0)) H):=by
 intro pins s σ H xs us Q I r h
 obtain ⟨b,rfl,q⟩:=h
 obtain ⟨u,rfl,t,rfl⟩:=vals1 r
 cases b with
 | true=>exact PySem.W.KIN.call_text (x:=("1" : Str)) (n:=1) (by decide +kernel) (by decide +kernel) ⟨.int 1,H,I.tok _,⟨_,rfl⟩,q⟩
 | false=>exact PySem.W.KIN.call_text (x:=("0" : Str)) (n:=0) (by decide +kernel) (by decide +kernel) ⟨.int 0,H,I.tok _,⟨_,rfl⟩,q⟩
end
end L2
end
section
namespace L2
open PySem PySem.Spec PyProof.Rows
mutual
inductive DV (H:Hp):V->PyData->Prop
 | non:DV H .non .none
 | bl (b:Bool):DV H (.bl b) (.bool b)
 | int (i:Int):DV H (.int i) (.int i)
 | str (x:Str):DV H (.str x) (.str x)
 | lst {a:Addr} {xs:List V} {ds:List PyData}:H a=some (.lst xs)->DVs H xs ds->DV H (.ref a) (.list ds)
 | tup {a:Addr} {xs:List V} {ds:List PyData}:H a=some (.tup xs)->DVs H xs ds->DV H (.ref a) (.tuple ds)
 | dic {a:Addr}:H a=some (.dK [])->DV H (.ref a) (.dict [])
inductive DVs (H:Hp):List V->List PyData->Prop
 | nil:DVs H [] []
 | cons {x:V} {d:PyData} {xs:List V} {ds:List PyData}:DV H x d->DVs H xs ds->DVs H (x :: xs) (d :: ds)
end
mutual
theorem DV.mono {H H':Hp} (k:Same H H'):∀ {v:V} {d:PyData},DV H v d->DV H' v d
 | _,_,.non=>.non
 | _,_,.bl b=>.bl b
 | _,_,.int i=>.int i
 | _,_,.str x=>.str x
 | _,_,.lst h r=>.lst (k _ _ h) (DVs.mono k r)
 | _,_,.tup h r=>.tup (k _ _ h) (DVs.mono k r)
 | _,_,.dic h=>.dic (k _ _ h)
theorem DVs.mono {H H':Hp} (k:Same H H'):∀ {vs:List V} {ds:List PyData},DVs H vs ds->DVs H' vs ds
 | _,_,.nil=>.nil
 | _,_,.cons h r=>.cons (DV.mono k h) (DVs.mono k r)
end
section
variable {X:Cx} {pins:List (Addr×Obj)} {σ:St} {H:Hp} {s:Shared}
mutual
theorem DV.reads (I:Inv X pins σ H s):∀ {v:V} {d:PyData} {u:Value},DV H v d->d.canLay0=true->RelV v u->∃ as,Reads s.heap u d as
 | _,_,_,.non,_,r=>by cases r;exact ⟨_,.none⟩
 | _,_,_,.bl b,_,r=>by cases r;exact ⟨_,.bool b⟩
 | _,_,_,.int i,_,r=>by obtain ⟨t,rfl⟩:=r;exact ⟨_,.int i t⟩
 | _,_,_,.str x,_,r=>by obtain ⟨t,rfl⟩:=r;exact ⟨_,.str x t⟩
 | _,_,_,.lst h rr,c,r=>by
  cases r
  obtain ⟨_,its,n,rv,e⟩:=I.hok _ _ h
  obtain ⟨as,q⟩:=DVs.reads I rr (by simpa [PyData.canLay0] using c) rv
  exact ⟨_,.list e rfl rfl (by simpa using q)⟩
 | _,_,_,.tup h rr,c,r=>by
  cases r
  obtain ⟨_,its,rv,o,e,hc,n,hd⟩:=I.hok _ _ h
  obtain ⟨as,q⟩:=DVs.reads I rr (by simpa [PyData.canLay0] using c) rv
  exact ⟨_,.tuple e hc hd (by simpa using q)⟩
 | _,_,_,.dic h,c,r=>by simp [PyData.canLay0] at c
theorem DVs.reads (I:Inv X pins σ H s):∀ {vs:List V} {ds:List PyData} {us:List Value},DVs H vs ds->PyData.canLayAll0 ds=true->Vals vs us->∃ as,ReadsAll s.heap us ds as
 | _,_,_,.nil,_,r=>by cases r;exact ⟨_,.nil⟩
 | _,_,_,.cons h rr,c,r=>by
  have c':=by simpa [PyData.canLayAll0] using c
  cases r with
  | cons r1 r2=>
   obtain ⟨as,q⟩:=DV.reads I h c'.1 r1
   obtain ⟨bs,p⟩:=DVs.reads I rr c'.2 r2
   exact ⟨_,.cons q p⟩
end
end
section
variable {X:Cx}
theorem op_eqD (hu:X.A.units+64 < cLine):OpR X (compareOp .Eq) (fun x y H Q=>∃ d e,DV H x d/\DV H y e/\SeqAt.shaped d=true/\SeqAt.shaped e=true/\Q (.bl (PyData.eqv d e)) H):=by
 intro pins s σ H x y v u Q I rx ry h
 obtain ⟨d,e,hd,he,sd,se,q⟩:=h
 obtain ⟨as,ra⟩:=hd.reads I (SeqAt.canLay_of_shaped sd) rx
 obtain ⟨bs,rb⟩:=he.reads I (SeqAt.canLay_of_shaped se) ry
 exact eq_dataH ra rb sd se hu ⟨.bl _,H,I,rfl,q⟩
theorem op_neD (hu:X.A.units+64 < cLine):OpR X (compareOp .NotEq) (fun x y H Q=>∃ d e,DV H x d/\DV H y e/\SeqAt.shaped d=true/\SeqAt.shaped e=true/\Q (.bl (!PyData.eqv d e)) H):=by
 intro pins s σ H x y v u Q I rx ry h
 obtain ⟨d,e,hd,he,sd,se,q⟩:=h
 obtain ⟨as,ra⟩:=hd.reads I (SeqAt.canLay_of_shaped sd) rx
 obtain ⟨bs,rb⟩:=he.reads I (SeqAt.canLay_of_shaped se) ry
 exact ne_dataH ra rb sd se hu ⟨.bl _,H,I,rfl,q⟩
end
mutual
theorem eqv_refl:∀ d:PyData,d.canLay0=true->PyData.eqv d d=true
 | .none,_=>by simp [PyData.eqv]
 | .bool b,_=>by simp [PyData.eqv]
 | .int i,_=>by simp [PyData.eqv]
 | .str x,_=>by simp [PyData.eqv]
 | .list xs,h=>by rw [PyData.eqv];exact eqvAll_refl xs (by simpa [PyData.canLay0] using h)
 | .tuple xs,h=>by rw [PyData.eqv];exact eqvAll_refl xs (by simpa [PyData.canLay0] using h)
 | .dict xs,h=>by simp [PyData.canLay0] at h
theorem eqvAll_refl:∀ ds:List PyData,PyData.canLayAll0 ds=true->PyData.eqvAll ds ds=true
 | [],_=>by simp [PyData.eqvAll]
 | d :: ds,h=>by
  have h':d.canLay0=true/\PyData.canLayAll0 ds=true:=by simpa [PyData.canLayAll0] using h
  rw [PyData.eqvAll,eqv_refl d h'.1,eqvAll_refl ds h'.2];rfl
end
theorem eqv_nil (ds:List PyData):PyData.eqv (.list ds) (.list [])=ds.isEmpty:=by
 cases ds<;>simp [PyData.eqv,PyData.eqvAll]
def sg (b:Bool):Nat:=if b then 49 else 48
def bs (w:List Bool):Str:=⟨(w.map sg).toArray⟩
theorem bs_len (w:List Bool):(bs w).length=w.length:=by show ((w.map sg).toArray).size=_;simp
theorem sg_inj {a b:Bool} (h:sg a=sg b):a=b:=by cases a<;>cases b<;>first | rfl | cases h
theorem bs_inj {v w:List Bool} (h:bs v=bs w):v=w:=by
 have h1:(v.map sg).toArray=(w.map sg).toArray:=congrArg Str.cps h
 have h2:v.map sg=w.map sg:=by simpa using congrArg Array.toList h1
 clear h h1
 induction v generalizing w with
 | nil=>cases w<;>simp_all
 | cons a v ih=>
  cases w with
  | nil=>simp at h2
  | cons b w=>
   simp only [List.map_cons,List.cons.injEq] at h2
   rw [sg_inj h2.1,ih h2.2]
theorem bs_app (v w:List Bool):bs v++bs w=bs (v++w):=by
 show (⟨(v.map sg).toArray++(w.map sg).toArray⟩ : Str)=⟨((v++w).map sg).toArray⟩
 simp
theorem bs_ok (w:List Bool):PyData.strOk (bs w)=true:=by
 unfold PyData.strOk bs
 rw [Array.all_eq_true']
 intro x hx
 have hx:x∈w.map sg:=by simpa using hx
 obtain ⟨b,_,rfl⟩:=List.mem_map.mp hx
 cases b<;>decide
theorem bs_nil:("" : Str)=bs []:=by decide +kernel
theorem bs_0:("0" : Str)=bs [false]:=by decide +kernel
theorem bs_1:("1" : Str)=bs [true]:=by decide +kernel
theorem bs_if (b:Bool):bs [b]=(if b then ("1" : Str) else "0"):=by cases b<;>decide +kernel
end L2
end
section
namespace L2
open PySem PySem.Spec PyProof.Rows
section
variable {X:Cx} {a b c e o:Expr} {es:List Expr} {pos:Pos}
theorem PE.of {t t':TE} (h:PE X e t) (k:∀ σ H Q,t' σ H Q->t σ H Q):PE X e t':=fun pins s σ H Q I q=>h pins s σ H Q I (k _ _ _ q)
theorem OpR.of {f:Value->Value->Sem Value} {r r':R2} (h:OpR X f r) (k:∀ x y H Q,r' x y H Q->r x y H Q):OpR X f r':=fun pins s σ H x y v u Q I rx ry q=>h pins s σ H x y v u Q I rx ry (k _ _ _ _ q)
def tV (i:Nat):TE:=fun σ H Q=>match σ[i]? with
 | some (some v)=>Q v H
 | _=>False
theorem vr (i:Nat) {x:Str} (hN:X.N[i]? = some x:=by rfl) (hv:Vis X.env.scope x:=by first | exact Or.inl rfl | exact Or.inr (Or.inl rfl) | exact Or.inr (Or.inr rfl)) (hd:(x == ("__debug__" : Str))=false:=by decide)
  (hcd:(x == ("__classdict__" : Str))=false:=by decide):PE X (.Name x pos) (tV i):=(pe_var hN hv hd hcd).of fun σ H Q q=>by
 unfold tV at q
 split at q
 ·exact ⟨_,by assumption,q⟩
 ·exact q.elim
def rN (C:Int->Int->Prop) (g:Int->Int->V):R2:=fun x y H Q=>match x,y with
 | .int i,.int j=>C i j/\Q (g i j) H
 | _,_=>False
def rN0 (g:Int->Int->V):R2:=fun x y H Q=>match x,y with
 | .int i,.int j=>Q (g i j) H
 | _,_=>False
theorem OpR.n {f:Value->Value->Sem Value} {C:Int->Int->Prop} {g:Int->Int->V} (h:OpR X f (rI C g)):OpR X f (rN C g):=h.of fun x y H Q q=>by
 unfold rN at q
 split at q
 ·exact ⟨_,_,rfl,rfl,q⟩
 ·exact q.elim
theorem OpR.n0 {f:Value->Value->Sem Value} {g:Int->Int->V} (h:OpR X f (rI0 g)):OpR X f (rN0 g):=h.of fun x y H Q q=>by
 unfold rN0 at q
 split at q
 ·exact ⟨_,_,rfl,rfl,q⟩
 ·exact q.elim
def rAddU:R2:=fun x y H Q=>match x,y with
 | .int i,.int j=>Q (.int (i+j)) H
 | .str i,.str j=>i.length+j.length<=sizeLine/\Q (.str (i++j)) H
 | .ref p,.ref q=>∃ xs zs,H p=some (.lst xs)/\H q=some (.lst zs)/\xs.length+zs.length<=sizeLine/\∀ n,H n=none->Q (.ref n) (upd H n (.lst (xs++zs)))
 | _,_=>False
theorem op_addU:OpR X (binaryOp .Add) rAddU:=(op_add.or (op_add_str.or op_cat)).of fun x y H Q q=>by
 unfold rAddU at q
 split at q
 ·exact .inl ⟨_,_,rfl,rfl,q⟩
 ·exact .inr (.inl ⟨_,_,rfl,rfl,q⟩)
 ·obtain ⟨xs,zs,h1,h2,h3,h4⟩:=q
  exact .inr (.inr ⟨_,_,xs,zs,rfl,rfl,h1,h2,h3,h4⟩)
 ·exact q.elim
def rMulU:R2:=fun x y H Q=>match x,y with
 | .int i,.int j=>CMul i j/\Q (.int (i * j)) H
 | .ref p,.int k=>∃ xs,H p=some (.lst xs)/\-(2 ^ 63)<=k/\k < 2 ^ 63/\xs.length * k.toNat<=sizeLine/\∀ n,H n=none->Q (.ref n) (upd H n (.lst (List.replicate k.toNat xs).flatten))
 | _,_=>False
theorem op_mulU:OpR X (binaryOp .Mult) rMulU:=(op_mul.or op_rep).of fun x y H Q q=>by
 unfold rMulU at q
 split at q
 ·exact .inl ⟨_,_,rfl,rfl,q⟩
 ·obtain ⟨xs,h1,h2,h3,h4,h5⟩:=q
  exact .inr ⟨_,_,xs,rfl,rfl,h1,h2,h3,h4,h5⟩
 ·exact q.elim
def rEqU:R2:=fun x y H Q=>match x,y with
 | .int i,.int j=>Q (.bl (decide (i=j))) H
 | .str i,.str j=>Q (.bl (decide (i=j))) H
 | .bl i,.bl j=>Q (.bl (decide (i=j))) H
 | .ref p,.ref q=>∃ d e,DV H (.ref p) d/\DV H (.ref q) e/\SeqAt.shaped d=true/\SeqAt.shaped e=true/\Q (.bl (PyData.eqv d e)) H
 | _,_=>False
theorem vint_dec (i j:Int):decide (V.int i=V.int j)=decide (i=j):=by simp
theorem vstr_dec (i j:Str):decide (V.str i=V.str j)=decide (i=j):=by simp
theorem vbl_dec (i j:Bool):decide (V.bl i=V.bl j)=decide (i=j):=by simp
theorem op_eqU (hu:X.A.units+64 < cLine):OpR X (compareOp .Eq) rEqU:=(op_eq.or (op_eqD hu)).of fun x y H Q q=>by
 unfold rEqU at q
 split at q
 ·exact .inl ⟨rfl,by rw [vint_dec];exact q⟩
 ·exact .inl ⟨rfl,by rw [vstr_dec];exact q⟩
 ·exact .inl ⟨rfl,by rw [vbl_dec];exact q⟩
 ·exact .inr q
 ·exact q.elim
def rNeU:R2:=fun x y H Q=>rEqU x y H fun v H'=>match v with
 | .bl k=>Q (.bl (!k)) H'
 | _=>False
theorem op_neU (hu:X.A.units+64 < cLine):OpR X (compareOp .NotEq) rNeU:=(op_ne.or (op_neD hu)).of fun x y H Q q=>by
 unfold rNeU rEqU at q
 split at q
 ·exact .inl ⟨rfl,by rw [vint_dec];exact q⟩
 ·exact .inl ⟨rfl,by rw [vstr_dec];exact q⟩
 ·exact .inl ⟨rfl,by rw [vbl_dec];exact q⟩
 ·exact .inr q
 ·exact q.elim
def getV (H:Hp) (x:V) (i:Int):Option V:=match x with
 | .ref p=>match H p with
  | some (.lst xs)=>atI xs i
  | some (.tup xs)=>atI xs i
  | some (.frz _ (.lst xs))=>atI xs i
  | _=>none
 | .str z=>if z.length<=sizeLine then (atI z.cps.toList i).map fun c=>V.str ⟨#[c]⟩ else none
 | _=>none
theorem getV_lst {H:Hp} {p:Addr} {xs:List V} {i:Int} (h:H p=some (.lst xs)):getV H (.ref p) i=atI xs i:=by simp [getV,h]
theorem getV_tup {H:Hp} {p:Addr} {xs:List V} {i:Int} (h:H p=some (.tup xs)):getV H (.ref p) i=atI xs i:=by simp [getV,h]
def rIxU:R2:=fun x y H Q=>match y with
 | .int i=>∃ v,getV H x i=some v/\Q v H
 | _=>False
theorem ixU:IxR X rIxU:=by
 intro value slice pins s σ H x y v u Q I rx ry q hs
 refine ix_seq value slice pins s σ H x y v u Q I rx ry ?_ hs
 unfold rIxU at q
 split at q
 ·obtain ⟨z,hz,q⟩:=q
  unfold getV at hz
  split at hz
  ·split at hz
   ·rename_i xs hx
    exact .inl ⟨_,xs,_,z,rfl,rfl,SqL.of hx,hz,q⟩
   ·rename_i xs hx
    exact .inr (.inl ⟨_,xs,_,z,rfl,rfl,SqT.of hx,hz,q⟩)
   ·rename_i oo xs hx
    exact .inl ⟨_,xs,_,z,rfl,rfl,.inl (.inr ⟨_,hx⟩),hz,q⟩
   ·cases hz
  ·split at hz
   ·rename_i hl
    obtain ⟨c,hc,rfl⟩:=Option.map_eq_some_iff.mp hz
    exact .inr (.inr ⟨_,_,c,rfl,rfl,hl,hc,q⟩)
   ·cases hz
  ·cases hz
 ·exact q.elim
def rSlU:V->Option Int->Option Int->Hp->VK->Prop:=fun x lo hi H Q=>match x with
 | .ref p=>∃ xs,H p=some (.lst xs)/\∀ n,H n=none->Q (.ref n) (upd H n (.lst (cutV xs lo hi)))
 | .str z=>z.length<=sizeLine/\Q (.str (Txt.slice z lo hi)) H
 | _=>False
theorem slU:SlR X rSlU:=by
 intro pins s σ H x v vl vu lo hi sl Q I rx hs pl pu q
 refine (sl_list.or sl_str) pins s σ H x v vl vu lo hi sl Q I rx hs pl pu ?_
 unfold rSlU at q
 split at q
 ·obtain ⟨xs,h,q⟩:=q
  exact .inl ⟨_,xs,rfl,SqL.of h,q⟩
 ·exact .inr ⟨_,rfl,q⟩
 ·exact q.elim
def tPartU (t:TE):TO:=fun σ H Q=>t σ H fun x H1=>match x with
 | .int i=>Q (some i) H1
 | _=>False
theorem po_someU {te:TE} (h:PE X e te):PO X (some e) (tPartU te):=by
 intro pins s σ H Q I hw
 rw [evalPart_some]
 refine thn (h pins s σ H _ I hw) fun u s1 ⟨x,H1,I1,r1,q1⟩=>?_
 dsimp only at q1
 split at q1
 ·obtain ⟨t,rfl⟩:=r1
  exact ⟨some _,H1,I1,.int _ t,q1⟩
 ·exact q1.elim
def tBU (t:TE):TT:=fun σ H Q=>t σ H fun x H1=>match x with
 | .bl c=>Q c H1
 | _=>False
theorem bu_of {Q:Bool->Hp->Prop} {x:V} {H1:Hp} (q:match x with | .bl c=>Q c H1 | _=>False):∃ c,x = .bl c/\Q c H1:=by
 split at q
 ·exact ⟨_,rfl,q⟩
 ·exact q.elim
theorem pt_valU {t:TE} (h:PE X e t) (he:∀ whole,isTrue e X.env whole=(do let v <-whole;standAt e.pos;holding [v] (truthy v)):=by intro _;rfl):PT X e (tBU t):=by
 intro pins s σ H Q I hw
 refine isTrue_plain (thn (h pins s σ H _ I hw) fun v s1 ⟨x,H1,I1,r1,q1⟩=>?_) (he _)
 obtain ⟨d,rfl,q⟩:=bu_of q1
 cases r1
 exact wpAny_truthy_bool ⟨H1,I1,q⟩
theorem pt_cmpU {op:CmpOp} {r:R2} {ta tb:TE} (ho:OpR X (compareOp op) r) (ha:PE X a ta) (hb:PE X b tb) (hm:behindInMarks op b=false:=by first | exact nomark _ | rfl | (with_unfolding_all rfl)):PT X (.Compare a [op] [b] pos) (tBU (tOp r ta tb)):=by
 intro pins s σ H Q I h
 refine wpAny_isTrue_Compare1 (thn (ha pins s σ H _ I h) fun v s1 ⟨x,H1,I1,r1,q1⟩=>thn (hb pins s1 σ H1 _ I1 q1) fun u s2 ⟨y,H2,I2,r2,q2⟩=>
  thn (ho pins s2 σ H2 x y v u _ I2 r1 r2 q2) fun c s3 ⟨z,H3,I3,r3,q3⟩=>?_) hm
 obtain ⟨k,e,q3⟩:=bu_of q3
 subst e
 cases r3
 exact wpAny_truthy_bool ⟨H3,I3,q3⟩
theorem pe_cmpU {op:CmpOp} {r:R2} {ta tb:TE} (ho:OpR X (compareOp op) r) (ha:PE X a ta) (hb:PE X b tb) (hm:behindInMarks op b=false:=by first | exact nomark _ | rfl | (with_unfolding_all rfl)):PE X (.Compare a [op] [b] pos) (tOp r ta tb):=pe_cmpR ho ha hb hm
def tAndU (ta tb:TE):TE:=fun σ H Q=>ta σ H fun x H1=>match x with
 | .bl c=>if c=true then tb σ H1 Q else Q (.bl false) H1
 | _=>False
def tNotU (ta:TE):TE:=fun σ H Q=>ta σ H fun x H1=>match x with
 | .bl c=>Q (.bl (!c)) H1
 | _=>False
variable {ta tb tc:TE} {rest:List Expr}
theorem pe_andU (ha:PE X a ta) (hb:PE X (.BoolOp .And (b :: rest) pos) tb):PE X (.BoolOp .And (a :: b :: rest) pos) (tAndU ta tb):=by
 intro pins s σ H Q I h
 refine BoolOp_and (thn (ha pins s σ H _ I h) fun v s1 ⟨x,H1,I1,r1,q1⟩=>?_)
 dsimp only at q1
 split at q1
 ·rename_i c
  cases r1
  refine wpAny_truthy_bool ?_
  cases c with
  | true=>exact hb pins s1 σ H1 Q I1 q1
  | false=>exact ⟨.bl false,H1,I1,rfl,q1⟩
 ·exact q1.elim
theorem pe_notU (ha:PE X a ta):PE X (.UnaryOp .Not a pos) (tNotU ta):=by
 intro pins s σ H Q I h
 refine UnaryOp_ (thn (ha pins s σ H _ I h) fun v s1 ⟨x,H1,I1,r1,q1⟩=>?_)
 dsimp only at q1
 split at q1
 ·cases r1
  exact not_of (wpAny_truthy_bool ⟨.bl _,H1,I1,rfl,q1⟩)
 ·exact q1.elim
theorem CallR.of {f:Value} {r r':List V->Hp->VK->Prop} (h:CallR X f r) (k:∀ xs H Q,r' xs H Q->r xs H Q):CallR X f r':=fun pins s σ H xs us Q I rx q=>h pins s σ H xs us Q I rx (k _ _ _ q)
theorem MtM.of {id:String} {r r':V->List V->Hp->VK->Prop} (h:MtM X id r) (k:∀ x xs H Q,r' x xs H Q->r x xs H Q):MtM X id r':=fun pins s σ H x xs v us Q I rx rs q=>h pins s σ H x xs v us Q I rx rs (k _ _ _ _ q)
def lenV (H:Hp) (x:V):Option Nat:=match x with
 | .str z=>if z.length<=sizeLine then some z.length else none
 | .ref p=>match H p with
  | some (.lst xs)=>some xs.length
  | some (.tup xs)=>some xs.length
  | some (.frz _ (.lst xs))=>some xs.length
  | _=>none
 | _=>none
def rLen:List V->Hp->VK->Prop:=fun vs H Q=>match vs with
 | [x]=>∃ k:Nat,lenV H x=some k/\Q (.int k) H
 | _=>False
theorem call_lenU:CallR X (.builtin "len") rLen:=(call_len_seq.or call_len_str).of fun xs H Q q=>by
 unfold rLen at q
 split at q
 ·obtain ⟨k,hk,q⟩:=q
  unfold lenV at hk
  split at hk
  ·split at hk
   ·rename_i hl
    cases hk
    exact .inr ⟨_,rfl,hl,q⟩
   ·cases hk
  ·split at hk
   ·cases hk;exact .inl ⟨_,_,rfl,.inl (SqL.of (by assumption)),q⟩
   ·cases hk;exact .inl ⟨_,_,rfl,.inr (SqT.of (by assumption)),q⟩
   ·cases hk;exact .inl ⟨_,_,rfl,.inl (.inl (.inr ⟨_,by assumption⟩)),q⟩
   ·cases hk
  ·cases hk
 ·exact q.elim
def rListOf:List V->Hp->VK->Prop:=fun vs H Q=>match vs with
 | [.ref p]=>∃ xs,(H p=some (.lst xs)\/H p=some (.tup xs))/\∀ l,H l=none->Q (.ref l) (upd H l (.lst xs))
 | _=>False
theorem call_listU:CallR X (.type "list") rListOf:=call_list_of.of fun xs H Q q=>by
 unfold rListOf at q
 split at q
 ·obtain ⟨ys,h,q⟩:=q
  exact ⟨_,ys,rfl,h.elim (fun z=>.inl (SqL.of z)) (fun z=>.inr (SqT.of z)),q⟩
 ·exact q.elim
def rMax:List V->Hp->VK->Prop:=fun vs H Q=>match vs with
 | [.int i,.int j]=>Q (.int (if j > i then j else i)) H
 | _=>False
theorem call_maxU (hc:X.calm=true):CallR X (.builtin "max") rMax:=(call_max2 hc).of fun xs H Q q=>by
 unfold rMax at q
 split at q
 ·exact ⟨_,_,rfl,q⟩
 ·exact q.elim
def rMin:List V->Hp->VK->Prop:=fun vs H Q=>match vs with
 | [.int i,.int j]=>Q (.int (if j < i then j else i)) H
 | _=>False
theorem call_minU (hc:X.calm=true):CallR X (.builtin "min") rMin:=(call_min2 hc).of fun xs H Q q=>by
 unfold rMin at q
 split at q
 ·exact ⟨_,_,rfl,q⟩
 ·exact q.elim
def rIntOf:List V->Hp->VK->Prop:=fun vs H Q=>match vs with
 | [.int i]=>Q (.int i) H
 | [.bl k]=>Q (.int (if k then 1 else 0)) H
 | [.str z]=>∃ k:Bool,z=bs [k]/\Q (.int (if k then 1 else 0)) H
 | _=>False
theorem call_intU:CallR X (.type "int") rIntOf:=(call_int1.or call_int_bit).of fun xs H Q q=>by
 unfold rIntOf at q
 split at q
 ·exact .inl (.inl ⟨_,rfl,q⟩)
 ·exact .inl (.inr ⟨_,rfl,q⟩)
 ·obtain ⟨k,h,q⟩:=q
  exact .inr ⟨k,by rw [h,bs_if],q⟩
 ·exact q.elim
def rIsI:List V->Hp->VK->Prop:=fun vs H Q=>match vs with
 | [x,.ty T]=>∃ Tx,tyN H x=some Tx/\T∈["int","bool","list","tuple","str"]/\Q (.bl (Tx == T || (Tx == "bool" && T == "int"))) H
 | _=>False
theorem call_isU:CallR X (.builtin "isinstance") rIsI:=call_isinst.of fun xs H Q q=>by
 unfold rIsI at q
 split at q
 ·obtain ⟨Tx,h1,h2,q⟩:=q
  exact ⟨_,_,Tx,rfl,h1,h2,q⟩
 ·exact q.elim
def rAll:List V->Hp->VK->Prop:=fun vs H Q=>match vs with
 | [.ref p]=>∃ bl:List Bool,H p=some (.lst (bl.map V.bl))/\Q (.bl (bl.all id)) H
 | _=>False
theorem call_allU (hc:X.calm=true):CallR X (.builtin "all") rAll:=(call_all hc).of fun xs H Q q=>by
 unfold rAll at q
 split at q
 ·obtain ⟨bl,h,q⟩:=q
  exact ⟨_,bl,rfl,h,q⟩
 ·exact q.elim
def rApp:V->List V->Hp->VK->Prop:=fun x vs H Q=>match x,vs with
 | .ref l,[y]=>∃ xs,H l=some (.lst xs)/\xs.length < sizeLine/\Q .non (upd H l (.lst (xs++[y])))
 | _,_=>False
theorem mt_appU:MtM X "list.append" rApp:=mt_append.of fun x xs H Q q=>by
 unfold rApp at q
 split at q
 ·obtain ⟨ys,h1,h2,q⟩:=q
  exact ⟨_,ys,_,rfl,rfl,h1,h2,q⟩
 ·exact q.elim
def rJoin:V->List V->Hp->VK->Prop:=fun x vs H Q=>match x,vs with
 | .str sep,[.ref p]=>∃ ws:List Str,H p=some (.lst (ws.map V.str))/\(ws.map (·.length)).sum+ws.length * sep.length<=16777216/\Q (.str (Txt.join sep ws)) H
 | _,_=>False
theorem mt_joinU:MtM X "str.join" rJoin:=mt_join.of fun x xs H Q q=>by
 unfold rJoin at q
 split at q
 ·obtain ⟨ws,h1,h2,q⟩:=q
  exact ⟨_,_,ws,rfl,rfl,h1,h2,q⟩
 ·exact q.elim
def rStrip:V->List V->Hp->VK->Prop:=fun x vs H Q=>match x,vs with
 | .str z,[.str y]=>z.length<=sizeLine/\Q (.str (Txt.stripChars z y)) H
 | _,_=>False
theorem mt_stripU:MtM X "str.strip" rStrip:=mt_strip.of fun x xs H Q q=>by
 unfold rStrip at q
 split at q
 ·exact ⟨_,_,rfl,rfl,q⟩
 ·exact q.elim
def rBits:V->List V->Hp->VK->Prop:=fun x vs H Q=>match x,vs with
 | .int i,[]=>Q (.int (Builtin.Int.intBits i)) H
 | _,_=>False
theorem mt_bitsU:MtM X "int.bit_length" rBits:=mt_bitlen.of fun x xs H Q q=>by
 unfold rBits at q
 split at q
 ·exact ⟨_,rfl,rfl,q⟩
 ·exact q.elim
def tyU (H:Hp) (T:String):V->Prop
 | .str _=>T = "str"
 | .int _=>T = "int"
 | .ref p=>∃ xs,T = "list"/\H p=some (.lst xs)
 | _=>False
theorem tyU_of {K:PySem.W.Frag} {H:Hp} {T:String} {x:V} (h:tyU H T x):tyV K T x H:=by
 cases x with
 | str z=>exact h
 | int z=>exact h
 | ref p=>obtain ⟨xs,h1,h2⟩:=h;exact .inl ⟨h1,xs,SqL.of h2⟩
 | _=>exact h.elim
end
theorem le_line {n:Nat} (h:n<=1000):n<=sizeLine:=Nat.le_trans h (by decide)
theorem lt_line {n:Nat} (h:n<=1000):n < sizeLine:=Nat.lt_of_le_of_lt h (by decide)
theorem Same.upd {H:Hp} {p:Addr} {o:HO} (h:H p=none):Same H (upd H p o):=fun b u e=>by rw [upd_ne (ne_of_none e h)];exact e
theorem atI_int {α:Type} {xs:List α} {i:Int} {v:α} (h0:0<=i) (h:xs[i.toNat]? = some v):atI xs i=some v:=by
 have e:i=(i.toNat:Int):=by omega
 rw [e]
 exact atI_nat h
theorem gl {H:Hp} {p:Addr} {xs:List V} {i:Int} {v:V} (h:H p=some (.lst xs)) (h0:0<=i) (hv:xs[i.toNat]? = some v):getV H (.ref p) i=some v:=by rw [getV_lst h];exact atI_int h0 hv
theorem gt {H:Hp} {p:Addr} {xs:List V} {i:Int} {v:V} (h:H p=some (.tup xs)) (h0:0<=i) (hv:xs[i.toNat]? = some v):getV H (.ref p) i=some v:=by rw [getV_tup h];exact atI_int h0 hv
theorem lenL {H:Hp} {p:Addr} {xs:List V} (h:H p=some (.lst xs)):lenV H (.ref p)=some xs.length:=by simp [lenV,h]
theorem gs {H:Hp} {w:List Bool} {i:Int} {b:Bool} (hz:w.length<=sizeLine) (h0:0<=i) (hv:w[i.toNat]? = some b):getV H (.str (bs w)) i=some (.str (bs [b])):=by
 show (if (bs w).length<=sizeLine then (atI (bs w).cps.toList i).map fun c=>V.str ⟨#[c]⟩ else none)=_
 rw [if_pos (by rw [bs_len];exact hz)]
 have:atI (bs w).cps.toList i=some (sg b):=atI_int h0 (by show ((w.map sg).toArray.toList)[i.toNat]? = _;simp [hv])
 rw [this]
 rfl
theorem lenS {H:Hp} {w:List Bool} (hz:w.length<=sizeLine):lenV H (.str (bs w))=some w.length:=by
 show (if (bs w).length<=sizeLine then some (bs w).length else none)=_
 rw [if_pos (by rw [bs_len];exact hz),bs_len]
end L2
end
section
namespace L2
open PySem
end L2
end
section
namespace L2
open PySem PySem.Spec PyProof.Rows
def FnX (K:PySem.W.Frag) (mg:Str->Option Value) (x:Str) (st:Stmt) (ps:List Str):Prop:=∃ f fd,Fun K x x st f fd/\mg x=some (.ref f)/\Binds K fd ps []
def Can (P:Program) (w:World) (K:PySem.W.Frag) (mg:Str->Option Value) (base:Heap) (x:Str) (k:Nat) (ps:List Str) (sp:Sp):Prop:=
 ∃ f fd,FnOk P w K mg base CX0 k f fd ps sp/\mg x=some (.ref f)/\PySem.W.keepIn K (.ref f)=true/\Binds K fd ps []
section
variable {P:Program} {w:World} {K:PySem.W.Frag} {mg:Str->Option Value} {base:Heap}
theorem can_fn {x:Str} {st:Stmt} {N ps:List Str} {k:Nat} {sp:Sp} (D:FnX K mg x st ps) (S:FnScope N ps (defScope st)) (len:∀ vs H Q E,sp vs H Q E->vs.length=ps.length)
  (hbody:∀ (f:Addr) (cdv:Value) (A:Around) (outer:List Env) (s:Shared) (H:Hp) (vs:List V) (Q:VK) (E:XK),Room k (A.deeper (envOfC x (defScope st) s.heap.objs.size f cdv))->sp vs H Q E →
   ∃ t,PSs (cxOf CX0 P w K mg base N x (defScope st) f cdv A outer s H E).nox (defBody st) t/\t { nx:=fun _ H'=>Q .non H',rt:=Q } (start N vs) H):Can P w K mg base x (k+1) ps sp:=by
 obtain ⟨f,fd,F,hm,hb⟩:=D
 exact ⟨f,fd,F.ok S len fun cdv A outer s H vs Q E hr h=>hbody f cdv A outer s H vs Q E hr h,hm,F.kp,hb⟩
end
section
variable {X:Cx} {x:Str} {p pos apos:Pos} {e o:Expr} {es:List Expr} {t:TA} {te to ti:TE} {k:Nat} {ps:List Str} {sp:Sp}
def tCan (sp:Sp) (t:TA):TE:=fun σ H Q=>t σ H fun vs H1=>sp vs H1 Q E0
theorem PA.of {t t':TA} (h:PA X es t) (k:∀ σ H Q,t' σ H Q->t σ H Q):PA X es t':=fun pos pins s σ H Q I q=>h pos pins s σ H Q I (k _ _ _ q)
theorem pe_can (C:Can X.prog X.w X.K X.mg X.base x k ps sp) (hr:Room k X.A) (ha:PA X (e :: es) t) (hg:Gl X x:=by rfl)
  (hdb:(x == ("__debug__" : Str))=false:=by decide) (he:starEach (e :: es) X.env=(false,eval e X.env) :: starEach es X.env:=by rfl) (hpl:(backTo pos (starEach es X.env)).any (·.1)=false:=by rfl) :
  PE X (.Call (.Name x p) (e :: es) [] pos) (tCan sp t):=by
 obtain ⟨f,fd,F,hm,hk,hb⟩:=C
 have h:=pe_call (pos:=pos) (p:=p) F hr hg hm hk hb .nil pass0 ha hdb he hpl
 intro pins s σ H Q I q
 refine thn (h pins s σ H Q I ?_) fun _ _ z=>z
 have ee:tCall sp [] E0 t=tCan sp t:=by funext σ H Q;unfold tCall tCan;simp only [List.append_nil]
 rw [ee]
 exact q
theorem pe_len (hm:X.mg "len" = none) (ha:PA X (e :: es) t) (hg:Gl X "len" := by rfl) (he:starEach (e :: es) X.env=(false,eval e X.env) :: starEach es X.env:=by rfl) (hpl:(backTo pos (starEach es X.env)).any (·.1)=false:=by rfl) :
  PE X (.Call (.Name "len" p) (e :: es) [] pos) (tCB rLen t):=pe_callB call_lenU hg hm PySem.boot_len ha (he:=he) (hpl:=hpl)
theorem pe_isinst (hm:X.mg "isinstance" = none) (ha:PA X (e :: es) t) (hg:Gl X "isinstance" := by rfl) (he:starEach (e :: es) X.env=(false,eval e X.env) :: starEach es X.env:=by rfl) (hpl:(backTo pos (starEach es X.env)).any (·.1)=false:=by rfl) :
  PE X (.Call (.Name "isinstance" p) (e :: es) [] pos) (tCB rIsI t):=pe_callB call_isU hg hm PyProof.Rows.boot_isinstance ha (he:=he) (hpl:=hpl)
theorem pe_all (hc:X.calm=true) (hm:X.mg "all" = none) (ha:PA X (e :: es) t) (hg:Gl X "all" := by rfl) (he:starEach (e :: es) X.env=(false,eval e X.env) :: starEach es X.env:=by rfl) (hpl:(backTo pos (starEach es X.env)).any (·.1)=false:=by rfl) :
  PE X (.Call (.Name "all" p) (e :: es) [] pos) (tCB rAll t):=pe_callB (call_allU hc) hg hm PyProof.Rows.boot_all ha (he:=he) (hpl:=hpl)
theorem pe_max (hc:X.calm=true) (hm:X.mg "max" = none) (ha:PA X (e :: es) t) (hg:Gl X "max" := by rfl) (he:starEach (e :: es) X.env=(false,eval e X.env) :: starEach es X.env:=by rfl) (hpl:(backTo pos (starEach es X.env)).any (·.1)=false:=by rfl) :
  PE X (.Call (.Name "max" p) (e :: es) [] pos) (tCB rMax t):=pe_callB (call_maxU hc) hg hm PyProof.Rows.boot_max ha (he:=he) (hpl:=hpl)
theorem pe_min (hc:X.calm=true) (hm:X.mg "min" = none) (ha:PA X (e :: es) t) (hg:Gl X "min" := by rfl) (he:starEach (e :: es) X.env=(false,eval e X.env) :: starEach es X.env:=by rfl) (hpl:(backTo pos (starEach es X.env)).any (·.1)=false:=by rfl) :
  PE X (.Call (.Name "min" p) (e :: es) [] pos) (tCB rMin t):=pe_callB (call_minU hc) hg hm PyProof.Rows.boot_min ha (he:=he) (hpl:=hpl)
theorem pe_intf (hm:X.mg "int" = none) (ha:PA X (e :: es) t) (hg:Gl X "int" := by rfl) (he:starEach (e :: es) X.env=(false,eval e X.env) :: starEach es X.env:=by rfl) (hpl:(backTo pos (starEach es X.env)).any (·.1)=false:=by rfl) :
  PE X (.Call (.Name "int" p) (e :: es) [] pos) (tCB rIntOf t):=pe_callTy call_intU hg hm PyProof.Rows.boot_int ha (he:=he) (hpl:=hpl)
theorem pe_listf (hm:X.mg "list" = none) (ha:PA X (e :: es) t) (hg:Gl X "list" := by rfl) (he:starEach (e :: es) X.env=(false,eval e X.env) :: starEach es X.env:=by rfl) (hpl:(backTo pos (starEach es X.env)).any (·.1)=false:=by rfl) :
  PE X (.Call (.Name "list" p) (e :: es) [] pos) (tCB rListOf t):=pe_callTy call_listU hg hm PyProof.Rows.boot_list ha (he:=he) (hpl:=hpl)
theorem pe_ty {T:String} (hb:bootBuiltins x=some (.type T)) (hm:X.mg x=none) (hg:Gl X x:=by rfl) (hn:x≠"__name__" := by decide) (hd:(x == ("__debug__" : Str))=false:=by decide):PE X (.Name x pos) (tC (.ty T)):=pe_bltn hg hm hb rfl hn hd
def tMt (T:String) (r:V->List V->Hp->VK->Prop) (to:TE) (t:TA):TE:=fun σ H Q=>to σ H fun x H1=>tyU H1 T x/\t σ H1 fun xs H2=>r x xs H2 Q
theorem pe_mt {T id:String} {name:Str} {cpos:Pos} {r:V->List V->Hp->VK->Prop} (pa:PlainAttrs T) (slot:Slot T name id) (hty:typeOf (.builtin id)=pure (.type "method_descriptor")) (hm:MtM X id r) (ho:PE X o to) (ha:PA X (e :: es) t)
  (hbase:attributeBase o name X.env (eval o X.env)=eval o X.env:=by rfl)
  (hfew:((backTo cpos (starEach (e :: es) X.env)).all (fun x=>!x.1) && (backToKw cpos (keywordEach [] X.env)).all (fun x=>x.1.isSome)
   && decide ((e :: es).length+([]:List Keyword).length+(if ([]:List Keyword).isEmpty then 0 else 1) < 30))=true:=by rfl)
  (hline:(apos.endLine == cpos.line)=true:=by rfl) (hs:starEach (e :: es) X.env=(false,eval e X.env) :: starEach es X.env:=by rfl) (hplain:(backTo cpos (starEach es X.env)).any (·.1)=false:=by rfl) :
  PE X (.Call (.Attribute o name apos) (e :: es) [] cpos) (tMt T r to t):=by
 intro pins s σ H Q I h
 refine wpAny_Call_method_late hbase hfew hline rfl (thn (ho pins s σ H _ I h) fun v s1 ⟨x,H1,I1,r1,ty,q1⟩=>?_)
 obtain ⟨h1,h2⟩:=tyV_is I1 r1 (tyU_of ty)
 refine ⟨T,id,pa,slot,hty,h1,h2,?_⟩
 have hA:=ha cpos pins s1 σ H1 _ I1 q1
 rw [hs] at hA ⊢
 refine Calls.callWith_builtin (by show (false || (backTo cpos (starEach es X.env)).any (·.1))=false;rw [hplain]<;>rfl) (Calls.evalArgs_plain ?_)
 exact thn hA fun us s2 ⟨vs,H2,I2,r2,q2⟩=>hm pins s2 σ H2 x vs v us Q I2 r1 r2 q2
theorem pe_mt0 {T id:String} {name:Str} {cpos:Pos} {r:V->List V->Hp->VK->Prop} (pa:PlainAttrs T) (slot:Slot T name id) (hty:typeOf (.builtin id)=pure (.type "method_descriptor")) (hm:MtM X id r) (ho:PE X o to)
  (hbase:attributeBase o name X.env (eval o X.env)=eval o X.env:=by rfl) (hline:(apos.endLine == cpos.line)=true:=by rfl):PE X (.Call (.Attribute o name apos) [] [] cpos) (tMt T r to tNil):=by
 intro pins s σ H Q I h
 refine wpAny_Call_method0_late hbase hline (thn (ho pins s σ H _ I h) fun v s1 ⟨x,H1,I1,r1,ty,q1⟩=>?_)
 obtain ⟨h1,h2⟩:=tyV_is I1 r1 (tyU_of ty)
 exact ⟨T,id,pa,slot,hty,h1,h2,Calls.callWith_builtin rfl (PySem.evalArgs_none (hm pins s1 σ H1 x [] v [] Q I1 r1 .nil q1))⟩
def rSetU:V->V->V->Hp->(Hp->Prop)->Prop:=fun o i v H Q=>match o,i with
 | .ref p,.int k=>∃ xs j,H p=some (.lst xs)/\ixN xs.length k=some j/\Q (upd H p (.lst (xs.set j v)))
 | _,_=>False
theorem setU:PSet X rSetU:=by
 intro pins s σ H o i v ov iv u Q I ro ri rv q
 refine set_list pins s σ H o i v ov iv u Q I ro ri rv ?_
 unfold rSetU at q
 split at q
 ·obtain ⟨xs,j,h1,h2,q⟩:=q
  exact ⟨_,xs,_,j,rfl,rfl,h1,h2,q⟩
 ·exact q.elim
def gTupU (K:PySem.W.Frag) (n:Nat) (t:TGs):TG:=fun v σ H Q=>match v with
 | .ref a=>∃ xs,H a=some (.tup xs)/\xs.length=n/\t xs σ H Q
 | _=>False
def gConsU (t:TG) (u:TGs):TGs:=fun vs σ H Q=>match vs with
 | v :: r=>t v σ H fun σ' H'=>u r σ' H' Q
 | []=>False
theorem pgs_consU {es:List Expr} {t:TG} {u:TGs} (h1:PG X e t) (h2:PGs X es u)
  (hs:(assignEach (e :: es) X.env).map (·.2)=assign e X.env :: (assignEach es X.env).map (·.2):=by rfl):PGs X (e :: es) (gConsU t u):=by
 intro pins s σ H vs us Q I r hw
 refine pgs_cons h1 h2 hs pins s σ H vs us Q I r ?_
 unfold gConsU at hw
 split at hw
 ·exact ⟨_,_,rfl,hw⟩
 ·exact hw.elim
variable {tg:Expr}
def iLst (K:PySem.W.Frag) (tl:TE):TI:=fun σ H R=>tl σ H fun x H1=>match x with
 | .ref a=>(∃ xs,SqL K H1 a xs)/\R (Itl K a) H1
 | _=>False
theorem pi_lst {l:Expr} {tl:TE} (hl:PE X l tl):PI X tg l (iLst X.K tl):=by
 intro pins s σ H R I h
 refine thn (hl pins s σ H _ I h) fun v s1 ⟨x,H1,I1,r1,q1⟩=>?_
 dsimp only at q1
 split at q1
 ·rename_i a
  obtain ⟨⟨xs,hq⟩,q⟩:=q1
  cases r1
  obtain ⟨its,rv,p,hz⟩:=I1.list hq
  refine wpAny_pyIter_list p.isList ?_
  refine ⟨s1.heap.objs.size,[s1.heap.objs.size],_,_,H1,rfl,I1.kept (t':=s1.toks) fun b o e=>Heap.get?_push_of_some _ e,turn_list a _,⟨_,Heap.get?_push_size _ rfl,rfl,rfl⟩,fun b hb=>?_,q⟩
  have e:b=s1.heap.objs.size:=by simpa using hb
  subst e
  exact I1.fpOk (Nat.le_refl _) (I1.hok.fresh (Nat.le_refl _))
 ·exact q1.elim
def iR1 (ta:TA):TI:=fun σ H R=>ta σ H fun vs H1=>match vs with
 | [.int j]=>-(2 ^ 62)<=j/\j < 2 ^ 62/\R (Itr 0 j.toNat) H1
 | _=>False
theorem PI.of {iter:Expr} {w w':TI} (h:PI X tg iter w) (k:∀ σ H R,w' σ H R->w σ H R):PI X tg iter w':=fun pins s σ H R I q=>h pins s σ H R I (k _ _ _ q)
theorem pi_r1 {a:Expr} {ta:TA} (hm:X.mg "range" = none) (ha:PA X [a] ta) (hg:Gl X "range" := by rfl) (hs:starEach [a] X.env=[(false,eval a X.env)]:=by rfl):PI X tg (.Call (.Name "range" p) [a] [] pos) (iR1 ta):=by
 intro pins s σ H R I h
 refine Call_ (ld_blt I hg hm boot_range (PyProof.Rows.callWith_type1 (thn (ha pos pins s σ H _ I h) fun us s1 ⟨vs,H1,I1,r1,q1⟩=>?_) hs rfl))
 dsimp only at q1
 split at q1
 ·obtain ⟨q1,q2,q⟩:=q1
  obtain ⟨u,rfl,t,rfl⟩:=vals1 r1
  exact call_range_1 (range_it I1 (by omega) (by omega) q1 q2 (by simpa using q))
 ·exact q1.elim
def iR2 (ta:TA):TI:=fun σ H R=>ta σ H fun vs H1=>match vs with
 | [.int i,.int j]=>(-(2 ^ 62)<=i/\i < 2 ^ 62/\-(2 ^ 62)<=j/\j < 2 ^ 62)/\R (Itr i (j - i).toNat) H1
 | _=>False
theorem pi_r2 {a b:Expr} {ta:TA} (hm:X.mg "range" = none) (ha:PA X [a,b] ta) (hg:Gl X "range" := by rfl) (hs:starEach [a,b] X.env=[(false,eval a X.env),(false,eval b X.env)]:=by rfl) (hs2:starEach [b] X.env=[(false,eval b X.env)]:=by rfl) :
  PI X tg (.Call (.Name "range" p) [a,b] [] pos) (iR2 ta):=by
 intro pins s σ H R I h
 refine Call_ (ld_blt I hg hm boot_range (PyProof.Rows.callWith_type1 (thn (ha pos pins s σ H _ I h) fun us s1 ⟨vs,H1,I1,r1,q1⟩=>?_) (by rw [hs,hs2]) (by rw [hs2];rfl)))
 dsimp only at q1
 split at q1
 ·obtain ⟨⟨q1,q2,q3,q4⟩,q⟩:=q1
  obtain ⟨u,u2,rfl,⟨t,rfl⟩,⟨t',rfl⟩⟩:=vals2 r1
  exact call_range_2 (range_it I1 q1 q2 q3 q4 q)
 ·exact q1.elim
end
end L2
end
section
namespace L2
open PySem PySem.Spec PyProof.Rows
def visB (sc:Scope) (x:Str):Bool:=(match sc.names.lookup x with
 | some .local=>true
 | some .cell=>true
 | some .free=>true
 | _=>false) && (!(x == ("__debug__" : Str)) && !(x == ("__classdict__" : Str)))
theorem vis_of {sc:Scope} {x:Str} (h:visB sc x=true):Vis sc x/\(x == ("__debug__" : Str))=false/\(x == ("__classdict__" : Str))=false:=by
 unfold visB at h
 simp only [Bool.and_eq_true,Bool.not_eq_true'] at h
 obtain ⟨h1,h2,h3⟩:=h
 refine ⟨?_,h2,h3⟩
 split at h1
 ·exact .inl (by assumption)
 ·exact .inr (.inl (by assumption))
 ·exact .inr (.inr (by assumption))
 ·cases h1
def locB (sc:Scope) (x:Str):Bool:=match sc.names.lookup x with
 | some .local=>true
 | some .cell=>true
 | _=>false
theorem loc_of {sc:Scope} {x:Str} (h:locB sc x=true):Loc sc x:=by
 unfold locB at h
 split at h
 ·exact .inl (by assumption)
 ·exact .inr (by assumption)
 ·cases h
section
variable {X:Cx} {x:Str} {pos:Pos}
theorem vk (i:Nat) (hN:X.N[i]? = some x:=by rfl) (hv:visB X.env.scope x=true:=by kernel_rfl):PE X (.Name x pos) (tV i):=
 vr i hN (vis_of hv).1 (vis_of hv).2.1 (vis_of hv).2.2
theorem gk (i:Nat) (hN:X.N.Nodup) (hi:X.N[i]? = some x:=by rfl) (hx:locB X.env.scope x=true:=by kernel_rfl) (hf:(X.fn x || X.env.scope.names.lookup x == some .local)=true:=by kernel_rfl):PG X (.Name x pos) (gName i):=
 pg_name hN hi (loc_of hx) (by
  rw [Bool.or_eq_true] at hf
  exact hf.elim .inl fun z=>.inr (eq_of_beq z))
theorem vn (x:Str) (i:Nat) (hN:X.N[i]? = some x:=by with_unfolding_all rfl) (hv:visB X.env.scope x=true:=by kernel_rfl):PE X (.Name x pos) (tV i):=vk i hN hv
theorem gn (x:Str) (i:Nat) (hN:X.N.Nodup) (hi:X.N[i]? = some x:=by with_unfolding_all rfl) (hx:locB X.env.scope x=true:=by kernel_rfl) (hf:(X.fn x || X.env.scope.names.lookup x == some .local)=true:=by kernel_rfl):PG X (.Name x pos) (gName i):=gk i hN hi hx hf
def gB (X:Cx) (x:Str):Bool:=X.env.scope.names.lookup x == some .globalImplicit
theorem gl_of (h:gB X x=true):Gl X x:=eq_of_beq h
variable {p apos:Pos} {e o:Expr} {es:List Expr} {t:TA} {te to ti:TE} {k:Nat} {ps:List Str} {sp:Sp} {tg:Expr}
theorem fn_can (x:Str) {P':Program} {w':World} {K':PySem.W.Frag} {mg':Str->Option Value} {base':Heap} (C:Can P' w' K' mg' base' x k ps sp) (hX:X.prog=P'/\X.w=w'/\X.K=K'/\X.mg=mg'/\X.base=base') (hr:Room k X.A) (ha:PA X (e :: es) t) (hg:gB X x=true:=by kernel_rfl)
  (hdb:(x == ("__debug__" : Str))=false:=by kernel_rfl) (he:starEach (e :: es) X.env=(false,eval e X.env) :: starEach es X.env:=by kernel_rfl) (hpl:(backTo pos (starEach es X.env)).any (·.1)=false:=by kernel_rfl) :
  PE X (.Call (.Name x p) (e :: es) [] pos) (tCan sp t):=by
 obtain ⟨rfl,rfl,rfl,rfl,rfl⟩:=hX
 exact pe_can C hr ha (gl_of hg) hdb he hpl
theorem fn_len {mg':Str->Option Value} (hm:mg' "len" = none) (hX:X.mg=mg') (ha:PA X (e :: es) t) (hg:gB X "len" = true:=by kernel_rfl) (he:starEach (e :: es) X.env=(false,eval e X.env) :: starEach es X.env:=by kernel_rfl) (hpl:(backTo pos (starEach es X.env)).any (·.1)=false:=by kernel_rfl) :
  PE X (.Call (.Name "len" p) (e :: es) [] pos) (tCB rLen t):=pe_len (by rw [hX];exact hm) ha (gl_of hg) he hpl
theorem fn_isinst {mg':Str->Option Value} (hm:mg' "isinstance" = none) (hX:X.mg=mg') (ha:PA X (e :: es) t) (hg:gB X "isinstance" = true:=by kernel_rfl) (he:starEach (e :: es) X.env=(false,eval e X.env) :: starEach es X.env:=by kernel_rfl) (hpl:(backTo pos (starEach es X.env)).any (·.1)=false:=by kernel_rfl) :
  PE X (.Call (.Name "isinstance" p) (e :: es) [] pos) (tCB rIsI t):=pe_isinst (by rw [hX];exact hm) ha (gl_of hg) he hpl
theorem fn_all {mg':Str->Option Value} (hm:mg' "all" = none) (hX:X.mg=mg') (ha:PA X (e :: es) t) (hc:X.calm=true:=by kernel_rfl) (hg:gB X "all" = true:=by kernel_rfl) (he:starEach (e :: es) X.env=(false,eval e X.env) :: starEach es X.env:=by kernel_rfl) (hpl:(backTo pos (starEach es X.env)).any (·.1)=false:=by kernel_rfl) :
  PE X (.Call (.Name "all" p) (e :: es) [] pos) (tCB rAll t):=pe_all hc (by rw [hX];exact hm) ha (gl_of hg) he hpl
theorem fn_max {mg':Str->Option Value} (hm:mg' "max" = none) (hX:X.mg=mg') (ha:PA X (e :: es) t) (hc:X.calm=true:=by kernel_rfl) (hg:gB X "max" = true:=by kernel_rfl) (he:starEach (e :: es) X.env=(false,eval e X.env) :: starEach es X.env:=by kernel_rfl) (hpl:(backTo pos (starEach es X.env)).any (·.1)=false:=by kernel_rfl) :
  PE X (.Call (.Name "max" p) (e :: es) [] pos) (tCB rMax t):=pe_max hc (by rw [hX];exact hm) ha (gl_of hg) he hpl
theorem fn_min {mg':Str->Option Value} (hm:mg' "min" = none) (hX:X.mg=mg') (ha:PA X (e :: es) t) (hc:X.calm=true:=by kernel_rfl) (hg:gB X "min" = true:=by kernel_rfl) (he:starEach (e :: es) X.env=(false,eval e X.env) :: starEach es X.env:=by kernel_rfl) (hpl:(backTo pos (starEach es X.env)).any (·.1)=false:=by kernel_rfl) :
  PE X (.Call (.Name "min" p) (e :: es) [] pos) (tCB rMin t):=pe_min hc (by rw [hX];exact hm) ha (gl_of hg) he hpl
theorem fn_int {mg':Str->Option Value} (hm:mg' "int" = none) (hX:X.mg=mg') (ha:PA X (e :: es) t) (hg:gB X "int" = true:=by kernel_rfl) (he:starEach (e :: es) X.env=(false,eval e X.env) :: starEach es X.env:=by kernel_rfl) (hpl:(backTo pos (starEach es X.env)).any (·.1)=false:=by kernel_rfl) :
  PE X (.Call (.Name "int" p) (e :: es) [] pos) (tCB rIntOf t):=pe_intf (by rw [hX];exact hm) ha (gl_of hg) he hpl
theorem fn_list {mg':Str->Option Value} (hm:mg' "list" = none) (hX:X.mg=mg') (ha:PA X (e :: es) t) (hg:gB X "list" = true:=by kernel_rfl) (he:starEach (e :: es) X.env=(false,eval e X.env) :: starEach es X.env:=by kernel_rfl) (hpl:(backTo pos (starEach es X.env)).any (·.1)=false:=by kernel_rfl) :
  PE X (.Call (.Name "list" p) (e :: es) [] pos) (tCB rListOf t):=pe_listf (by rw [hX];exact hm) ha (gl_of hg) he hpl
theorem ty_int {mg':Str->Option Value} (hm:mg' "int" = none) (hX:X.mg=mg') (hg:gB X "int" = true:=by kernel_rfl):PE X (.Name "int" pos) (tC (.ty "int")):=pe_ty PyProof.Rows.boot_int (by rw [hX];exact hm) (gl_of hg)
theorem ty_bool {mg':Str->Option Value} (hm:mg' "bool" = none) (hX:X.mg=mg') (hg:gB X "bool" = true:=by kernel_rfl):PE X (.Name "bool" pos) (tC (.ty "bool")):=pe_ty PyProof.Rows.boot_bool (by rw [hX];exact hm) (gl_of hg)
theorem ty_list {mg':Str->Option Value} (hm:mg' "list" = none) (hX:X.mg=mg') (hg:gB X "list" = true:=by kernel_rfl):PE X (.Name "list" pos) (tC (.ty "list")):=pe_ty PyProof.Rows.boot_list (by rw [hX];exact hm) (gl_of hg)
theorem ty_str {mg':Str->Option Value} (hm:mg' "str" = none) (hX:X.mg=mg') (hg:gB X "str" = true:=by kernel_rfl):PE X (.Name "str" pos) (tC (.ty "str")):=pe_ty PyProof.Rows.boot_str (by rw [hX];exact hm) (gl_of hg)
theorem it_r1 {a:Expr} {ta:TA} {mg':Str->Option Value} (hm:mg' "range" = none) (hX:X.mg=mg') (ha:PA X [a] ta) (hg:gB X "range" = true:=by kernel_rfl) (hs:starEach [a] X.env=[(false,eval a X.env)]:=by kernel_rfl):PI X tg (.Call (.Name "range" p) [a] [] pos) (iR1 ta):=pi_r1 (by rw [hX];exact hm) ha (gl_of hg) hs
theorem it_r2 {a b:Expr} {ta:TA} {mg':Str->Option Value} (hm:mg' "range" = none) (hX:X.mg=mg') (ha:PA X [a,b] ta) (hg:gB X "range" = true:=by kernel_rfl) (hs:starEach [a,b] X.env=[(false,eval a X.env),(false,eval b X.env)]:=by kernel_rfl) (hs2:starEach [b] X.env=[(false,eval b X.env)]:=by kernel_rfl) :
  PI X tg (.Call (.Name "range" p) [a,b] [] pos) (iR2 ta):=pi_r2 (by rw [hX];exact hm) ha (gl_of hg) hs hs2
theorem ix_at {a b:Expr} {ta tb:TE} (ha:PE X a ta) (hb:PE X b tb) (hs:∀ o i,subscripted b false o i=operate [o,i] (getItem o i):=by intro _ _;kernel_rfl):PE X (.Subscript a b pos) (tOp rIxU ta tb):=pe_ix ixU ha hb hs
theorem a_cons {e:Expr} {es:List Expr} {te:TE} {t:TA} (ha:PE X e te) (hr:PA X es t) (hs:starEach (e :: es) X.env=(false,eval e X.env) :: starEach es X.env:=by kernel_rfl):PA X (e :: es) (tCons te t):=pa_cons ha hr hs
theorem t_val {e:Expr} {t:TE} (h:PE X e t) (he:∀ whole,isTrue e X.env whole=(do let v <-whole;standAt e.pos;holding [v] (truthy v)):=by intro _;kernel_rfl):PT X e (tBU t):=pt_valU h he
theorem t_cmp {op:CmpOp} {r:R2} {a b:Expr} {ta tb:TE} (ho:OpR X (compareOp op) r) (ha:PE X a ta) (hb:PE X b tb) (hm:behindInMarks op b=false:=by kernel_rfl):PT X (.Compare a [op] [b] pos) (tBU (tOp r ta tb)):=pt_cmpU ho ha hb hm
theorem e_cmp {op:CmpOp} {r:R2} {a b:Expr} {ta tb:TE} (ho:OpR X (compareOp op) r) (ha:PE X a ta) (hb:PE X b tb) (hm:behindInMarks op b=false:=by kernel_rfl):PE X (.Compare a [op] [b] pos) (tOp r ta tb):=pe_cmpU ho ha hb hm
theorem s_asg {tg e:Expr} {te:TE} {g:TG} (he:PE X e te) (hg:PG X tg g) (hs:swapsWithSole [tg] e pos.line X.env=pure false:=by kernel_rfl) (hw:swappedStores [tg] e X.env=pure none:=by kernel_rfl)
  (h1:(assignEach [tg] X.env).map (·.2)=[assign tg X.env]:=by kernel_rfl):PS X (.Assign [tg] e pos) (tAsg te g):=ps_asg he hg hs hw h1
theorem s_expr {e:Expr} {te:TE} (he:PE X e te) (hs:swapsWith e none pos.line X.env=pure false:=by kernel_rfl):PS X (.Expr e pos) (tDrop te):=ps_expr he hs
theorem s_for {iter:Expr} {body:List Stmt} {wi:TI} {g:TG} {tb:TS} (hi:PI X tg iter wi) (hg:PG X tg g) (hb:PSs X body tb) (hp:PassesOwn (model X.prog X.w) X.A X.env X.xe:=by exact PassesOwn.never) (hc:X.calm=true:=by kernel_rfl)
  (hs:∀ x,foldedSetIterable iter X.env x=pure x:=by intro _;kernel_rfl):PS X (.For tg iter body [] pos) (tFor wi g tb):=ps_for hp hc hi hg hb hs
theorem s_while {c:Expr} {body:List Stmt} {tc:TT} {tb:TS} (hc:PT X c tc) (hb:PSs X body tb) (hp:PassesOwn (model X.prog X.w) X.A X.env X.xe:=by exact PassesOwn.never):PS X (.While c body [] pos) (tWhile tc tb):=ps_while hp hc hb
theorem gs_cons {es:List Expr} {t:TG} {u:TGs} (h1:PG X e t) (h2:PGs X es u)
  (hs:(assignEach (e :: es) X.env).map (·.2)=assign e X.env :: (assignEach es X.env).map (·.2):=by kernel_rfl):PGs X (e :: es) (gConsU t u):=pgs_consU h1 h2 hs
theorem m_append {cpos:Pos} (ho:PE X o to) (ha:PA X (e :: es) t)
  (hbase:attributeBase o "append" X.env (eval o X.env)=eval o X.env:=by kernel_rfl)
  (hfew:((backTo cpos (starEach (e :: es) X.env)).all (fun x=>!x.1) && (backToKw cpos (keywordEach [] X.env)).all (fun x=>x.1.isSome)
   && decide ((e :: es).length+([]:List Keyword).length+(if ([]:List Keyword).isEmpty then 0 else 1) < 30))=true:=by kernel_rfl)
  (hline:(apos.endLine == cpos.line)=true:=by kernel_rfl) (hs:starEach (e :: es) X.env=(false,eval e X.env) :: starEach es X.env:=by kernel_rfl) (hplain:(backTo cpos (starEach es X.env)).any (·.1)=false:=by kernel_rfl) :
  PE X (.Call (.Attribute o "append" apos) (e :: es) [] cpos) (tMt "list" rApp to t):=pe_mt PySem.F.plainAttrs_list PySem.F.slot_list_append PySem.F.type_list_append mt_appU ho ha hbase hfew hline hs hplain
theorem m_join {cpos:Pos} (ho:PE X o to) (ha:PA X (e :: es) t)
  (hbase:attributeBase o "join" X.env (eval o X.env)=eval o X.env:=by kernel_rfl)
  (hfew:((backTo cpos (starEach (e :: es) X.env)).all (fun x=>!x.1) && (backToKw cpos (keywordEach [] X.env)).all (fun x=>x.1.isSome)
   && decide ((e :: es).length+([]:List Keyword).length+(if ([]:List Keyword).isEmpty then 0 else 1) < 30))=true:=by kernel_rfl)
  (hline:(apos.endLine == cpos.line)=true:=by kernel_rfl) (hs:starEach (e :: es) X.env=(false,eval e X.env) :: starEach es X.env:=by kernel_rfl) (hplain:(backTo cpos (starEach es X.env)).any (·.1)=false:=by kernel_rfl) :
  PE X (.Call (.Attribute o "join" apos) (e :: es) [] cpos) (tMt "str" rJoin to t):=pe_mt PySem.F.plainAttrs_str PySem.F.slot_str_join PySem.F.type_str_join mt_joinU ho ha hbase hfew hline hs hplain
theorem m_strip {cpos:Pos} (ho:PE X o to) (ha:PA X (e :: es) t)
  (hbase:attributeBase o "strip" X.env (eval o X.env)=eval o X.env:=by kernel_rfl)
  (hfew:((backTo cpos (starEach (e :: es) X.env)).all (fun x=>!x.1) && (backToKw cpos (keywordEach [] X.env)).all (fun x=>x.1.isSome)
   && decide ((e :: es).length+([]:List Keyword).length+(if ([]:List Keyword).isEmpty then 0 else 1) < 30))=true:=by kernel_rfl)
  (hline:(apos.endLine == cpos.line)=true:=by kernel_rfl) (hs:starEach (e :: es) X.env=(false,eval e X.env) :: starEach es X.env:=by kernel_rfl) (hplain:(backTo cpos (starEach es X.env)).any (·.1)=false:=by kernel_rfl) :
  PE X (.Call (.Attribute o "strip" apos) (e :: es) [] cpos) (tMt "str" rStrip to t):=pe_mt PySem.F.plainAttrs_str PySem.F.slot_str_strip PySem.F.type_str_strip mt_stripU ho ha hbase hfew hline hs hplain
theorem m_bits {cpos:Pos} (ho:PE X o to) (hbase:attributeBase o "bit_length" X.env (eval o X.env)=eval o X.env:=by kernel_rfl) (hline:(apos.endLine == cpos.line)=true:=by kernel_rfl):PE X (.Call (.Attribute o "bit_length" apos) [] [] cpos) (tMt "int" rBits to tNil):=pe_mt0 PySem.F.plainAttrs_int PySem.F.slot_int_bit_length PySem.F.type_int_bit_length mt_bitsU ho hbase hline
theorem c_comp (N:List Str) (js:List Nat) {elt target iter:Expr} {ifs:List Expr} {scope:Scope} {wi:TI} {g:TG} {tt:TT} {te:TE} (hN:N.Nodup) (hi:PI X target iter wi)
  (hg:∀ cl C s H fp,PG (X.block scope cl C N s H fp) target g) (ht:∀ cl C s H fp,PF (X.block scope cl C N s H fp) ifs tt) (he:∀ cl C s H fp,PE (X.block scope cl C N s H fp) elt te)
  (hok:compOk X.env.scope X.N scope N js=true:=by kernel_rfl) (hc:X.calm=true:=by kernel_rfl) (hk:scope.kind = .function:=by kernel_rfl) (hs:∀ x,foldedSetIterable iter X.env x=pure x:=by intro _;kernel_rfl) :
  PE X (.ListComp elt [⟨target,iter,ifs,0⟩] scope pos) (tComp (N.length - js.length) js wi g tt te):=pe_comp N js hok hN hc hi hg ht he hk hs
theorem s_comp (y:Str) (i:Nat) (N:List Str) (js:List Nat) {elt target iter:Expr} {ifs:List Expr} {scope:Scope} {wi:TI} {g:TG} {tt:TT} {te:TE} {py spos:Pos} (hN:N.Nodup) (hXN:X.N.Nodup) (hi:PI X target iter wi)
  (hg:∀ cl C s H fp,PG (X.block scope cl C N s H fp) target g) (ht:∀ cl C s H fp,PF (X.block scope cl C N s H fp) ifs tt) (he:∀ cl C s H fp,PE (X.block scope cl C N s H fp) elt te)
  (hyi:X.N[i]? = some y:=by with_unfolding_all rfl) (hy:locB X.env.scope y=true:=by kernel_rfl)
  (hok:compOk X.env.scope X.N scope N js=true:=by kernel_rfl) (hc:X.calm=true:=by kernel_rfl) (hk:scope.kind = .function:=by kernel_rfl) (hs:∀ x,foldedSetIterable iter X.env x=pure x:=by intro _;kernel_rfl)
  (hsw:swapsWith (.ListComp elt [⟨target,iter,ifs,0⟩] scope pos) (some (.Name y py)) spos.line X.env=pure true:=by kernel_rfl) (hf:(X.fn y || X.env.scope.names.lookup y == some .local)=true:=by kernel_rfl) :
  PS X (.Assign [.Name y py] (.ListComp elt [⟨target,iter,ifs,0⟩] scope pos) spos) (tAsg (tComp (N.length - js.length) js wi g tt te) (gName i)):=
 ps_setComp N js hok hN hc hXN hyi (loc_of hy) hi hg ht he hsw hk hs (by
  rw [Bool.or_eq_true] at hf
  exact hf.elim .inl fun z=>.inr (eq_of_beq z))
end
theorem iteP {c A B:Prop} [Decidable c] (hc:c) (h:A):if c then A else B:=by rw [if_pos hc];exact h
theorem iteQ {c A B:Prop} [Decidable c] (hc:¬ c) (h:B):if c then A else B:=by rw [if_neg hc];exact h
end L2
end
section
namespace L2
open PySem PySem.Spec PyProof.Rows
def Off (F:Addr->Prop) (H H':Hp):Prop:=∀ b o,H b=some o->¬ F b->H' b=some o
structure Deck (F:Addr->Prop) (H:Hp) (a:Addr):Prop where
 ex:∃ (p:Addr) (qs:List Addr) (n:Int),H a=some (.lst [.ref p,.int n])/\H p=some (.lst (qs.map V.ref))/\0 < qs.length/\qs.length<=63/\(∀ q∈qs,∃ c f m,H q=some (.lst [.int c,.int f,.int m]))/\∀ b,F b↔b=a\/b=p\/b∈qs
theorem Off.refl {F:Addr->Prop} {H:Hp}:Off F H H:=fun _ _ e _=>e
theorem Off.trans {F:Addr->Prop} {H H1 H2:Hp} (h:Off F H H1) (k:Off F H1 H2):Off F H H2:=fun b o e n=>k b o (h b o e n) n
theorem Same.off {F:Addr->Prop} {H H1:Hp} (h:Same H H1):Off F H H1:=fun b o e _=>h b o e
theorem Deck.same {F:Addr->Prop} {H H1:Hp} {a:Addr} (h:Deck F H a) (k:Same H H1):Deck F H1 a:=by
 obtain ⟨p,qs,n,h1,h2,h3,h4,h5,h6⟩:=h.ex
 exact ⟨p,qs,n,k _ _ h1,k _ _ h2,h3,h4,fun q hq=>let ⟨c,f,m,e⟩:=h5 q hq;⟨c,f,m,k _ _ e⟩,h6⟩
theorem Deck.there {F:Addr->Prop} {H:Hp} {a b:Addr} (h:Deck F H a) (hb:F b):∃ o,H b=some o:=by
 obtain ⟨p,qs,n,h1,h2,h3,h4,h5,h6⟩:=h.ex
 rcases (h6 b).mp hb with rfl | rfl | z
 ·exact ⟨_,h1⟩
 ·exact ⟨_,h2⟩
 ·obtain ⟨c,f,m,e⟩:=h5 b z
  exact ⟨_,e⟩
theorem Deck.new {F:Addr->Prop} {H:Hp} {a b:Addr} (h:Deck F H a) (hb:H b=none):¬ F b:=fun z=>by
 obtain ⟨o,e⟩:=h.there z
 rw [hb] at e
 cases e
end L2
namespace L2
open PySem PySem.Spec PyProof.Rows
section
variable {H:Hp}
theorem DV.lst_inv {v:V} {ds:List PyData} (h:DV H v (.list ds)):∃ a xs,v = .ref a/\H a=some (.lst xs)/\DVs H xs ds:=by
 cases h with
 | lst h r=>exact ⟨_,_,rfl,h,r⟩
theorem DV.tup_inv {v:V} {ds:List PyData} (h:DV H v (.tuple ds)):∃ a xs,v = .ref a/\H a=some (.tup xs)/\DVs H xs ds:=by
 cases h with
 | tup h r=>exact ⟨_,_,rfl,h,r⟩
theorem DV.int_inv {v:V} {i:Int} (h:DV H v (.int i)):v = .int i:=by cases h;rfl
theorem DV.str_inv {v:V} {x:Str} (h:DV H v (.str x)):v = .str x:=by cases h;rfl
theorem DVs.length:∀ {xs:List V} {ds:List PyData},DVs H xs ds->xs.length=ds.length
 | _,_,.nil=>rfl
 | _,_,.cons _ r=>by rw [List.length_cons,List.length_cons,DVs.length r]
theorem DVs.get:∀ {xs:List V} {ds:List PyData} {i:Nat} {d:PyData},DVs H xs ds->ds[i]? = some d->∃ x,xs[i]? = some x/\DV H x d
 | _,_,_,_,.nil,h=>by simp at h
 | _,_,0,_,.cons h _,e=>by
  simp at e
  subst e
  exact ⟨_,rfl,h⟩
 | _,_,i+1,d,.cons _ r,e=>by
  obtain ⟨x,h1,h2⟩:=DVs.get (i:=i) (d:=d) r (by simpa using e)
  exact ⟨x,by simpa using h1,h2⟩
theorem DVs.app:∀ {xs ys:List V} {ds es:List PyData},DVs H xs ds->DVs H ys es->DVs H (xs++ys) (ds++es)
 | _,_,_,_,.nil,s=>s
 | _,_,_,_,.cons h r,s=>.cons h (DVs.app r s)
theorem DVs.ints:∀ (ns:List Int),DVs H (ns.map V.int) (ns.map PyData.int)
 | []=>.nil
 | n :: r=>.cons (.int n) (DVs.ints r)
theorem DVs.strs:∀ (ws:List Str),DVs H (ws.map V.str) (ws.map PyData.str)
 | []=>.nil
 | n :: r=>.cons (.str n) (DVs.strs r)
end
end L2
end
section
namespace Om
abbrev Rows:=List (List (List Bool×Nat))
structure CodeOk (k n:Nat) (rows:Rows):Prop where
 k1:1<=k
 k3:k<=3
 n1:1<=n
 n6:n<=6
 s1:1<=rows.length
 s8:rows.length<=8
 len:∀ st∈rows,st.length=2 ^ k
 row:∀ st∈rows,∀ r∈st,r.1.length=n/\r.2 < rows.length
def step (rows:Rows) (s l:Nat):List Bool×Nat:=(rows.getD s []).getD l ([],0)
def send (rows:Rows):Nat->List Nat->List Bool×Nat
 | s,[]=>([],s)
 | s,l :: r=>((step rows s l).1++(send rows (step rows s l).2 r).1,(send rows (step rows s l).2 r).2)
theorem send_app (rows:Rows):∀ (a b:List Nat) (s:Nat),send rows s (a++b)=((send rows s a).1++(send rows (send rows s a).2 b).1,(send rows (send rows s a).2 b).2)
 | [],b,s=>rfl
 | l :: a,b,s=>by
  show ((step rows s l).1++(send rows (step rows s l).2 (a++b)).1,(send rows (step rows s l).2 (a++b)).2)=_
  rw [send_app rows a b]
  simp [send]
theorem step_get {k n:Nat} {rows:Rows} (c:CodeOk k n rows) {s l:Nat} (hs:s < rows.length) (hl:l < 2 ^ k):∃ st,rows[s]? = some st/\st[l]? = some (step rows s l)/\(step rows s l).1.length=n/\(step rows s l).2 < rows.length:=by
 have h1:rows[s]? = some rows[s]:=List.getElem?_eq_getElem hs
 have hm:rows[s]∈rows:=List.getElem_mem hs
 have hl':l < rows[s].length:=by rw [c.len _ hm];exact hl
 have h2:rows[s][l]? = some rows[s][l]:=List.getElem?_eq_getElem hl'
 have e:step rows s l=rows[s][l]:=by
  unfold step
  have e1:rows.getD s []=rows[s]:=by rw [List.getD_eq_getElem?_getD,h1];rfl
  rw [e1,List.getD_eq_getElem?_getD,h2]
  rfl
 rw [e]
 have:=c.row _ hm _ (List.getElem_mem hl')
 exact ⟨rows[s],h1,h2,this.1,this.2⟩
theorem send_ok {k n:Nat} {rows:Rows} (c:CodeOk k n rows):∀ (t:List Nat) (s:Nat),s < rows.length->(∀ l∈t,l < 2 ^ k)->(send rows s t).1.length=n * t.length/\(send rows s t).2 < rows.length
 | [],s,hs,_=>⟨by simp [send],hs⟩
 | l :: t,s,hs,ht=>by
  obtain ⟨st,_,_,h1,h2⟩:=step_get c hs (ht l List.mem_cons_self)
  obtain ⟨h3,h4⟩:=send_ok c t (step rows s l).2 h2 fun x hx=>ht x (List.mem_cons_of_mem _ hx)
  refine ⟨?_,h4⟩
  show ((step rows s l).1++(send rows (step rows s l).2 t).1).length=_
  rw [List.length_append,h1,h3,List.length_cons,Nat.mul_add,Nat.mul_one,Nat.add_comm]
end Om
end
section
namespace L2
open PySem PySem.Spec PyProof.Rows
theorem bits_le {i:Int} {k:Nat} (h0:0<=i) (h:i < 2 ^ k):((Builtin.Int.intBits i:Nat):Int)<=(k:Int):=by
 unfold Builtin.Int.intBits
 by_cases hi:i=0
 ·subst hi;simp
 ·have hb:(i == 0)=false:=by simpa using hi
  rw [hb]
  simp only [Bool.false_eq_true,if_false]
  have hn:i.natAbs≠0:=by omega
  have h2:i.natAbs < 2 ^ k:=by
   have e:((i.natAbs:Nat):Int)=i:=by omega
   have:((i.natAbs:Nat):Int) < ((2 ^ k:Nat):Int):=by rw [e];simpa using h
   exact_mod_cast this
  have:=(Nat.log2_lt hn).mpr h2
  omega
theorem tw_all {α:Type} {p:α->Bool}:∀ {l:List α},(∀ x∈l,p x=true)->l.takeWhile p=l
 | [],_=>rfl
 | a :: l,h=>by rw [List.takeWhile_cons,if_pos (h a List.mem_cons_self),tw_all fun x hx=>h x (List.mem_cons_of_mem _ hx)]
theorem strip01 (w:List Bool):Txt.stripChars (bs w) ("01" : Str)=bs []:=by
 unfold Txt.stripChars
 rw [stripBy_eq]
 have hg:∀ b:Bool,(("01" : Str).cps.contains (sg b))=true:=by intro b;cases b<;>decide +kernel
 have hlo:stripLo ("01" : Str).cps.contains true (bs w)=w.length:=by
  unfold stripLo
  rw [if_pos rfl]
  have e:(bs w).cps.toList=w.map sg:=by show (w.map sg).toArray.toList=_;simp
  rw [e]
  have:(w.map sg).takeWhile ("01" : Str).cps.contains=w.map sg:=tw_all fun x hx=>by
   obtain ⟨b,_,rfl⟩:=List.mem_map.mp hx
   exact hg b
  rw [this,List.length_map]
 rw [hlo]
 show (⟨((w.map sg).toArray).extract w.length _⟩ : Str)=bs []
 have:∀ j,((w.map sg).toArray).extract w.length j = #[]:=fun j=>by
  apply Array.ext'
  simp
 rw [this]
 rfl
theorem bs_join (ws:List (List Bool)):Txt.join ("" : Str) (ws.map bs)=bs ws.flatten:=by
 rw [eq_of_beq (join_plain_closes _ _)]
 have e0:("" : Str)=(⟨#[]⟩ : Str):=by decide +kernel
 rw [e0]
 induction ws with
 | nil=>rfl
 | cons w ws ih=>rw [List.map_cons,join_nil_cons,ih,bs_app,List.flatten_cons]
def rowD (r:List Bool×Nat):PyData:=.tuple [.str (bs r.1),.int (r.2:Nat)]
def stateD (st:List (List Bool×Nat)):PyData:=.list (st.map rowD)
def codeD (k n:Nat) (rows:Om.Rows):PyData:=.tuple [.int (k:Nat),.int (n:Nat),.list (rows.map stateD)]
end L2
namespace L2
open PySem PySem.Spec PyProof.Rows
theorem comp_map1 {J:It} {D:Addr} {xs:List V} {ok:Hp->Prop} {te:TE} {Q:Hp->Prop} {v0:Option V} {fr:St} {H:Hp} (IO:ItOk J xs ok) (f:V->V) (hz:xs.length<=sizeLine) (hok:∀ o,ok (upd H D o))
  (hs:∀ (i:Nat) (x:V) (ys:List V),xs[i]? = some x->∀ C:VK,C (f x) (upd H D (.lst ys))->te (some x :: fr) (upd H D (.lst ys)) C)
  (hd:Q (upd H D (.lst (xs.map f)))) :
  ∃ W:Nat->Nat->St->Hp->List V->Prop,(∃ m,W 0 m (v0 :: fr) (upd H D (.lst [])) [])/\∀ i m τ H2 ys,W i m τ H2 ys->H2 D=some (.lst ys) ∧
   ((J.stop i H2/\Q H2)\/(J.go i H2/\ys.length < sizeLine/\∃ N:St->Hp->List V->Prop,(∀ τ' H' ys',N τ' H' ys'->∃ m',m' < m/\W (i+1) m' τ' H' ys')/\∀ x H3,J.yld i H2 x H3->gName 0 x τ H3 fun τ4 H4=>tYes τ4 H4 fun b H5=>
    if b=true then te τ4 H5 fun y H6=>H6 D=some (.lst ys)/\N τ4 (upd H6 D (.lst (ys++[y]))) (ys++[y])
    else N τ4 H5 ys)):=by
 refine comp_by IO (fun i τ H2 ys=>(∃ v,τ=v :: fr)/\H2=upd H D (.lst ys)/\ys=(xs.take i).map f/\i<=xs.length) hz ⟨⟨v0,rfl⟩,rfl,rfl,Nat.zero_le _⟩ ?_ ?_ ?_
 ·rintro i τ H2 ys hi ⟨_,rfl,rfl,_⟩
  exact ⟨hok _,upd_same,by simp [List.length_take];omega⟩
 ·rintro i x τ H2 ys hi hx ⟨⟨v,rfl⟩,rfl,rfl,_⟩
  refine hs i x _ hx _ ⟨upd_same,⟨_,rfl⟩,upd_upd,?_,hi⟩
  rw [List.take_add_one,hx,List.map_append]
  rfl
 ·rintro τ H2 ys ⟨_,rfl,rfl,_⟩
  rw [List.take_length]
  exact hd
theorem SqL.upd {K:PySem.W.Frag} {H:Hp} {a D:Addr} {xs:List V} {o:HO} (h:H a=some (.lst xs)) (hD:H D=none):SqL K (upd H D o) a xs:=SqL.of (Same.upd hD _ _ h)
end L2
end
section
namespace L2
open PySem PySem.Spec PyProof.Rows
section
variable {prog:Program} {w:World} {A:Around} {E:Value->Shared->Prop}
theorem draw_list {it l:Addr} {items:Array Value} (hne:l≠it):∀ (n i:Nat) (s:Shared) (Q:List Value->Shared->Prop),s.heap.IsListIter it l i->s.heap.IsList l items->i+n<=items.size →
  (∀ h',h'.IsListIter it l (i+n)->Heap.SameBut it s.heap h'->Q ((items.toList.drop i).take n) { s with heap:=h' })->wpAny (model prog w) A (draw (.ref it) n) Q E s
 | 0,i,s,Q,hit,_,_,hQ=>by
  show wpAny _ _ (pure []) Q E s
  exact wpAny_pure (by simpa using hQ s.heap hit (Heap.SameBut.refl ..))
 | n+1,i,s,Q,hit,ht,hle,hQ=>by
  have hlt:i < items.size:=by omega
  show wpAny _ _ (pyNext (.ref it) >>= _) Q E s
  refine wpAny_bind (wpAny_pyNext_list_item hit ht (x:=items[i]) (by simp [hlt]) fun h₁ hit₁ hs₁=>?_)
  refine wpAny_bind (wpAny_holding (draw_list hne n (i+1) _ _ hit₁ (ht.extBut hs₁.extBut hne) (by omega) fun h₂ hit₂ hs₂=>wpAny_pure ?_))
  have hd:items.toList.drop i=items[i] :: items.toList.drop (i+1):=by simp [List.drop_eq_getElem_cons,hlt]
  have:=hQ h₂ (by rw [show i+(n+1)=i+1+n by omega];exact hit₂) (hs₁.trans hs₂)
  rw [hd,List.take_succ_cons] at this
  exact this
theorem unpackItems_list {s:Shared} {t:Addr} {items:Array Value} {Q:List Value->Shared->Prop} (hh:A.handled=none) (ht:s.heap.IsList t items)
  (hQ:∀ h',Heap.ExtBut s.heap.objs.size s.heap h'->Q items.toList { s with heap:=h' }):wpAny (model prog w) A (unpackItems (.ref t) items.size none) Q E s:=by
 have hlt:t≠s.heap.objs.size:=by obtain ⟨o,ho,_⟩:=ht;exact Nat.ne_of_lt (Heap.lt_size ho)
 unfold unpackItems
 refine wpAny_bind ?_
 ·unfold notIterableAtAll
  refine wpAny_bind (wpAny_specialOf ht.typeIs slot_list_iter.lookup ?_)
  refine wpAny_pure ?_
  simp only [Bool.false_eq_true,if_false]
  refine wpAny_bind (wpAny_holding (wpAny_pyIter_list ht ?_))
  refine wpAny_bind (wpAny_holding (draw_list hlt items.size 0 _ _ ⟨_,Heap.get?_push_size _ rfl,rfl,rfl⟩ (ht.push _) (by omega) fun h₁ hit₁ hs₁=>?_))
  have hall:List.take items.size (List.drop 0 items.toList)=items.toList:=by
   rw [List.drop_zero];exact List.take_of_length_le (by simp)
  rw [hall]
  rw [if_neg (by simp)]
  have ht₁:h₁.IsList t items:=(ht.push _).extBut hs₁.extBut hlt
  refine wpAny_bind (wpAny_holding (wpAny_pyNext_list_end hh hit₁ ht₁ (by simp) fun h₂ he₂=>?_))
  simp only [Option.isSome_none,Bool.false_eq_true,if_false]
  refine wpAny_pure (hQ h₂ fun b o hb e=>he₂ b o hb (hs₁.extBut b o hb (Heap.get?_push_of_some _ e)))
theorem assign_Tuple_list {s:Shared} {env:Env} {elts:List Expr} {x1} {pos:Pos} {t:Addr} {items:Array Value} {Q:Unit->Shared->Prop} (hh:A.handled=none) (ht:s.heap.IsList t items)
  (hn:(assignEach elts env).length=items.size) (hstar:(assignEach elts env).findIdx? (·.1)=none)
  (h:∀ h',Heap.ExtBut s.heap.objs.size s.heap h'->wpAny (model prog w) A (assignInOrder ((assignEach elts env).map (·.2)) items.toList) Q E { s with heap:=h' }) :
  wpAny (model prog w) A (assign (.Tuple elts x1 pos) env (.ref t)) Q E s:=by
 rw [assign_Tuple]
 refine wpAny_bind (wpAny_standAt ?_)
 unfold unpack
 rw [hn,hstar]
 exact wpAny_bind (wpAny_holding (unpackItems_list hh ht h))
end
section
variable {X:Cx} {pos:Pos}
def gTupL (K:PySem.W.Frag) (n:Nat) (t:TGs):TG:=fun v σ H Q=>match v with
 | .ref a=>∃ xs,(H a=some (.tup xs)\/H a=some (.lst xs))/\xs.length=n/\t xs σ H Q
 | _=>False
theorem g_tupL {es:List Expr} {k:Nat} {t:TGs} (h:PGs X es t) (hc:X.calm=true:=by kernel_rfl)
  (hst:(assignEach es X.env).findIdx? (·.1)=none:=by kernel_rfl):PG X (.Tuple es k pos) (gTupL X.K (assignEach es X.env).length t):=by
 intro pins s σ H v u Q I r hw
 unfold gTupL at hw
 split at hw
 ·obtain ⟨xs,h1 | h1,h2,hw⟩:=hw
  ·exact pg_tup hc h rfl hst pins s σ H _ u Q I r ⟨_,xs,rfl,SqT.of h1,h2,hw⟩
  ·cases r
   obtain ⟨its,rv,p,hz⟩:=I.list (SqL.of h1)
   refine assign_Tuple_list (I.ok.hd hc) p.isList (by simp [<-rv.length,h2]) hst fun h' hx=>?_
   have I1:Inv X pins σ H { s with heap:=h' }:=I.kept (t':=s.toks) fun b o e=>hx b o (Nat.ne_of_lt (Heap.lt_size e)) e
   exact h pins _ σ H xs _ Q I1 (by simpa using rv) hw
 ·exact hw.elim
theorem op_isB:OpR X (compareOp .Is) (fun x y H Q=>match x,y with
  | .bl a,.bl b=>Q (.bl (a == b)) H
  | _,_=>False):=by
 intro pins s σ H x y v u Q I rx ry h
 split at h
 ·cases rx
  cases ry
  exact is_bool ⟨.bl _,H,I,rfl,h⟩
 ·exact h.elim
end
section
variable {X:Cx}
def tTru (t:TE):TT:=fun σ H Q=>t σ H fun x H1=>match x with
 | .bl c=>Q c H1
 | .ref p=>∃ xs,H1 p=some (.lst xs)/\Q (!xs.isEmpty) H1
 | _=>False
theorem t_tru {e:Expr} {t:TE} (h:PE X e t) (he:∀ whole,isTrue e X.env whole=(do let v <-whole;standAt e.pos;holding [v] (truthy v)):=by intro _;kernel_rfl):PT X e (tTru t):=by
 intro pins s σ H Q I hw
 refine isTrue_plain (thn (h pins s σ H _ I hw) fun v s1 ⟨x,H1,I1,r1,q1⟩=>?_) (he _)
 refine tru_ok pins s1 σ H1 x v Q I1 r1 ?_
 dsimp only at q1
 split at q1
 ·exact ⟨_,rfl,q1⟩
 ·obtain ⟨xs,h1,q⟩:=q1
  exact ⟨_,.inl ⟨xs,SqL.of h1,rfl⟩,q⟩
 ·exact q1.elim
end
section
variable {X:Cx}
def rNeg:V->Hp->VK->Prop:=fun x H Q=>match x with
 | .int i=>Q (.int (-i)) H
 | _=>False
theorem e_neg {a:Expr} {ta:TE} {pos:Pos} (ha:PE X a ta):PE X (.UnaryOp .USub a pos) (tUn rNeg ta):=by
 refine pe_un (fun pins s σ H x v Q I rx q=>?_) ha
 unfold rNeg at q
 split at q
 ·exact un_neg pins s σ H _ v Q I rx ⟨_,rfl,q⟩
 ·exact q.elim
end
section
variable {H:Hp}
def ni (ls:List Nat):List Int:=ls.map fun l:Nat=>(l:Int)
theorem code_inv {cv:V} {k n:Nat} {rows:Om.Rows} (h:DV H cv (codeD k n rows)):∃ a b ss,cv = .ref a/\H a=some (.tup [.int k,.int n,.ref b])/\H b=some (.lst ss)/\DVs H ss (rows.map stateD):=by
 obtain ⟨a,xs,rfl,ha,hx⟩:=h.tup_inv
 cases hx with
 | cons h1 hx=>
  cases hx with
  | cons h2 hx=>
   cases hx with
   | cons h3 hx=>
    cases hx
    obtain rfl:=h1.int_inv
    obtain rfl:=h2.int_inv
    obtain ⟨b,ss,rfl,hb,hs⟩:=h3.lst_inv
    exact ⟨a,b,ss,rfl,ha,hb,hs⟩
theorem state_at {ss:List V} {rows:Om.Rows} (h:DVs H ss (rows.map stateD)) {s:Nat} {st:List (List Bool×Nat)} (hs:rows[s]? = some st):∃ q rs,ss[s]? = some (.ref q)/\H q=some (.lst rs)/\DVs H rs (st.map rowD):=by
 obtain ⟨x,hx,d⟩:=h.get (i:=s) (d:=stateD st) (by rw [List.getElem?_map,hs];rfl)
 obtain ⟨q,rs,rfl,hq,hr⟩:=d.lst_inv
 exact ⟨q,rs,hx,hq,hr⟩
theorem row_at {rs:List V} {st:List (List Bool×Nat)} (h:DVs H rs (st.map rowD)) {l:Nat} {r:List Bool×Nat} (hl:st[l]? = some r):∃ p,rs[l]? = some (.ref p)/\H p=some (.tup [.str (bs r.1),.int (r.2:Nat)]):=by
 obtain ⟨x,hx,d⟩:=h.get (i:=l) (d:=rowD r) (by rw [List.getElem?_map,hl];rfl)
 obtain ⟨p,xs,rfl,hp,hd⟩:=d.tup_inv
 cases hd with
 | cons h1 hd=>
  cases hd with
  | cons h2 hd=>
   cases hd
   obtain rfl:=h1.str_inv
   obtain rfl:=h2.int_inv
   exact ⟨p,hx,hp⟩
end
end L2
namespace Om
def words (rows:Rows):Nat->List Nat->List (List Bool)
 | _,[]=>[]
 | s,l :: r=>(step rows s l).1 :: words rows (step rows s l).2 r
theorem words_flat (rows:Rows):∀ (t:List Nat) (s:Nat),(words rows s t).flatten=(send rows s t).1
 | [],_=>rfl
 | l :: t,s=>by rw [words,List.flatten_cons,words_flat rows t];rfl
theorem words_len (rows:Rows):∀ (t:List Nat) (s:Nat),(words rows s t).length=t.length
 | [],_=>rfl
 | l :: t,s=>by rw [words,List.length_cons,words_len rows t,List.length_cons]
theorem words_snoc (rows:Rows):∀ (t:List Nat) (s l:Nat),words rows s (t++[l])=words rows s t++[(step rows (send rows s t).2 l).1]
 | [],_,_=>rfl
 | x :: t,s,l=>by
  show (step rows s x).1 :: words rows (step rows s x).2 (t++[l])=_
  rw [words_snoc rows t]
  rfl
theorem send_snoc (rows:Rows) (t:List Nat) (s l:Nat):(send rows s (t++[l])).2=(step rows (send rows s t).2 l).2:=by rw [send_app];rfl
end Om
end
section
namespace L2
open PySem PySem.Spec PyProof.Rows
section
variable {X:Cx} {x:Str} {p pos:Pos} {e:Expr} {es:List Expr} {t:TA}
def rLenS (K:PySem.W.Frag):List V->Hp->VK->Prop:=fun vs H Q=>match vs with
 | [.ref a]=>∃ ys,SqL K H a ys/\Q (.int (ys.length:Nat)) H
 | _=>False
theorem fn_lenS {mg':Str->Option Value} (hm:mg' "len" = none) (hX:X.mg=mg') (ha:PA X (e :: es) t) (hg:gB X "len" = true:=by kernel_rfl) (he:starEach (e :: es) X.env=(false,eval e X.env) :: starEach es X.env:=by kernel_rfl) (hpl:(backTo pos (starEach es X.env)).any (·.1)=false:=by kernel_rfl) :
  PE X (.Call (.Name "len" p) (e :: es) [] pos) (tCB (rLenS X.K) t):=pe_callB (call_len_seq.of fun xs H Q q=>by
   unfold rLenS at q
   split at q
   ·obtain ⟨ys,h,q⟩:=q
    exact ⟨_,ys,rfl,.inl h,q⟩
   ·exact q.elim) (gl_of hg) (by rw [hX];exact hm) PySem.boot_len ha (he:=he) (hpl:=hpl)
def rIxS' (K:PySem.W.Frag):R2:=fun x y H Q=>match x,y with
 | .ref a,.int i=>∃ ys v,SqL K H a ys/\atI ys i=some v/\Q v H
 | _,_=>False
theorem ix_atS {a b:Expr} {ta tb:TE} (ha:PE X a ta) (hb:PE X b tb) (hs:∀ o i,subscripted b false o i=operate [o,i] (getItem o i):=by intro _ _;kernel_rfl):PE X (.Subscript a b pos) (tOp (rIxS' X.K) ta tb):=
 pe_ix (fun value slice pins s σ H x y v u Q I rx ry q hs=>ix_list value slice pins s σ H x y v u Q I rx ry (by
  unfold rIxS' at q
  split at q
  ·obtain ⟨ys,z,h1,h2,q⟩:=q
   exact ⟨_,ys,_,z,rfl,rfl,h1,h2,q⟩
  ·exact q.elim) hs) ha hb hs
end
theorem SqL.same {K:PySem.W.Frag} {H H':Hp} {a:Addr} {xs:List V} (h:SqL K H a xs) (s:Same H H'):SqL K H' a xs:=s.seq h
theorem bs_01:("01" : Str)=bs [false,true]:=by decide +kernel
theorem g01 {H:Hp} {r:Int} (h0:0<=r) (h1:r < 2):getV H (.str ("01" : Str)) r=some (.str (bs [decide (r=1)])):=by
 rw [bs_01]
 refine gs (le_line (Nat.le_of_ble_eq_true rfl)) h0 ?_
 have:r=0\/r=1:=by omega
 rcases this with rfl | rfl<;>rfl
theorem Deck.own {F:Addr->Prop} {H:Hp} {a p:Addr} {o:HO} (h:Deck F H a) (hp:¬ F p):Deck F (upd H p o) a:=by
 obtain ⟨q,qs,n,h1,h2,h3,h4,h5,h6⟩:=h.ex
 refine ⟨q,qs,n,?_,?_,h3,h4,fun x hx=>?_,h6⟩
 ·rw [upd_ne (fun z=>hp ((h6 p).mpr (.inl z.symm)))];exact h1
 ·rw [upd_ne (fun z=>hp ((h6 p).mpr (.inr (.inl z.symm))))];exact h2
 ·obtain ⟨c,f,m,e⟩:=h5 x hx
  have np:x≠p:=fun z=>hp ((h6 p).mpr (.inr (.inr (by rw [<-z];exact hx))))
  exact ⟨c,f,m,by rw [upd_ne np];exact e⟩
end L2
end
section
namespace L2
open PySem PySem.Spec PyProof.Rows
theorem seq_by {t u:TS} {D:Ends} {σ:St} {H:Hp} (M:St->Hp->Prop) (fin:∀ σ' H',M σ' H'->u D σ' H') (h:(∀ σ' H',M σ' H'->u D σ' H')->t { D with nx:=u D } σ H):tSeq t u D σ H:=h fin
def WS (ws:List (List Bool)):HO:=.lst (ws.map fun w=>V.str (bs w))
theorem ws_len {ws:List (List Bool)}:(ws.map fun w=>V.str (bs w)).length=ws.length:=by simp
theorem lay_all:∀ {ds:List PyData},(∀ d∈ds,d.canLay0=true)->PyData.canLayAll0 ds=true
 | [],_=>rfl
 | d :: ds,h=>by rw [PyData.canLayAll0,h d List.mem_cons_self,lay_all fun x hx=>h x (List.mem_cons_of_mem _ hx)];rfl
theorem depth_all {k:Nat}:∀ {ds:List PyData},(∀ d∈ds,d.depth<=k)->PyData.depthAll ds<=k
 | [],_=>Nat.zero_le _
 | d :: ds,h=>by
  rw [PyData.depthAll]
  exact Nat.max_le.mpr ⟨h d List.mem_cons_self,depth_all fun x hx=>h x (List.mem_cons_of_mem _ hx)⟩
theorem shaped_list {k:Nat} {ds:List PyData} (h1:∀ d∈ds,d.canLay0=true) (h2:∀ d∈ds,d.depth<=k) (hk:k < 64):SeqAt.shaped (.list ds)=true:=by
 unfold SeqAt.shaped
 rw [Bool.and_eq_true]
 refine ⟨by rw [PyData.canLay0];exact lay_all h1,decide_eq_true ?_⟩
 have:=depth_all h2
 rw [PyData.depth]
 omega
theorem shaped_tup {k:Nat} {ds:List PyData} (h1:∀ d∈ds,d.canLay0=true) (h2:∀ d∈ds,d.depth<=k) (hk:k < 64):SeqAt.shaped (.tuple ds)=true:=by
 unfold SeqAt.shaped
 rw [Bool.and_eq_true]
 refine ⟨by rw [PyData.canLay0];exact lay_all h1,decide_eq_true ?_⟩
 have:=depth_all h2
 rw [PyData.depth]
 omega
theorem ws_shaped (ws:List (List Bool)):SeqAt.shaped (.list (ws.map fun w=>PyData.str (bs w)))=true:=shaped_list (k:=0) (fun d hd=>by
 obtain ⟨w,_,rfl⟩:=List.mem_map.mp hd
 exact bs_ok w) (fun d hd=>by
 obtain ⟨w,_,rfl⟩:=List.mem_map.mp hd
 exact Nat.le_refl _) (by decide)
theorem nil_shaped:SeqAt.shaped (.list [])=true:=by decide
end L2
namespace L2
open PySem PySem.Spec PyProof.Rows
end L2
end
section
namespace L2
open PySem PySem.Spec PyProof.Rows
structure Sub (F:Addr->Prop) (st:Addr) (G H:Hp):Prop where
 s:Same G H
 n:G st=none
 f:∀ b,F b->G b=none
theorem ne_F {F:Addr->Prop} {b p:Addr} (hb:F b) (hp:¬ F p):b≠p:=fun z=>hp (by rw [<-z];exact hb)
section
variable {F:Addr->Prop} {st p:Addr} {G H H':Hp} {o:HO}
theorem Sub.off (h:Sub F st G H) (k:Off F H H'):Sub F st G H':=⟨fun b u e=>k b u (h.s b u e) (fun z=>by rw [h.f b z] at e;cases e),h.n,h.f⟩
theorem Sub.more (h:Sub F st G H) (hp:H p=none):Sub F st G (upd H p o):=⟨h.s.trans (Same.upd hp),h.n,h.f⟩
theorem Sub.write (h:Sub F st G H):Sub F st G (upd H st o):=⟨fun b u e=>by rw [upd_ne (ne_of_none e h.n)];exact h.s b u e,h.n,h.f⟩
theorem Sub.new (h:Sub F st G H) (hp:H p=none) (hst:st≠p) (hF:¬ F p):Sub F st (upd G p o) (upd H p o):=by
 refine ⟨fun b u e=>?_,by rw [upd_ne hst];exact h.n,fun b hb=>by rw [upd_ne (ne_F hb hF)];exact h.f b hb⟩
 by_cases hb:b=p
 ·subst hb
  rw [upd_same] at e ⊢
  exact e
 ·rw [upd_ne hb] at e ⊢
  exact h.s b u e
theorem Sub.free (h:Sub F st G H) (hp:H p=none):G p=none:=h.s.free hp
theorem Off.free (h:Off F H H') {a:Addr} (d:Deck F H' a) (hp:H' p=none):H p=none:=by
 cases e:H p with
 | none=>rfl
 | some u=>
  by_cases hf:F p
  ·obtain ⟨o',e'⟩:=d.there hf
   rw [hp] at e';cases e'
  ·rw [h _ _ e hf] at hp;cases hp
end
end L2
end
section
namespace L2
open PySem PySem.Spec PyProof.Rows
theorem DVs.of_get {H:Hp}:∀ {xs:List V} {ds:List PyData},xs.length=ds.length->(∀ (i:Nat) (d:PyData),ds[i]? = some d->∃ x,xs[i]? = some x/\DV H x d)->DVs H xs ds
 | [],[],_,_=>.nil
 | [],_ :: _,h,_=>by simp at h
 | _ :: _,[],h,_=>by simp at h
 | x :: xs,d :: ds,h,k=>by
  obtain ⟨x',e,hd⟩:=k 0 d rfl
  have:x=x':=Option.some.inj e
  subst this
  exact .cons hd (DVs.of_get (by simpa using h) fun i d' h'=>by
   obtain ⟨y,e1,e2⟩:=k (i+1) d' (by simpa using h')
   exact ⟨y,by simpa using e1,e2⟩)
end L2
namespace Om
section
variable {ord:List Nat} {rows:Rows} {k n:Nat}
end
end Om
end
section
namespace L2
open PySem PySem.Spec PyProof.Rows
def tupD (w:List Bool) (s:Nat):PyData:=.tuple [.str (bs w),.int (s:Nat)]
theorem tupD_lay (w:List Bool) (s:Nat):(tupD w s).canLay0=true:=by
 unfold tupD
 rw [PyData.canLay0]
 refine lay_all fun d hd=>?_
 rcases List.mem_cons.mp hd with rfl | hd
 ·exact bs_ok w
 ·rw [List.mem_singleton.mp hd];rfl
theorem ints_lay (ns:List Int):PyData.canLay0 (.list (ns.map PyData.int))=true:=by
 rw [PyData.canLay0]
 refine lay_all fun d hd=>?_
 obtain ⟨n,_,rfl⟩:=List.mem_map.mp hd
 rfl
theorem ints_DV {H:Hp} {p:Addr} {ns:List Int} (h:H p=some (.lst (ns.map V.int))):DV H (.ref p) (.list (ns.map PyData.int)):=.lst h (DVs.ints ns)
theorem Deck.not_tup {F:Addr->Prop} {H:Hp} {a b:Addr} {xs:List V} (h:Deck F H a) (hb:H b=some (.tup xs)):¬ F b:=fun z=>by
 obtain ⟨p,qs,n,h1,h2,h3,h4,h5,h6⟩:=h.ex
 rcases (h6 b).mp z with rfl | rfl | z
 ·rw [h1] at hb;cases hb
 ·rw [h2] at hb;cases hb
 ·obtain ⟨c,f,m,e⟩:=h5 b z
  rw [e] at hb;cases hb
end L2
end
section
namespace L2
open PySem PySem.Spec PyProof.Rows
section
variable {X:Cx} {pins:List (Addr×Obj)} {σ:List (Option V)} {H:Hp} {s:Shared} {h':Heap}
theorem Inv.turnedL {t':Nat} {ch:List Addr} (I:Inv X pins σ H s) (hch:∀ b∈ch,FpOk X pins H b) (k:∀ b o,b ∉ ch->s.heap.get? b=some o->h'.get? b=some o):Inv X pins σ H { s with heap:=h',toks:=t' }:=by
 have nit:∀ b u,H b=some u->b ∉ ch:=fun b u e z=>by rw [(hch b z).1] at e;cases e
 refine I.step (g':=s.gens) (d':=s.drawn) (ch:=ch) (fun b hb=>?_) (fun b o _ _ hc e _=>k b o hc e) (fun b o _ _ hc e _=>⟨o.slots,k b o hc e⟩) (fun _ _ _ _ n=>n)
  (fun b o hc e=>⟨o,k b o hc e⟩) (fun _ _ e=>e) (fun _ _ _ e=>e) (fun b ps e=>⟨#[],by rw [e];simp⟩) (fun m hm=>?_) (fun b u e=>?_) I.bare
 ·obtain ⟨_,q1,_,q3,q4,q5⟩:=hch b hb
  exact ⟨q3,q1,q4,q5⟩
 ·obtain ⟨o,es,ep,ho,r⟩:=hm
  exact ⟨o,es,ep,k _ o (fun z=>(hch _ z).2.1 rfl) ho,r⟩
 ·refine (I.hok b u e).stay (fun c v hc q=>k c v ?_ q) (fun _ q=>q) fun _ _ q=>q
  rcases hc with z | z
  ·rw [z];exact nit b u e
  ·exact nit c _ z
theorem Inv.turnLaid {t':Nat} {ch:List Addr} {a:Addr} {o':HO} (I:Inv X pins σ H s) (hch:∀ b∈ch,FpOk X pins H b) (k:∀ b o,b ∉ ch->s.heap.get? b=some o->h'.get? b=some o)
  (hp:s.heap.objs.size<=a) (new:ObjOk X.prog X.w (upd H a o') h' a o'):Inv X pins σ (upd H a o') { s with heap:=h',toks:=t' }:=by
 have nit:∀ b u,H b=some u->b ∉ ch:=fun b u e z=>by rw [(hch b z).1] at e;cases e
 have ha:H a=none:=I.hok.fresh hp
 have na:∀ b o,s.heap.get? b=some o->b≠a:=fun b o e z=>absurd (Nat.lt_of_lt_of_le (Heap.lt_size e) hp) (by rw [z];exact Nat.lt_irrefl _)
 refine I.step (g':=s.gens) (d':=s.drawn) (ch:=ch) (fun b hb=>?_) (fun b o _ _ hc e _=>k b o hc e) (fun b o _ _ hc e _=>⟨o.slots,k b o hc e⟩) (fun b o _ e n=>by rw [upd_ne (na b o e)];exact n)
  (fun b o hc e=>⟨o,k b o hc e⟩) (fun b xs e=>by rw [upd_ne (ne_of_none e ha)];exact e) (fun b o u e=>by rw [upd_ne (ne_of_none e ha)];exact e) (fun b ps e=>⟨#[],by rw [upd_ne (ne_of_none e ha),e];simp⟩) (fun m hm=>?_) (fun b u e=>?_) I.bare
 ·obtain ⟨_,q1,_,q3,q4,q5⟩:=hch b hb
  exact ⟨q3,q1,q4,q5⟩
 ·obtain ⟨o,es,ep,ho,r⟩:=hm
  exact ⟨o,es,ep,k _ o (fun z=>(hch _ z).2.1 rfl) ho,r⟩
 ·by_cases hb:b=a
  ·subst hb
   rw [upd_same] at e
   cases e
   exact new
  ·rw [upd_ne hb] at e
   refine (I.hok b u e).stay (fun c v hc q=>k c v ?_ q) (fun c q=>by rw [upd_ne (ne_of_none q ha)];exact q) fun c xs q=>by rw [upd_ne (ne_of_none q ha)];exact q
   rcases hc with z | z
   ·rw [z];exact nit b u e
   ·exact nit c _ z
end
def Ite (K:PySem.W.Frag) (a:Addr):It:=
 ⟨fun i H=>∃ xs x,SqL K H a xs/\xs[i]? = some x,fun i H x H'=>∃ t y,(∀ xs,SqL K H a xs->xs[i]? = some y)/\H t=none/\x = .ref t/\H'=upd H t (.tup [.int (i:Nat),y]),fun i H=>∃ xs,SqL K H a xs/\xs.length<=i⟩
theorem turn_enum {P:Program} {w:World} {K:PySem.W.Frag} {es:List Expr} {k:Nat} {pos:Pos} (a it e:Addr) (hne:e≠it):Turn P w K (.Tuple es k pos) (Ite K a) [e,it] e (fun i h=>(∃ old,IsEnum h e it (i:Nat) old)/\h.IsListIter it a i) where
 mem:=by simp
 obj:=fun i h st b hb=>by
  obtain ⟨⟨old,he⟩,o,ho,c,d⟩:=st
  have hb':b=e\/b=it:=by simpa using hb
  rcases hb' with rfl | rfl
  ·exact ⟨_,he,fun v z=>by cases z⟩
  ·exact ⟨o,ho,fun v z=>by rw [d] at z;cases z⟩
 keep:=fun i h h' st k=>⟨let ⟨old,he⟩:=st.1;⟨old,k e (by simp) _ he⟩,st.2.at fun o e=>k it (by simp) o e⟩
 item:=by
  intro X hP hw hK hc i pins s σ H E I hf st hg
  subst hP hw hK
  obtain ⟨xs,x,hq,hx⟩:=hg
  obtain ⟨its,rv,p,hz⟩:=I.list hq
  obtain ⟨u,hu,ru⟩:=rv.get hx
  obtain ⟨⟨old,he⟩,hit⟩:=st
  have helt:e < s.heap.objs.size:=Heap.lt_size he
  have hilt:it < s.heap.objs.size:=by obtain ⟨_,x,_⟩:=hit;exact Heap.lt_size x
  have fT:=I.fresh
  refine wpAny_pyNext_enum_item he hit p.isList (x:=u) (by simpa using hu) hne fun h' ho hit' hT hsz hk=>⟨_,rfl,?_⟩
  refine wpAny_letOwnedTupleGo_enum ho fun h2 he2 hs2=>?_
  have hs2:Heap.SameBut e h' h2:=hs2
  have up:∀ b o,b ∉ [e,it]->s.heap.get? b=some o->h2.get? b=some o:=fun b o hb ee=>by
   have h1:b≠e:=fun z=>hb (by simp [z])
   have h2':b≠it:=fun z=>hb (by simp [z])
   exact (hs2.2 b h1).trans (hk b o h1 h2' ee)
  have hT2:h2.get? s.heap.objs.size=some { cls:=.type "tuple",data:=.seq #[.int (i:Nat) s.toks,u] }:=(hs2.2 _ (Nat.ne_of_gt helt)).trans hT
  refine ⟨.ref s.heap.objs.size,upd H s.heap.objs.size (.tup [.int (i:Nat),x]),?_,rfl,⟨_,x,fun ys hy=>by rw [I.list_inj hy hq];exact hx,fT,rfl,rfl⟩,⟨⟨_,by simpa using he2⟩,hit'.at fun o y=>(hs2.2 it hne.symm).trans y⟩,fun b hb=>?_⟩
  ·exact I.turnLaid (t':=s.toks+1) hf up (Nat.le_refl _) ⟨Nat.le_of_ble_eq_true rfl,[.int (i:Nat) s.toks,u],.cons ⟨_,rfl⟩ (.cons ru .nil),⟨_,hT2,rfl,0,rfl⟩⟩
  ·have hb':b=e\/b=it:=by simpa using hb
   rcases hb' with rfl | rfl
   ·rw [upd_ne (Nat.ne_of_lt helt)];exact (hf _ hb).1
   ·rw [upd_ne (Nat.ne_of_lt hilt)];exact (hf _ hb).1
 done:=by
  intro X hP hw hK hc i pins s σ H E I hf st hg
  subst hP hw hK
  obtain ⟨xs,hq,hx⟩:=hg
  obtain ⟨its,rv,p,hz⟩:=I.list hq
  have hl:=rv.length
  obtain ⟨⟨old,he⟩,hit⟩:=st
  exact wpAny_pyNext_enum_end (I.ok.hd hc) he hit p.isList (by simp;omega) fun h' eb=>⟨rfl,I.turnedL (t':=s.toks) hf fun b o hb e'=>eb b o (fun z=>hb (by simp [z])) e'⟩
 self:=fun _ _ _ _ _ st h=>let ⟨_,he⟩:=st.1;wpAny_pyIter_enum he h
section
variable {X:Cx} {p pos tpos:Pos} {a b:Expr} {es:List Expr} {tk:Nat}
def iEnum (K:PySem.W.Frag) (ta:TA):TI:=fun σ H R=>ta σ H fun vs H1=>match vs with
 | [.ref l]=>(∃ xs,SqL K H1 l xs)/\R (Ite K l) H1
 | _=>False
theorem it_enum {ta:TA} {mg':Str->Option Value} (hm:mg' "enumerate" = none) (hX:X.mg=mg') (ha:PA X [a] ta) (hg:gB X "enumerate" = true:=by kernel_rfl) (hs:starEach [a] X.env=[(false,eval a X.env)]:=by kernel_rfl) :
  PI X (.Tuple es tk tpos) (.Call (.Name "enumerate" p) [a] [] pos) (iEnum X.K ta):=by
 intro pins s σ H R I h
 refine Call_ (ld_blt I (gl_of hg) (by rw [hX];exact hm) boot_enumerate (PyProof.Rows.callWith_type1 (thn (ha pos pins s σ H _ I h) fun us s1 ⟨vs,H1,I1,r1,q1⟩=>?_) hs rfl))
 dsimp only at q1
 split at q1
 ·rename_i l
  obtain ⟨⟨xs,hq⟩,q⟩:=q1
  obtain ⟨u,rfl,r⟩:=vals1 r1
  cases r
  obtain ⟨its,rv,pl,hz⟩:=I1.list hq
  refine call_enumerate_list pl.isList fun h' hE hI hsz hk=>wpAny_pyIter_enum hE ?_
  refine ⟨s1.heap.objs.size+1,[s1.heap.objs.size+1,s1.heap.objs.size],_,_,H1,rfl,I1.kept (t':=s1.toks) hk,turn_enum l s1.heap.objs.size (s1.heap.objs.size+1) (Nat.succ_ne_self _),⟨⟨_,hE⟩,hI⟩,fun c hc=>?_,q⟩
  have hb':c=s1.heap.objs.size+1\/c=s1.heap.objs.size:=by simpa using hc
  have hle:s1.heap.objs.size<=c:=by rcases hb' with rfl | rfl<;>first | exact Nat.le_refl _ | exact Nat.le_add_right _ _
  exact I1.fpOk hle (I1.hok.fresh hle)
 ·exact q1.elim
structure ItPr (J:It) (n:Nat) (row:Nat->List V) (ok:Hp->Prop):Prop where
 stop:∀ H,ok H->J.stop n H
 go:∀ i H,ok H->i < n->J.go i H
 yld:∀ i H x H',ok H->i < n->J.yld i H x H'->∃ t,H t=none/\x = .ref t/\H'=upd H t (.tup (row i))
theorem for_pr {J:It} {n:Nat} {row:Nat->List V} {ok:Hp->Prop} {g:TG} {tb:TS} {D:Ends} {σ:St} {H:Hp} (IO:ItPr J n row ok) (Pv:Nat->St->Hp->Prop) (h0:Pv 0 σ H) (hl:∀ i σ H,i<=n->Pv i σ H->ok H)
  (hs:∀ i t σ H,i < n->Pv i σ H->H t=none->g (.ref t) σ (upd H t (.tup (row i))) fun σ2 H2=>tb { D with nx:=Pv (i+1),ct:=Pv (i+1),bk:=D.nx } σ2 H2) (hd:∀ σ H,Pv n σ H->D.nx σ H) :
  ∃ W:Nat->Nat->St->Hp->Prop,(∃ m,W 0 m σ H)/\∀ i m σ H,W i m σ H →
   (J.stop i H/\D.nx σ H)\/(J.go i H/\∃ N:St->Hp->Prop,(∀ σ' H',N σ' H'->∃ m',m' < m/\W (i+1) m' σ' H')/\∀ x H',J.yld i H x H'->g x σ H' fun σ2 H2=>tb { D with nx:=N,ct:=N,bk:=D.nx } σ2 H2):=by
 refine ⟨fun i m σ H=>m=n - i/\i<=n/\Pv i σ H,⟨n,by simp,Nat.zero_le _,h0⟩,?_⟩
 rintro i m σ H ⟨rfl,hi,p⟩
 have q:=hl i σ H hi p
 by_cases hlt:i < n
 ·refine .inr ⟨IO.go i H q hlt,Pv (i+1),fun σ' H' p'=>⟨n - (i+1),by omega,rfl,hlt,p'⟩,fun x H' y=>?_⟩
  obtain ⟨t,ht,rfl,rfl⟩:=IO.yld i H x H' q hlt y
  exact hs i t σ _ hlt p ht
 ·have e:i=n:=by omega
  subst e
  exact .inl ⟨IO.stop H q,hd σ H p⟩
theorem it_enumP (K:PySem.W.Frag) (a:Addr) (xs:List V):ItPr (Ite K a) xs.length (fun i=>[.int (i:Nat),xs.getD i .non]) fun H=>H a=some (.lst xs):=
 ⟨fun H h=>⟨xs,SqL.of h,Nat.le_refl _⟩,fun i H h hi=>⟨xs,xs[i],SqL.of h,by simp [hi]⟩,fun i H x H' h hi y=>by
  obtain ⟨t,y',hq,ht,e1,e2⟩:=y
  have hy:=hq xs (SqL.of h)
  have e3:xs.getD i .non=y':=by rw [List.getD_eq_getElem?_getD,hy];rfl
  exact ⟨t,ht,e1,by rw [e2,e3]⟩⟩
end
end L2
end
section
namespace L2
open PySem PySem.Spec PyProof.Rows
section
variable {X:Cx} {a b c d e o:Expr} {es:List Expr} {pos apos:Pos} {ta tb tc td te to:TE}
def tChainT (r r':R2) (ta tb tc:TE):TT:=fun σ H Q=>ta σ H fun x H1=>tb σ H1 fun y H2=>r x y H2 fun z H3=>match z with
 | .bl k=>if k=true then tc σ H3 fun w' H4=>r' y w' H4 fun z' H5=>match z' with
   | .bl k'=>Q k' H5
   | _=>False
  else Q false H3
 | _=>False
theorem t_chain {op op':CmpOp} {r r':R2} (ho:OpR X (compareOp op) r) (ho':OpR X (compareOp op') r') (ha:PE X a ta) (hb:PE X b tb) (hc:PE X c tc)
  (hm:lastMarks [op,op'] [b,c]=false:=by kernel_rfl):PT X (.Compare a [op,op'] [b,c] pos) (tChainT r r' ta tb tc):=by
 intro pins s σ H Q I h
 refine isTrue_chain (thn (ha pins s σ H _ I h) fun v s1 ⟨x,H1,I1,r1,q1⟩=>test_link (thn (hb pins s1 σ H1 _ I1 q1) fun u s2 ⟨y,H2,I2,r2,q2⟩=>
  thn (ho pins s2 σ H2 x y v u _ I2 r1 r2 q2) fun d s3 ⟨z,H3,I3,r3,q3⟩=>?_)) hm
 dsimp only at q3
 split at q3
 ·rename_i k
  cases r3
  refine wpAny_truthy_bool ?_
  cases k with
  | false=>exact ite_ff ⟨H3,I3,q3⟩
  | true=>
   refine ite_tt (test_last (thn (hc pins s3 σ H3 _ I3 q3) fun w' s4 ⟨z',H4,I4,r4,q4⟩=>thn (ho' pins s4 σ H4 y z' u w' _ I4 r2 r4 q4) fun d' s5 ⟨z5,H5,I5,r5,q5⟩=>?_))
   obtain ⟨k',e,q5⟩:=bu_of q5
   subst e
   cases r5
   exact wpAny_truthy_bool ⟨H5,I5,q5⟩
 ·exact q3.elim
def rIsU:R2:=fun x y H Q=>match y with
 | .non=>Q (.bl (decide (x = .non))) H
 | .bl b=>match x with
  | .bl a=>Q (.bl (a == b)) H
  | _=>False
 | _=>False
theorem op_isU:OpR X (compareOp .Is) rIsU:=(op_isN.or op_isB).of fun x y H Q q=>by
 unfold rIsU at q
 split at q
 ·exact .inl ⟨rfl,q⟩
 ·split at q
  ·exact .inr q
  ·exact q.elim
 ·exact q.elim
theorem mt_count:MtM X "str.count" (fun x vs H Q=>match x,vs with
  | .str z,[.str y]=>Q (.int (Txt.count z y)) H
  | _,_=>False):=by
 intro pins s σ H x vs v us Q I rx rv h
 split at h
 ·obtain ⟨t,rfl⟩:=rx
  obtain ⟨u,rfl,t',rfl⟩:=rv.one
  exact SC.count ⟨.int _,H,I.tok _,⟨_,rfl⟩,h⟩
 ·exact h.elim
def rCount:V->List V->Hp->VK->Prop:=fun x vs H Q=>match x,vs with
  | .str z,[.str y]=>Q (.int (Txt.count z y)) H
  | _,_=>False
theorem m_count {cpos:Pos} {t:TA} (ho:PE X o to) (ha:PA X (e :: es) t)
  (hbase:attributeBase o "count" X.env (eval o X.env)=eval o X.env:=by kernel_rfl)
  (hfew:((backTo cpos (starEach (e :: es) X.env)).all (fun x=>!x.1) && (backToKw cpos (keywordEach [] X.env)).all (fun x=>x.1.isSome)
   && decide ((e :: es).length+([]:List Keyword).length+(if ([]:List Keyword).isEmpty then 0 else 1) < 30))=true:=by kernel_rfl)
  (hline:(apos.endLine == cpos.line)=true:=by kernel_rfl) (hs:starEach (e :: es) X.env=(false,eval e X.env) :: starEach es X.env:=by kernel_rfl) (hplain:(backTo cpos (starEach es X.env)).any (·.1)=false:=by kernel_rfl) :
  PE X (.Call (.Attribute o "count" apos) (e :: es) [] cpos) (tMt "str" rCount to t):=pe_mt PySem.F.plainAttrs_str PySem.F.slot_str_count PySem.F.type_str_count mt_count ho ha hbase hfew hline hs hplain
end
theorem comp_pick {J:It} {D:Addr} {xs:List V} {ok:Hp->Prop} {tt:TT} {te:TE} {Q:Hp->Prop} {v0:Option V} {fr:St} {H:Hp} (IO:ItOk J xs ok) (f:V->Bool) (hz:xs.length<=sizeLine) (hok:∀ o,ok (upd H D o))
  (ht:∀ (i:Nat) (x:V) (ys:List V),xs[i]? = some x->∀ C:Bool->Hp->Prop,C (f x) (upd H D (.lst ys))->tt (some x :: fr) (upd H D (.lst ys)) C)
  (hs:∀ (i:Nat) (x:V) (ys:List V),xs[i]? = some x->∀ C:VK,C x (upd H D (.lst ys))->te (some x :: fr) (upd H D (.lst ys)) C)
  (hd:Q (upd H D (.lst (xs.filter f)))) :
  ∃ W:Nat->Nat->St->Hp->List V->Prop,(∃ m,W 0 m (v0 :: fr) (upd H D (.lst [])) [])/\∀ i m τ H2 ys,W i m τ H2 ys->H2 D=some (.lst ys) ∧
   ((J.stop i H2/\Q H2)\/(J.go i H2/\ys.length < sizeLine/\∃ N:St->Hp->List V->Prop,(∀ τ' H' ys',N τ' H' ys'->∃ m',m' < m/\W (i+1) m' τ' H' ys')/\∀ x H3,J.yld i H2 x H3->gName 0 x τ H3 fun τ4 H4=>tt τ4 H4 fun b H5=>
    if b=true then te τ4 H5 fun y H6=>H6 D=some (.lst ys)/\N τ4 (upd H6 D (.lst (ys++[y]))) (ys++[y])
    else N τ4 H5 ys)):=by
 refine comp_by IO (fun i τ H2 ys=>(∃ v,τ=v :: fr)/\H2=upd H D (.lst ys)/\ys=(xs.take i).filter f/\i<=xs.length) hz ⟨⟨v0,rfl⟩,rfl,rfl,Nat.zero_le _⟩ ?_ ?_ ?_
 ·rintro i τ H2 ys hi ⟨_,rfl,rfl,_⟩
  refine ⟨hok _,upd_same,?_⟩
  have h1:=List.length_filter_le f (xs.take i)
  have h2:(xs.take i).length<=i:=by simp [List.length_take];omega
  omega
 ·rintro i x τ H2 ys hi hx ⟨⟨v,rfl⟩,rfl,rfl,_⟩
  refine ht i x _ hx _ ?_
  have e:(xs.take (i+1)).filter f=(xs.take i).filter f++(if f x=true then [x] else []):=by
   rw [List.take_add_one,hx,List.filter_append]
   congr 1
   show List.filter f [x]=_
   rw [List.filter_cons]
   rfl
  by_cases hf:f x=true
  ·rw [if_pos hf] at e ⊢
   refine hs i x _ hx _ ⟨upd_same,⟨_,rfl⟩,upd_upd,?_,hi⟩
   rw [e]
  ·rw [if_neg hf] at e ⊢
   refine ⟨⟨_,rfl⟩,rfl,?_,hi⟩
   rw [e,List.append_nil]
 ·rintro τ H2 ys ⟨_,rfl,rfl,_⟩
  rw [List.take_length]
  exact hd
abbrev At (a:Addr):Addr->Prop:=fun b=>b=a
def Sto (H:Hp) (a:Addr):Prop:=∃ g b c:Int,H a=some (.lst [.int g,.int b,.int c])
section
variable {H H' G:Hp} {a p:Addr} {o:HO}
theorem Sto.same (h:Sto H a) (k:Same H H'):Sto H' a:=let ⟨g,b,c,e⟩:=h;⟨g,b,c,k _ _ e⟩
theorem Sto.own (h:Sto H a) (hp:p≠a):Sto (upd H p o) a:=let ⟨g,b,c,e⟩:=h;⟨g,b,c,by rw [upd_ne (Ne.symm hp)];exact e⟩
theorem Sto.ne (h:Sto H a) (hp:H p=none):p≠a:=fun z=>by obtain ⟨g,b,c,e⟩:=h;rw [<-z,hp] at e;cases e
theorem Sto.new (h:Sto H a) (hp:H p=none):Sto (upd H p o) a:=h.own (h.ne hp)
theorem Off.freeS (h:Off (At a) H H') (d:Sto H' a) (hp:H' p=none):H p=none:=by
 cases e:H p with
 | none=>rfl
 | some u=>
  have hf:¬ At a p:=d.ne hp
  rw [h _ _ e hf] at hp;cases hp
theorem Same.own (h:Same G H) (hG:G p=none):Same G (L2.upd H p o):=fun b u e=>by rw [upd_ne (ne_of_none e hG)];exact h b u e
theorem Sto.tup {xs:List V} (h:Sto H a) (hp:H p=some (.tup xs)):p≠a:=fun z=>by obtain ⟨g,b,c,e⟩:=h;rw [<-z,hp] at e;cases e
end
end L2
end
section
namespace L2
open PySem PySem.Spec PyProof.Rows
section
variable {G H0 H H':Hp} {a p:Addr} {o:HO}
end
end L2
end
section
namespace L2
open PySem PySem.Spec PyProof.Rows
def pairD (x:Nat×Nat):PyData:=.tuple [.int (x.1:Nat),.int (x.2:Nat)]
theorem DVs.take {H:Hp}:∀ {xs:List V} {ds:List PyData} (n:Nat),DVs H xs ds->DVs H (xs.take n) (ds.take n)
 | _,_,0,_=>.nil
 | _,_,_+1,.nil=>.nil
 | _,_,n+1,.cons h r=>.cons h (DVs.take n r)
section
variable {G H0 H:Hp} {L p:Addr} {vs:List V} {o:HO}
end
end L2
end
section
namespace L2
open PySem PySem.Spec PyProof.Rows
section
variable {H H':Hp} {a l:Addr}
end
section
variable {G H H2 H3:Hp} {a T U L p:Addr} {xs ys:List Int} {vs:List V} {ps:List (Nat×Nat)} {m:Nat} {o:HO}
end
end L2
end
section
namespace Om
end Om
namespace L2
open PySem PySem.Spec PyProof.Rows
theorem bits_iff {i:Int} {k:Nat} (h0:0<=i):((Builtin.Int.intBits i:Nat):Int)<=(k:Int)↔i < 2 ^ k:=by
 constructor
 ·intro h
  unfold Builtin.Int.intBits at h
  by_cases hi:i=0
  ·subst hi
   have:(0:Nat) < 2 ^ k:=Nat.two_pow_pos k
   exact_mod_cast this
  ·have hb:(i == 0)=false:=by simpa using hi
   rw [hb] at h
   simp only [Bool.false_eq_true,if_false] at h
   have hn:i.natAbs≠0:=by omega
   have h1:Nat.log2 i.natAbs < k:=by omega
   have h2:=(Nat.log2_lt hn).mp h1
   have e:((i.natAbs:Nat):Int)=i:=by omega
   have:((i.natAbs:Nat):Int) < ((2 ^ k:Nat):Int):=by exact_mod_cast h2
   rw [e] at this
   simpa using this
 ·exact bits_le h0
end L2
end
section
namespace L2
open PySem PySem.Spec PyProof.Rows
theorem rowD_lay (r:List Bool×Nat):(rowD r).canLay0=true:=tupD_lay r.1 r.2
theorem rowD_depth (r:List Bool×Nat):(rowD r).depth<=1:=by
 rw [rowD,PyData.depth]
 have:=depth_all (k:=0) (ds:=[.str (bs r.1),.int (r.2:Nat)]) (fun d hd=>by
  rcases List.mem_cons.mp hd with rfl | hd
  ·exact Nat.le_refl _
  ·rw [List.mem_singleton.mp hd];exact Nat.le_refl _)
 omega
theorem stateD_lay (st:List (List Bool×Nat)):(stateD st).canLay0=true:=by
 rw [stateD,PyData.canLay0]
 refine lay_all fun d hd=>?_
 obtain ⟨r,_,rfl⟩:=List.mem_map.mp hd
 exact rowD_lay r
theorem stateD_depth (st:List (List Bool×Nat)):(stateD st).depth<=2:=by
 rw [stateD,PyData.depth]
 have:=depth_all (k:=1) (ds:=st.map rowD) (fun d hd=>by
  obtain ⟨r,_,rfl⟩:=List.mem_map.mp hd
  exact rowD_depth r)
 omega
theorem states_lay (rows:Om.Rows):PyData.canLay0 (.list (rows.map stateD))=true:=by
 rw [PyData.canLay0]
 refine lay_all fun d hd=>?_
 obtain ⟨r,_,rfl⟩:=List.mem_map.mp hd
 exact stateD_lay r
theorem states_depth (rows:Om.Rows):PyData.depth (.list (rows.map stateD))<=3:=by
 rw [PyData.depth]
 have:=depth_all (k:=2) (ds:=rows.map stateD) (fun d hd=>by
  obtain ⟨r,_,rfl⟩:=List.mem_map.mp hd
  exact stateD_depth r)
 omega
theorem codeD_lay (k n:Nat) (rows:Om.Rows):(codeD k n rows).canLay0=true:=by
 rw [codeD,PyData.canLay0]
 refine lay_all fun d hd=>?_
 rcases List.mem_cons.mp hd with rfl | hd
 ·rfl
 rcases List.mem_cons.mp hd with rfl | hd
 ·rfl
 ·rw [List.mem_singleton.mp hd];exact states_lay rows
theorem codeD_shaped (k n:Nat) (rows:Om.Rows):SeqAt.shaped (codeD k n rows)=true:=by
 refine shaped_tup (k:=3) (fun d hd=>?_) (fun d hd=>?_) (by decide)
 ·rcases List.mem_cons.mp hd with rfl | hd
  ·rfl
  rcases List.mem_cons.mp hd with rfl | hd
  ·rfl
  ·rw [List.mem_singleton.mp hd];exact states_lay rows
 ·rcases List.mem_cons.mp hd with rfl | hd
  ·exact Nat.zero_le _
  rcases List.mem_cons.mp hd with rfl | hd
  ·exact Nat.zero_le _
  ·rw [List.mem_singleton.mp hd];exact states_depth rows
theorem codeD_eq (k n:Nat) (rows:Om.Rows):PyData.eqv (codeD k n rows) (codeD k n rows)=true:=SeqAt.eqv_refl _ (codeD_lay k n rows)
section
variable {G H0 H:Hp} {p:Addr}
end
section
variable {G H H':Hp} {a T U p:Addr} {xs ys:List Int} {m:Nat} {o:HO}
end
end L2
end
section
namespace L2
open PySem
def DefIn (K:PySem.W.Frag) (x:Str) (st:Stmt):Prop:=∃ (f:Addr) (oc:Value) (od an:Option Addr) (osl:Array (Option Value)) (kV dc pm cd ct:Value),PySem.W.nsIn K mainGlobals x=some (some (.ref f)) ∧
 K.lookup f=some ⟨oc,od,.func (PySem.W.fnOf x x (defArgs st) (defBody st) (defScope st) .none kV dc pm an cd ct),osl⟩/\PySem.W.codeIn K cd x=true/\PySem.W.keepIn K (.ref f)=true
theorem DefIn.mk {K:PySem.W.Frag} {x:Str} {st:Stmt} {f:Addr} {oc:Value} {od an:Option Addr} {osl:Array (Option Value)} {kV dc pm cd ct:Value} (a:PySem.W.nsIn K mainGlobals x=some (some (.ref f)))
  (l:K.lookup f=some ⟨oc,od,.func (PySem.W.fnOf x x (defArgs st) (defBody st) (defScope st) .none kV dc pm an cd ct),osl⟩) (c:PySem.W.codeIn K cd x=true) (k:PySem.W.keepIn K (.ref f)=true):DefIn K x st:=⟨f,oc,od,an,osl,kV,dc,pm,cd,ct,a,l,c,k⟩
theorem DefIn.fnX {K:PySem.W.Frag} {h:Heap} {mg:Str->Option Value} {x:Str} {st:Stmt} {ps:List Str} (D:DefIn K x st) (X:K.In h) (G:h.Ns mainGlobals mg)
  (hb:∀ (kV doc pm:Value) (an:Option Addr) (cdv ct:Value) (us:List Value),us.length=ps.length->bindArgs (PySem.W.fnOf x x (defArgs st) (defBody st) (defScope st) .none kV doc pm an cdv ct) ⟨us,[]⟩=pure (ps.zip us)):FnX K mg x st ps:=by
 obtain ⟨f,oc,od,an,osl,kV,dc,pm,cd,ct,h1,h2,h3,h4⟩:=D
 have F:=fun_mk (st:=st) h2 h3 h4
 exact ⟨f,_,F,PySem.W.mg_of X G h1,F.binds hb⟩
end L2
end
section
namespace L2
open PySem PySem.Spec PyProof.Rows
def strI (i:Int):Str:=Str.ofString (toString i)
section
variable {X:Cx} {p pos:Pos} {e:Expr} {es:List Expr} {t:TA}
end
end L2
end
section
namespace L2
open PySem PySem.Spec PyProof.Rows
theorem app_len (a b:Str):(a++b).length=a.length+b.length:=by
 show (a.cps++b.cps).size=_
 simp;rfl
end L2
end
section
namespace Om
structure Taps (most:Int) (ts:List Int):Prop where
 ne:1<=ts.length
 few:ts.length<=6
 up:ts.Pairwise (· < ·)
 lo:∀ t∈ts,1<=t
 hi:∀ t∈ts,t<=most
end Om
namespace L2
open PySem PySem.Spec PyProof.Rows
theorem le_lineB {n:Nat} (h:n<=100000):n<=sizeLine:=Nat.le_trans h (by decide)
theorem lt_lineB {n:Nat} (h:n<=100000):n < sizeLine:=Nat.lt_of_le_of_lt h (by decide)
section
variable {F:Addr->Prop} {H0 H H':Hp} {a p:Addr} {ob:HO}
end
end L2
end
section
namespace L2
open PySem PySem.Spec PyProof.Rows
theorem cut_1 (x:V) (xs:List V):cutV (x :: xs) (some 1) none=xs:=by
 unfold cutV
 have e1:HT.sIx (x :: xs).length 0 (some 1)=1:=by
  have:=HT.sIx_nat (x :: xs).length 0 1
  have h2:min 1 (x :: xs).length=1:=by simp
  rw [h2] at this
  exact this
 have e2:HT.sIx (x :: xs).length (x :: xs).length none=(x :: xs).length:=rfl
 rw [e1,e2]
 simp
end L2
end
section
namespace Om
def par (ts:List Int) (f:Nat->Bool) (i:Nat):Bool:=ts.foldr (fun t acc=>xor (decide (0<=(i:Int) - t) && f ((i:Int) - t).toNat) acc) false
def put (x P:List Int):List Int:=(List.range x.length).map fun i=>(x.getD i 0+(if ((i:Nat):Int)∈P then 1 else 0)) % 2
section
variable {most:Int} {ts bits:List Int}
end
end Om
end
section
namespace Om
section
variable {most:Int} {ts bits:List Int}
theorem xor_or {a b:Bool} (h:¬ (a=true/\b=true)):xor a b=(a || b):=by cases a<;>cases b<;>simp_all
theorem rp (tk:Taps most ts) (c:Nat) (i:Nat):xor (decide (i=c)) (decide ((i:Int) - (c:Int)∈ts))=(decide (i=c) || decide ((i:Int) - (c:Int)∈ts)):=xor_or fun ⟨h1,h2⟩=>by
 have h1:=of_decide_eq_true h1
 have:=tk.lo _ (of_decide_eq_true h2)
 omega
end
end Om
namespace L2
open PySem PySem.Spec PyProof.Rows
end L2
end
section
namespace L2
open PySem PySem.Spec PyProof.Rows
section
variable {κ:Type} [DecidableEq κ]
def valV (kvs:List (κ×V)) (k:κ):Option V:=(kvs.find? fun kv=>decide (kv.1=k)).map (·.2)
def putK (kvs:List (κ×V)) (k:κ) (v:V):List (κ×V):=
 if (kvs.any fun kv=>decide (kv.1=k))=true then kvs.map (fun kv=>if kv.1=k then (kv.1,v) else kv) else kvs++[(k,v)]
def dropK (kvs:List (κ×V)) (k:κ):List (κ×V):=kvs.filter fun kv=>decide (kv.1≠k)
theorem valV_pos {p:κ×V} {r:List (κ×V)} {k:κ} (e:p.1=k):valV (p :: r) k=some p.2:=by simp [valV,List.find?_cons,e]
theorem valV_neg {p:κ×V} {r:List (κ×V)} {k:κ} (e:¬ p.1=k):valV (p :: r) k=valV r k:=by simp [valV,List.find?_cons,e]
theorem valV_any (k:κ):∀ kvs:List (κ×V),(kvs.any fun kv=>decide (kv.1=k))=(valV kvs k).isSome
 | []=>rfl
 | p :: r=>by
  rw [List.any_cons]
  by_cases e:p.1=k
  ·simp only [valV_pos e,decide_eq_true e,Bool.true_or,Option.isSome_some]
  ·rw [valV_neg e,decide_eq_false e,Bool.false_or];exact valV_any k r
theorem valV_map (k j:κ) (y:V):∀ kvs:List (κ×V),valV (kvs.map fun kv=>if kv.1=k then (kv.1,y) else kv) j=(valV kvs j).map fun x=>if j=k then y else x
 | []=>rfl
 | p :: r=>by
  have ih:=valV_map k j y r
  rw [List.map_cons]
  by_cases h:p.1=k
  ·rw [if_pos h]
   by_cases e:p.1=j
   ·rw [valV_pos (p:=(p.1,y)) e,valV_pos e,Option.map_some,if_pos (e.symm.trans h)]
   ·rw [valV_neg (p:=(p.1,y)) e,valV_neg e,ih]
  ·rw [if_neg h]
   by_cases e:p.1=j
   ·rw [valV_pos (p:=p) e,valV_pos e,Option.map_some,if_neg (fun z=>h (e.trans z))]
   ·rw [valV_neg (p:=p) e,valV_neg e,ih]
theorem valV_snoc (k j:κ) (y:V):∀ kvs:List (κ×V),valV kvs k=none->valV (kvs++[(k,y)]) j=if j=k then some y else valV kvs j
 | [],_=>by
  by_cases e:k=j
  ·rw [if_pos e.symm];exact valV_pos (p:=(k,y)) e
  ·rw [if_neg (fun z=>e z.symm)];exact valV_neg (p:=(k,y)) e
 | p :: r,hn=>by
  rw [List.cons_append]
  have hk:¬ p.1=k:=fun z=>by rw [valV_pos z] at hn;cases hn
  rw [valV_neg hk] at hn
  have ih:=valV_snoc k j y r hn
  by_cases e:p.1=j
  ·rw [valV_pos e,valV_pos e,if_neg (fun z=>hk (e.trans z))]
  ·rw [valV_neg e,valV_neg e,ih]
theorem valV_put (kvs:List (κ×V)) (k j:κ) (y:V):valV (putK kvs k y) j=if j=k then some y else valV kvs j:=by
 unfold putK
 by_cases a:(kvs.any fun kv=>decide (kv.1=k))=true
 ·rw [if_pos a,valV_map]
  rw [valV_any] at a
  by_cases e:j=k
  ·obtain ⟨x,hx⟩:=Option.isSome_iff_exists.mp a
   rw [if_pos e,e,hx,Option.map_some,if_pos rfl]
  ·rw [if_neg e]
   cases valV kvs j with
   | none=>rfl
   | some x=>rw [Option.map_some,if_neg e]
 ·rw [if_neg a]
  refine valV_snoc k j y kvs ?_
  rw [valV_any] at a
  cases q:valV kvs k with
  | none=>rfl
  | some x=>rw [q] at a;exact (a rfl).elim
theorem length_putK (kvs:List (κ×V)) (k:κ) (v:V):(putK kvs k v).length<=kvs.length+1:=by
 unfold putK
 split
 ·rw [List.length_map];omega
 ·rw [List.length_append,List.length_cons,List.length_nil];omega
theorem putK_new {kvs:List (κ×V)} {k:κ} (v:V) (h:valV kvs k=none):putK kvs k v=kvs++[(k,v)]:=by
 unfold putK
 rw [valV_any,h]
 exact if_neg (by decide)
theorem RelO.isSome_eq {o:Option V} {u:Option Value} (r:RelO o u):o.isSome=u.isSome:=by
 cases o with
 | none=>cases u with
  | none=>rfl
  | some _=>exact (show False from r).elim
 | some _=>cases u with
  | none=>exact (show False from r).elim
  | some _=>rfl
theorem RelO.getD {o:Option V} {u:Option Value} {d:V} {d':Value} (r:RelO o u) (rd:RelV d d'):RelV (o.getD d) (u.getD d'):=by
 cases o with
 | none=>cases u with
  | none=>exact rd
  | some _=>exact (show False from r).elim
 | some _=>cases u with
  | none=>exact (show False from r).elim
  | some _=>exact r
theorem KV.val {kvs:List (κ×V)} {vs:List (κ×Value)} (r:KV kvs vs) (k:κ):RelO (valV kvs k) (valueAt vs k):=by
 unfold KV at r
 induction r with
 | nil=>exact True.intro
 | @cons p q ps qs h t ih=>
  obtain ⟨h1,h2⟩:=h
  by_cases e:p.1=k
  ·have e':q.1=k:=h1.symm.trans e
   have b:valueAt (q :: qs) k=some q.2:=by simp [valueAt,List.find?_cons,e']
   rw [valV_pos e,b];exact h2
  ·have e':¬ q.1=k:=fun z=>e (h1.trans z)
   have b:valueAt (q :: qs) k=valueAt qs k:=by simp [valueAt,List.find?_cons,e']
   rw [valV_neg e,b];exact ih
theorem KV.any {kvs:List (κ×V)} {vs:List (κ×Value)} (r:KV kvs vs) (k:κ):(kvs.any fun kv=>decide (kv.1=k))=vs.any fun kv=>decide (kv.1=k):=by
 unfold KV at r
 induction r with
 | nil=>rfl
 | cons h t ih=>rw [List.any_cons,List.any_cons,ih,h.1]
theorem KV.repl {kvs:List (κ×V)} {vs:List (κ×Value)} (r:KV kvs vs) (k:κ) {y:V} {u:Value} (ry:RelV y u) :
  KV (kvs.map fun kv=>if kv.1=k then (kv.1,y) else kv) (vs.map fun kv=>if kv.1=k then (kv.1,u) else kv):=by
 unfold KV at r ⊢
 induction r with
 | nil=>exact .nil
 | @cons p q ps qs h t ih=>
  rw [List.map_cons,List.map_cons]
  refine .cons ?_ ih
  obtain ⟨h1,h2⟩:=h
  by_cases e:p.1=k
  ·rw [if_pos e,if_pos (h1.symm.trans e)];exact ⟨h1,ry⟩
  ·rw [if_neg e,if_neg (fun z=>e (h1.trans z))];exact ⟨h1,h2⟩
theorem KV.put {kvs:List (κ×V)} {vs:List (κ×Value)} (r:KV kvs vs) (k:κ) {y:V} {u:Value} (ry:RelV y u):KV (putK kvs k y) (stored vs k u):=by
 unfold putK stored
 rw [r.any k]
 by_cases e:(vs.any fun kv=>decide (kv.1=k))=true
 ·rw [if_pos e,if_pos e];exact r.repl k ry
 ·rw [if_neg e,if_neg e];exact Paired.snoc r ⟨rfl,ry⟩
theorem KV.drop {kvs:List (κ×V)} {vs:List (κ×Value)} (r:KV kvs vs) (k:κ):KV (dropK kvs k) (without vs k):=by
 unfold KV at r ⊢
 unfold dropK without
 induction r with
 | nil=>exact .nil
 | @cons p q ps qs h t ih=>
  obtain ⟨h1,h2⟩:=h
  rw [List.filter_cons,List.filter_cons]
  by_cases e:p.1=k
  ·have a:¬ decide (p.1≠k)=true:=by simp [e]
   have b:¬ decide (q.1≠k)=true:=by simp [h1.symm.trans e]
   rw [if_neg a,if_neg b];exact ih
  ·have e':¬ q.1=k:=fun z=>e (h1.trans z)
   have a:decide (p.1≠k)=true:=by simp [e]
   have b:decide (q.1≠k)=true:=by simp [e']
   rw [if_pos a,if_pos b];exact .cons ⟨h1,h2⟩ ih
theorem KV.keys {kvs:List (κ×V)} {vs:List (κ×Value)} (r:KV kvs vs):kvs.map (·.1)=vs.map (·.1):=by
 unfold KV at r
 induction r with
 | nil=>rfl
 | cons h t ih=>rw [List.map_cons,List.map_cons,ih,h.1]
theorem KV.length {kvs:List (κ×V)} {vs:List (κ×Value)} (r:KV kvs vs):kvs.length=vs.length:=Paired.length r
end
theorem kV_is {P:Program} {w:World} {k:Key} {u:Value} (r:RelV (kV k) u):(mixKind P w).is k u=true:=by
 cases k with
 | inl i=>obtain ⟨t,e⟩:=(show ∃ t,u=Value.int i t from r);subst e;exact mixKind_int P w i t
 | inr x=>obtain ⟨t,e⟩:=(show ∃ t,u=Value.str x t from r);subst e;exact mixKind_str P w x t
theorem items_are {P:Program} {w:World}:∀ {ks:List Key} {us:List Value},Vals (ks.map kV) us->ItemsAre (mixKind P w) ks us
 | [],_,r=>by rw [List.map_nil] at r;cases r;exact .nil
 | k :: ks,_,r=>by
  rw [List.map_cons] at r
  cases r with
  | cons h t=>exact .cons (kV_is h) (items_are t)
abbrev KT (H:Hp):List (List Key×V)->List (List Key×Addr×Value)->Prop:=Paired fun p q=>p.1=q.1/\H q.2.1=some (.tup (p.1.map kV))/\RelV p.2 q.2.2
theorem KT.val {H:Hp} {kvs:List (List Key×V)} {xs:List (List Key×Addr×Value)} (r:KT H kvs xs) (k:List Key):RelO (valV kvs k) ((atKey xs k).map (·.2)):=by
 induction r with
 | nil=>exact True.intro
 | @cons p q ps qs h t ih=>
  obtain ⟨h1,_,h2⟩:=h
  by_cases e:p.1=k
  ·have e':q.1=k:=h1.symm.trans e
   have b:atKey (q :: qs) k=some q.2:=by simp [atKey,List.find?_cons,e']
   rw [valV_pos e,b];exact h2
  ·have e':¬ q.1=k:=fun z=>e (h1.trans z)
   have b:atKey (q :: qs) k=atKey qs k:=by simp [atKey,List.find?_cons,e']
   rw [valV_neg e,b];exact ih
theorem KT.repl {H:Hp} {kvs:List (List Key×V)} {xs:List (List Key×Addr×Value)} (r:KT H kvs xs) (k:List Key) {y:V} {u:Value} (ry:RelV y u) :
  KT H (kvs.map fun kv=>if kv.1=k then (kv.1,y) else kv) (xs.map (putAt k u)):=by
 induction r with
 | nil=>exact .nil
 | @cons p q ps qs h t ih=>
  rw [List.map_cons,List.map_cons]
  refine .cons ?_ ih
  obtain ⟨h1,h2,h3⟩:=h
  unfold putAt
  by_cases e:p.1=k
  ·rw [if_pos e,if_pos (h1.symm.trans e)];exact ⟨h1,h2,ry⟩
  ·rw [if_neg e,if_neg (fun z=>e (h1.trans z))];exact ⟨h1,h2,h3⟩
theorem KT.put {H:Hp} {kvs:List (List Key×V)} {xs:List (List Key×Addr×Value)} (r:KT H kvs xs) (k:List Key) {b:Addr} {y:V} {u:Value} (hb:H b=some (.tup (k.map kV))) (ry:RelV y u) :
  KT H (putK kvs k y) (storedH xs k b u):=by
 have e:(kvs.any fun kv=>decide (kv.1=k))=(atKey xs k).isSome:=by
  rw [valV_any,(r.val k).isSome_eq,Option.isSome_map]
 unfold putK storedH
 rw [e]
 by_cases q:(atKey xs k).isSome=true
 ·rw [if_pos q,if_pos q];exact r.repl k ry
 ·rw [if_neg q,if_neg q];exact Paired.snoc r ⟨rfl,hb,ry⟩
theorem KT.keeps {H H':Hp} {kvs:List (List Key×V)} {xs:List (List Key×Addr×Value)} (r:KT H kvs xs) (ht:∀ b ys,H b=some (.tup ys)->H' b=some (.tup ys)):KT H' kvs xs:=
 Paired.mapP r fun _ _ z=>⟨z.1,ht _ _ z.2.1,z.2.2⟩
section
variable {P:Program} {w:World} {H:Hp} {h:Heap} {a:Addr}
theorem rd_of {u:HO} (ok:HOk P w H h) (e:Rd H a u):ObjOk P w H h a u:=e.ok ok
theorem dk_rd {kvs:List (Key×V)} (ok:HOk P w H h) (e:Rd H a (.dK kvs)):kvs.length<=sizeLine/\(a == sysModules)=false/\∃ vs,KV kvs vs/\h.DictOf (mixKind P w) a vs:=
 show ObjOk P w H h a (.dK kvs) from rd_of ok e
theorem dk_of {kvs:List (Key×V)} (ok:HOk P w H h) (e:H a=some (.dK kvs)):kvs.length<=sizeLine/\(a == sysModules)=false/\∃ vs,KV kvs vs/\h.DictOf (mixKind P w) a vs:=dk_rd ok (.inl e)
theorem key_of {ks:List Key} (ok:HOk P w H h) (e:H a=some (.tup (ks.map kV))):(tupleKind (mixKind P w)).is h ks a:=by
 obtain ⟨_,its,r,o,h1,h2,n,h3⟩:=(show ObjOk P w H h a (.tup (ks.map kV)) from ok a _ e)
 exact ⟨o,its.toArray,n,h1,h2,h3,by simpa using items_are r⟩
theorem dt_rd {kvs:List (List Key×V)} (ok:HOk P w H h) (e:Rd H a (.dT kvs)):kvs.length<=sizeLine/\(a == sysModules)=false ∧
  ∃ xs,KT H kvs xs/\h.DictOfH (tupleKind (mixKind P w)) a xs:=by
 obtain ⟨z,y,xs,r,o,es,ep,h1,h2,h3,h4,h5⟩:=(show ObjOk P w H h a (.dT kvs) from rd_of ok e)
 refine ⟨z,y,xs,r,o,es,ep,h1,h2,h3,h4,fun x hx=>?_,h5⟩
 have all:∀ {l:List (List Key×V)} {m:List (List Key×Addr×Value)},KT H l m->∀ x∈m,(tupleKind (mixKind P w)).is h x.1 x.2.1:=by
  intro l m q
  induction q with
  | nil=>intro x hx;exact nomatch hx
  | @cons p q ps qs hq t ih=>
   intro x hx
   rcases List.mem_cons.mp hx with e | hx
   ·subst e
    exact key_of ok (by rw [<-hq.1];exact hq.2.1)
   ·exact ih x hx
 exact all r x hx
theorem dt_of {kvs:List (List Key×V)} (ok:HOk P w H h) (e:H a=some (.dT kvs)):kvs.length<=sizeLine/\(a == sysModules)=false ∧
  ∃ xs,KT H kvs xs/\h.DictOfH (tupleKind (mixKind P w)) a xs:=dt_rd ok (.inl e)
end
def DGet (H:Hp) (a:Addr) (y:V) (r:Option V):Prop:=
 (∃ kvs k,Rd H a (.dK kvs)/\y=kV k/\r=valV kvs k)\/∃ kvs k b,Rd H a (.dT kvs)/\y = .ref b/\H b=some (.tup (k.map kV))/\r=valV kvs k
def DPut (H:Hp) (a:Addr) (y v:V) (H':Hp):Prop:=
 (∃ kvs k,H a=some (.dK kvs)/\y=kV k/\kvs.length < sizeLine/\H'=upd H a (.dK (putK kvs k v))) ∨
 ∃ kvs k b,H a=some (.dT kvs)/\y = .ref b/\H b=some (.tup (k.map kV))/\kvs.length < sizeLine/\H'=upd H a (.dT (putK kvs k v))
theorem DGet.k {H:Hp} {a:Addr} {kvs:List (Key×V)} {k:Key} (e:H a=some (.dK kvs)):DGet H a (kV k) (valV kvs k):=.inl ⟨kvs,k,.inl e,rfl,rfl⟩
theorem DGet.t {H:Hp} {a b:Addr} {kvs:List (List Key×V)} {k:List Key} (e:H a=some (.dT kvs)) (eb:H b=some (.tup (k.map kV))):DGet H a (.ref b) (valV kvs k):=.inr ⟨kvs,k,b,.inl e,rfl,eb,rfl⟩
theorem DPut.k {H:Hp} {a:Addr} {kvs:List (Key×V)} {k:Key} {v:V} (e:H a=some (.dK kvs)) (hl:kvs.length < sizeLine):DPut H a (kV k) v (upd H a (.dK (putK kvs k v))):=.inl ⟨kvs,k,e,rfl,hl,rfl⟩
theorem DPut.t {H:Hp} {a b:Addr} {kvs:List (List Key×V)} {k:List Key} {v:V} (e:H a=some (.dT kvs)) (eb:H b=some (.tup (k.map kV))) (hl:kvs.length < sizeLine) :
  DPut H a (.ref b) v (upd H a (.dT (putK kvs k v))):=.inr ⟨kvs,k,b,e,rfl,eb,hl,rfl⟩
section
variable {X:Cx} {pins:List (Addr×Obj)} {σ:St} {H:Hp} {s:Shared} {a:Addr} {y v:V} {u r:Value} {o:Option V} {A:Around} {E:Value->Shared->Prop}
theorem Inv.big (I:Inv X pins σ H s):sysModules < s.heap.objs.size:=by
 have h:mainGlobals < s.heap.objs.size:=(I.mod.glob.keeps I.bk).lt
 exact Nat.lt_trans (by decide) h
theorem d_getItem {Q:Value->Shared->Prop} (hu:A.units+1 < cLine) (I:Inv X pins σ H s) (g:DGet H a y (some v)) (ry:RelV y u) (h:∀ w' s',Inv X pins σ H s'->RelV v w'->Q w' s') :
  wpAny (model X.prog X.w) A (getItem (.ref a) u) Q E s:=by
 rcases g with ⟨kvs,k,e,ey,l⟩ | ⟨kvs,k,b,e,ey,eb,l⟩
 ·subst ey
  obtain ⟨z,hd,vs,rel,dd⟩:=dk_rd I.hok e
  obtain ⟨w',hw,rw'⟩:=RelO.some_of (v:=v) (o:=valueAt vs k) (by rw [l];exact rel.val k)
  exact wpAny_getItem_of (kV_is ry) dd.mapOf hw (h w' _ (I.tok _) rw')
 ·subst ey
  cases (show u=Value.ref b from ry)
  obtain ⟨z,hd,xs,rel,dd⟩:=dt_rd I.hok e
  obtain ⟨w',hw,rw'⟩:=RelO.some_of (v:=v) (o:=(atKey xs k).map (·.2)) (by rw [l];exact rel.val k)
  obtain ⟨p,hp,hp2⟩:=Option.map_eq_some_iff.mp hw
  refine wpAny_getItem_heap (tupleKind_room_in1 hu) (key_of I.hok eb) dd hp ?_
  rw [hp2]
  exact h w' _ (I.tok _) rw'
theorem d_notIn {Q:Value->Shared->Prop} (hu:A.units+1 < cLine) (I:Inv X pins σ H s) (g:DGet H a y o) (ry:RelV y u) (h:∀ s',Inv X pins σ H s'->Q (.bool (!o.isSome)) s') :
  wpAny (model X.prog X.w) A (compareOp .NotIn u (.ref a)) Q E s:=by
 rcases g with ⟨kvs,k,e,ey,l⟩ | ⟨kvs,k,b,e,ey,eb,l⟩
 ·subst ey
  obtain ⟨z,hd,vs,rel,dd⟩:=dk_rd I.hok e
  refine wpAny_notIn_of (kV_is ry) hd dd.mapOf ?_
  rw [<-(rel.val k).isSome_eq,<-l]
  exact h _ (I.tok _)
 ·subst ey
  cases (show u=Value.ref b from ry)
  obtain ⟨z,hd,xs,rel,dd⟩:=dt_rd I.hok e
  refine wpAny_notIn_heap (tupleKind_room_in1 hu) (key_of I.hok eb) hd dd ?_
  have q:=(rel.val k).isSome_eq
  rw [Option.isSome_map] at q
  rw [<-q,<-l]
  exact h _ (I.tok _)
theorem d_write {h':Heap} {t':Nat} {ob:HO} (I:Inv X pins σ H s) (mu:Mut (H a)) (hs:Heap.SameBut a s.heap h') (he:∃ q,h'.get? a=some q) (new:ObjOk X.prog X.w (upd H a ob) h' a ob) :
  Inv X pins σ (upd H a ob) { s with heap:=h',toks:=t' }:=
 I.write (x:=a) (e:=a) mu (.inl rfl) (fun b q hb z=>(hs.2 b hb).trans z) he new
theorem dk_new {P:Program} {w:World} {H':Hp} {h':Heap} {kvs:List (Key×V)} {vs:List (Key×Value)} (z:kvs.length<=sizeLine) (hd:(a == sysModules)=false) (rel:KV kvs vs) (dd:h'.DictOf (mixKind P w) a vs) :
  ObjOk P w H' h' a (.dK kvs):=⟨z,hd,vs,rel,dd⟩
theorem d_setItem {H':Hp} {Q:Unit->Shared->Prop} (hu:A.units+1 < cLine) (I:Inv X pins σ H s) (g:DPut H a y v H') (ry:RelV y u) (rv:RelV v r) (h:∀ s',Inv X pins σ H' s'->Q () s') :
  wpAny (model X.prog X.w) A (setItem (.ref a) u r) Q E s:=by
 rcases g with ⟨kvs,k,e,ey,l,eH⟩ | ⟨kvs,k,b,e,ey,eb,l,eH⟩
 ·subst ey eH
  obtain ⟨z,hd,vs,rel,dd⟩:=dk_of I.hok e
  have hz:vs.length<=sizeLine:=by rw [<-rel.length];exact z
  have hl:(putK kvs k v).length<=sizeLine:=by have:=length_putK kvs k v;omega
  refine wpAny_setItem_pairs (hsz:=hz) (kV_is ry) dd fun h' dd' hs=>h _ ?_
  have he:∃ q,h'.get? a=some q:=let ⟨q,_,_,hq,_⟩:=dd';⟨q,hq⟩
  exact d_write I (by rw [e];exact True.intro) hs he (dk_new hl hd (rel.put k rv) dd')
 ·subst ey eH
  cases (show u=Value.ref b from ry)
  obtain ⟨z,hd,xs,rel,dd⟩:=dt_of I.hok e
  have hz:xs.length<=sizeLine:=by rw [<-Paired.length rel];exact z
  have hl:(putK kvs k v).length<=sizeLine:=by have:=length_putK kvs k v;omega
  refine wpAny_setItem_heap (hsz:=hz) (tupleKind_room_in1 hu) (key_of I.hok eb) dd fun h' dd' hs=>h _ ?_
  obtain ⟨q,es,ep,hq,h2,h3,h4,_,h5⟩:=dd'
  refine d_write I (by rw [e];exact True.intro) hs ⟨q,hq⟩ ⟨hl,hd,_,(rel.put k eb rv).keeps fun c ys ec=>?_,q,es,ep,hq,h2,h3,h4,h5⟩
  rw [upd_ne (ne_of ec e (fun z=>nomatch z))]
  exact ec
end
section
variable {X:Cx} {pins:List (Addr×Obj)} {σ:St} {H:Hp} {s:Shared} {a:Addr} {kvs:List (Key×V)} {k:Key} {u:Value} {A:Around} {E:Value->Shared->Prop}
end
theorem dict_typeIs {X:Cx} {pins:List (Addr×Obj)} {σ:St} {H:Hp} {s:Shared} {a:Addr} {y:V} {o:Option V} (I:Inv X pins σ H s) (g:DGet H a y o):s.TypeIs (.ref a) "dict" := by
 rcases g with ⟨kvs,k,e,_,_⟩ | ⟨kvs,k,b,e,_,_,_⟩
 ·obtain ⟨_,_,vs,_,dd⟩:=dk_rd I.hok e
  exact dd.typeIs
 ·obtain ⟨_,_,xs,_,dd⟩:=dt_rd I.hok e
  exact dd.typeIs
section
variable {X:Cx} {o i e value:Expr} {pos pos' tpos:Pos} {td ty tv:TE}
end
theorem dk_empty {P:Program} {w:World} {H:Hp} (h:Heap) (hb:sysModules < h.objs.size):ObjOk P w H (h.push { cls:=.type "dict",data:=.dict #[] }) h.objs.size (.dK []):=
 ⟨Nat.zero_le _,beq_eq_false_iff_ne.mpr (Ne.symm (Nat.ne_of_lt hb)),[],.nil,Heap.DictOf.new h⟩
theorem dt_empty {P:Program} {w:World} {H:Hp} (h:Heap) (hb:sysModules < h.objs.size):ObjOk P w H (h.push { cls:=.type "dict",data:=.dict #[] }) h.objs.size (.dT []):=
 ⟨Nat.zero_le _,beq_eq_false_iff_ne.mpr (Ne.symm (Nat.ne_of_lt hb)),[],.nil,_,#[],0,Heap.get?_push_size _ rfl,⟨rfl,rfl,rfl⟩,rfl,rfl,List.nodup_nil⟩
def tDNewK:TE:=fun _ H Q=>∀ p,H p=none->Q (.ref p) (upd H p (.dK []))
section
variable {X:Cx} {pos:Pos}
theorem pe_dnewK:PE X (.Dict [] [] pos) tDNewK:=fun pins s σ H Q I h=>
 wpAny_Dict_empty ⟨.ref s.heap.objs.size,_,I.laid (a:=s.heap.objs.size) (o:=.dK []) (t':=s.toks) (fun _ _ q=>Heap.get?_push_of_some _ q) (Nat.le_refl _) (dk_empty s.heap I.big),rfl,h _ (I.hok.fresh (Nat.le_refl _))⟩
end
section
variable {X:Cx} {pins:List (Addr×Obj)} {σ:St} {H:Hp} {s:Shared} {a:Addr} {y d:V} {u r:Value} {o:Option V} {A:Around} {E:Value->Shared->Prop}
end
section
variable {X:Cx} {o e f:Expr} {apos cpos:Pos} {td ty tx:TE}
end
section
variable {X:Cx} {pins:List (Addr×Obj)} {σ:St} {H:Hp} {s:Shared} {a:Addr} {kvs:List (Key×V)} {A:Around} {E:Value->Shared->Prop}
end
section
variable {X:Cx} {pins:List (Addr×Obj)} {σ:St} {H:Hp} {s:Shared} {a:Addr} {y:V} {u:Value} {A:Around} {E:Value->Shared->Prop}
end
end L2
end
section
namespace L2
open PySem PySem.Spec PyProof.Rows
def tyD:PyData->String
 | .none=>"NoneType"
 | .bool _=>"bool"
 | .int _=>"int"
 | .str _=>"str"
 | .list _=>"list"
 | .tuple _=>"tuple"
 | .dict _=>"dict"
theorem DV.ty {H:Hp} {v:V} {d:PyData} (h:DV H v d):tyN H v=some (tyD d):=by
 cases h with
 | non=>rfl
 | bl b=>rfl
 | int i=>rfl
 | str x=>rfl
 | lst e _=>simp [tyN,e,tyD]
 | tup e _=>simp [tyN,e,tyD]
 | dic e=>simp [tyN,e,tyD]
mutual
def smallD:PyData->Bool
 | .str z=>decide (z.length<=1000)
 | .list xs=>decide (xs.length<=1000) && smallAllD xs
 | .tuple xs=>decide (xs.length<=1000) && smallAllD xs
 | _=>true
def smallAllD:List PyData->Bool
 | []=>true
 | d :: ds=>smallD d && smallAllD ds
end
def leafV:V->Prop
 | .non | .bl _ | .int _ | .str _=>True
 | _=>False
mutual
inductive Tw (H:Hp):Nat->V->V->Prop
 | leaf {n:Nat} {x:V}:leafV x->Tw H n x x
 | dic {n:Nat} {a:Addr}:H a=some (.dK [])->Tw H n (.ref a) (.ref a)
 | lst {n:Nat} {a b:Addr} {xs ys:List V}:H a=some (.lst xs)->H b=some (.lst ys)->Tws H n xs ys->Tw H (n+1) (.ref a) (.ref b)
 | tup {n:Nat} {a b:Addr} {xs ys:List V}:H a=some (.tup xs)->H b=some (.tup ys)->Tws H n xs ys->Tw H (n+1) (.ref a) (.ref b)
inductive Tws (H:Hp):Nat->List V->List V->Prop
 | nil {n:Nat}:Tws H n [] []
 | cons {n:Nat} {x y:V} {xs ys:List V}:Tw H n x y->Tws H n xs ys->Tws H n (x :: xs) (y :: ys)
end
mutual
theorem Tw.mono {H H':Hp} (k:Same H H'):∀ {n:Nat} {x y:V},Tw H n x y->Tw H' n x y
 | _,_,_,.leaf h=>.leaf h
 | _,_,_,.dic h=>.dic (k _ _ h)
 | _,_,_,.lst h h' r=>.lst (k _ _ h) (k _ _ h') (Tws.mono k r)
 | _,_,_,.tup h h' r=>.tup (k _ _ h) (k _ _ h') (Tws.mono k r)
theorem Tws.mono {H H':Hp} (k:Same H H'):∀ {n:Nat} {xs ys:List V},Tws H n xs ys->Tws H' n xs ys
 | _,_,_,.nil=>.nil
 | _,_,_,.cons h r=>.cons (Tw.mono k h) (Tws.mono k r)
end
theorem Tws.length {H:Hp}:∀ {n:Nat} {xs ys:List V},Tws H n xs ys->xs.length=ys.length
 | _,_,_,.nil=>rfl
 | _,_,_,.cons _ r=>by rw [List.length_cons,List.length_cons,r.length]
theorem Tws.app {H:Hp}:∀ {n:Nat} {xs ys xs' ys':List V},Tws H n xs ys->Tws H n xs' ys'->Tws H n (xs++xs') (ys++ys')
 | _,_,_,_,_,.nil,k=>k
 | _,_,_,_,_,.cons h r,k=>.cons h (Tws.app r k)
theorem Tws.get {H:Hp}:∀ {n:Nat} {xs ys:List V} {j:Nat} {x y:V},Tws H n xs ys->xs[j]? = some x->ys[j]? = some y->Tw H n x y
 | _,_,_,0,_,_,.cons h _,e,e'=>by simp at e e';subst e;subst e';exact h
 | _,_,_,j+1,_,_,.cons _ r,e,e'=>Tws.get r (by simpa using e) (by simpa using e')
section
variable {X:Cx} {pins:List (Addr×Obj)} {σ:St} {H:Hp} {s:Shared} {A:Around}
end
section
variable {X:Cx}
end
end L2
end
section
namespace L2
open PySem PySem.Spec PyProof.Rows
namespace Om
def whole:PyData->Bool
 | .int _=>true
 | _=>false
def within (d:PyData) (a b:Int):Bool:=match d with
 | .int i=>decide (a<=i) && decide (i<=b)
 | _=>false
def wordOk (d:PyData) (n:Int):Bool:=match d with
 | .str z=>decide ((z.length:Int)=n) && decide (Txt.stripChars z ("01" : Str)=("" : Str))
 | _=>false
def rowOk (d:PyData) (n count:Int):Bool:=match d with
 | .tuple [x,y]=>wordOk x n && within y 0 (count - 1)
 | _=>false
end Om
def spWholeD:Sp:=fun vs H Q _=>match vs with
 | [v]=>∃ d,DV H v d/\Q (.bl (Om.whole d)) H
 | _=>False
theorem iteN {c:Bool} {A B:Prop} (hc:c=false) (h:B):if c=true then A else B:=by rw [hc];exact h
end L2
end
section
namespace L2
open PySem PySem.Spec PyProof.Rows
section
variable {X:Cx} {p pos:Pos} {e:Expr} {es:List Expr} {t:TA}
end
end L2
end
section
namespace L2
open PySem PySem.Spec PyProof.Rows
section
variable {prog:Program} {w:World} {A:Around} {E:Value->Shared->Prop} {s:Shared}
theorem keyIter {d:Addr} {ep:Nat} {od:Obj} {es:Array DictEntry} {Q:Value->Shared->Prop} (hd:(d == sysModules)=false) (hT:s.TypeIs (.ref d) "dict") (ho:s.heap.get? d=some od) (hdat:od.data = .dict es ep)
  (hQ:Q (.ref s.heap.objs.size) { s with heap:=s.heap.push { cls:=.type "dict_keyiterator",data:=.fields #[.ref d,.int 0 0,.int es.size 0,.int ep 0] } }):wpAny (model prog w) A (pyIter (.ref d)) Q E s:=by
 refine wpAny_pyIter_slot hT F.slot_dict_iter (wpAny_call_entry F.slot_dict_iter hT F.entry_dict_iter ?_ (F.args_dict_iter_1 _))
 unfold Builtin.«dict.__iter__» Builtin.Dict.dictSlotNone
 refine wpAny_bind (wpAny_bind (wpAny_notOrdered_dict hT ?_))
 refine wpAny_pure ?_
 show wpAny _ _ (Builtin.Dict.showsAll d >>= _) _ _ s
 unfold Builtin.Dict.showsAll
 rw [if_neg (by rw [hd];exact Bool.false_ne_true)]
 refine wpAny_bind (wpAny_pure (wpAny_bind (wpAny_dictEntries ho hdat (wpAny_bind (wpAny_dictEpoch ho hdat ?_)))))
 refine wpAny_bind (wpAny_newObj_type (wpAny_pure ⟨_,rfl,"dict_keyiterator",_,⟨_,Heap.get?_push_size _ rfl,rfl⟩,F.slot_dict_keyiterator_next.lookup,?_⟩))
 simpa [rawInt] using hQ
theorem keyNext {it d:Addr} {i ep:Nat} {od:Obj} {es:Array DictEntry} {e:DictEntry} {Q:Option Value->Shared->Prop} (hit:s.heap.IsKeyIter it d i es.size ep) (hod:s.heap.get? d=some od) (hdd:od.data = .dict es ep) (he:es[i]? = some e)
  (hQ:∀ h',h'.IsKeyIter it d (i+1) es.size ep->Heap.SameBut it s.heap h'->Q (some e.key) { s with heap:=h' }):wpAny (model prog w) A (pyNext (.ref it)) Q E s:=by
 obtain ⟨o,ho,hc,hd⟩:=id hit
 unfold pyNext
 refine wpAny_bind (wpAny_attempt (wpAny_callSpecial?_slot (name:=Str.ofString "__next__") hit.typeIs F.slot_dict_keyiterator_next
  (wpAny_call_entry F.slot_dict_keyiterator_next hit.typeIs F.entry_dict_keyiterator_next ?_ (F.args_dict_keyiterator_next_1 _))))
 refine wpAny_bind (wpAny_pure (wpAny_bind (wpAny_bind ?_)))
 first | refine wpAny_bind (wpAny_typeNameOfWhole_keyiter hit.typeIs (wpAny_pure ?_)) | refine wpAny_bind (wpAny_typeNameOf_keyiter hit.typeIs (wpAny_pure ?_))
 refine wpAny_bind (wpAny_fieldsOf ho hd ?_)
 simp only [show Builtin.Dict_items.ownsTuple "dict_keyiterator" = false from by decide,Bool.false_eq_true,if_false]
 show wpAny _ _ (if (Value.ref d == Value.none)=true then _ else _) _ _ s
 rw [if_neg (show ¬ ((Value.ref d == Value.none)=true) from Bool.false_ne_true)]
 refine wpAny_bind (wpAny_pure (wpAny_bind (wpAny_dictEntries hod hdd ?_)))
 rw [if_neg (by simp)]
 refine wpAny_bind (wpAny_pure (wpAny_bind (wpAny_dictEpoch hod hdd ?_)))
 rw [if_neg (by simp)]
 refine wpAny_pure ?_
 simp only [show ¬ ((i:Int) < 0) from by omega,if_false,Int.toNat_natCast,he]
 refine wpAny_bind ?_
 first | refine wpAny_bind (wpAny_typeNameOfWhole_keyiter hit.typeIs (wpAny_pure ?_)) | refine wpAny_bind (wpAny_typeNameOf_keyiter hit.typeIs (wpAny_pure ?_))
 refine wpAny_bind (wpAny_isOneOf_keyiter hit.typeIs ?_)
 show wpAny _ _ (setField (.ref it) 1 (rawInt ((i:Int)+1)) >>= _) _ _ s
 refine wpAny_bind (wpAny_setField ho hd (by simp) ?_)
 have hit':(s.heap.update it (Obj.mapFields (·.setIfInBounds 1 (rawInt ((i:Int)+1))))).IsKeyIter it d (i+1) es.size ep:=
  ⟨_,Heap.get?_update_self _ ho (Obj.isFreed_of_fields (Obj.data_mapFields hd _)),(Obj.cls_mapFields ..).trans hc,by rw [Obj.data_mapFields hd];simp [rawInt]⟩
 refine wpAny_bind (wpAny_holding ?_)
 refine wpAny_bind (wpAny_isOneOf_keyiter (s:={ s with heap:=s.heap.update it (Obj.mapFields (·.setIfInBounds 1 (rawInt ((i:Int)+1)))) }) hit'.typeIs ?_)
 show wpAny _ _ (pure e.key) _ _ _
 exact wpAny_pure (wpAny_pure ⟨_,rfl,wpAny_pure (hQ _ hit' (Heap.SameBut.update ..))⟩)
theorem keyEnd {it d:Addr} {i ep:Nat} {od:Obj} {es:Array DictEntry} {Q:Option Value->Shared->Prop} (hh:A.handled=none) (hit:s.heap.IsKeyIter it d i es.size ep) (hod:s.heap.get? d=some od) (hdd:od.data = .dict es ep) (hge:es.size<=i)
  (hQ:∀ h',Heap.ExtBut it s.heap h'->Q none { s with heap:=h' }):wpAny (model prog w) A (pyNext (.ref it)) Q E s:=by
 obtain ⟨o,ho,hc,hd⟩:=id hit
 unfold pyNext
 refine wpAny_bind (wpAny_attempt (wpAny_callSpecial?_slot (name:=Str.ofString "__next__") hit.typeIs F.slot_dict_keyiterator_next
  (wpAny_call_entry F.slot_dict_keyiterator_next hit.typeIs F.entry_dict_keyiterator_next ?_ (F.args_dict_keyiterator_next_1 _))))
 refine wpAny_bind (wpAny_pure (wpAny_bind (wpAny_bind ?_)))
 first | refine wpAny_bind (wpAny_typeNameOfWhole_keyiter hit.typeIs (wpAny_pure ?_)) | refine wpAny_bind (wpAny_typeNameOf_keyiter hit.typeIs (wpAny_pure ?_))
 refine wpAny_bind (wpAny_fieldsOf ho hd ?_)
 simp only [show Builtin.Dict_items.ownsTuple "dict_keyiterator" = false from by decide,Bool.false_eq_true,if_false]
 show wpAny _ _ (if (Value.ref d == Value.none)=true then _ else _) _ _ s
 rw [if_neg (show ¬ ((Value.ref d == Value.none)=true) from Bool.false_ne_true)]
 refine wpAny_bind (wpAny_pure (wpAny_bind (wpAny_dictEntries hod hdd ?_)))
 rw [if_neg (by simp)]
 refine wpAny_bind (wpAny_pure (wpAny_bind (wpAny_dictEpoch hod hdd ?_)))
 rw [if_neg (by simp)]
 refine wpAny_pure ?_
 simp only [show ¬ ((i:Int) < 0) from by omega,if_false,Int.toNat_natCast,Array.getElem?_eq_none hge]
 refine wpAny_bind ?_
 first | refine wpAny_bind (wpAny_typeNameOfWhole_keyiter hit.typeIs (wpAny_pure ?_)) | refine wpAny_bind (wpAny_typeNameOf_keyiter hit.typeIs (wpAny_pure ?_))
 show wpAny _ _ (setField (.ref it) 0 .none >>= _) _ _ s
 refine wpAny_bind (wpAny_setField ho hd (by simp) ?_)
 show wpAny _ _ (newExc (.type "StopIteration") [] >>= _) _ _ _
 refine wpAny_bind ?_
 simp only [newExc,newTuple]
 refine wpAny_bind (wpAny_newObj_type ?_ (by size_fits))
 refine wpAny_bind (m:=firstArgMember _ _) (wpAny_of_eq (a:=Value.none) (by first | rfl | (simp only [firstArgMember];rfl)) ?_)
 refine wpAny_newObj_type ?_ (by size_fits)
 simp only [raiseNew]
 refine wpAny_bind (wpAny_handled ?_)
 rw [show A.in1.handled=none from hh]
 refine wpAny_bind (wpAny_pure (wpAny_throw ?_))
 refine wpAny_bind (wpAny_isInstance (T:= "StopIteration") (b:=true) ⟨_,Heap.get?_push_size _ rfl,rfl⟩ isSubtype_stop ?_)
 exact wpAny_pure (hQ _ (((Heap.SameBut.update ..).extBut.push _).push _))
end
end L2
end
section
namespace L2
open PySem PySem.Spec PyProof.Rows
section
variable {X:Cx} {pins:List (Addr×Obj)} {σ:St} {H:Hp} {s:Shared} {a:Addr} {u:HO} {o:Obj}
theorem Inv.freeze (I:Inv X pins σ H s) (e:H a=some u) (mu:Mut (some u)) (ho:s.heap.get? a=some o):Inv X pins σ (upd H a (.frz o u)) s:=by
 have nown:∀ c y,H c=some (.own y)->c≠a:=fun c y r z=>by subst z;rw [r] at e;cases e;exact mu
 have ntup:∀ c xs,H c=some (.tup xs)->c≠a:=fun c xs r z=>by subst z;rw [r] at e;cases e;exact mu
 exact I.write (t':=s.toks) (h':=s.heap) (x:=a) (e:=a) (by rw [e];exact mu) (.inl rfl) (fun _ _ _ q=>q) ⟨o,ho⟩
  ⟨ho,(I.hok a u e).stay (fun _ _ _ q=>q) (fun b q=>by rw [upd_ne (nown b a q)];exact q) fun b xs q=>by rw [upd_ne (ntup b xs q)];exact q⟩
theorem Inv.frozen (I:Inv X pins σ H s) (e:H a=some (.frz o u)):s.heap.get? a=some o:=(I.hok a _ e).1
theorem Inv.obj (I:Inv X pins σ H s) (e:H a=some u):∃ o,s.heap.get? a=some o:=by
 have l:=(I.hok a u e).lt
 cases u with
 | lst xs=>obtain ⟨_,_,_,_,q⟩:=I.hok a _ e;exact ⟨_,q⟩
 | dK kvs=>obtain ⟨_,_,_,_,o,_,_,q,_⟩:=I.hok a _ e;exact ⟨_,q⟩
 | dT kvs=>obtain ⟨_,_,_,_,o,_,_,q,_⟩:=I.hok a _ e;exact ⟨_,q⟩
 | tup xs=>obtain ⟨_,_,_,o,q,_⟩:=I.hok a _ e;exact ⟨_,q⟩
 | set S n=>obtain ⟨o,_,_,_,q,_⟩:=I.hok a _ e;exact ⟨_,q⟩
 | ins C dx fs=>obtain ⟨_,_,_,q,_⟩:=I.hok a _ e;exact ⟨_,q⟩
 | own y=>obtain ⟨_,q⟩:=I.hok a _ e;exact ⟨_,q⟩
 | xd fs=>obtain ⟨_,⟨_,_,_,q,_⟩,_⟩:=I.hok a _ e;exact ⟨_,q⟩
 | rng lo hi=>obtain ⟨_,_,_,q⟩:=I.hok a _ e;exact ⟨_,q⟩
 | frz ob u=>obtain ⟨q,_⟩:=I.hok a _ e;exact ⟨_,q⟩
 | tbl ps=>exact ⟨_,I.hok a _ e⟩
 | met f y=>exact ⟨_,I.hok a _ e⟩
 | ext φ=>obtain ⟨_,q,_⟩:=I.hok a _ e;exact q
end
section
variable {X:Cx} {e:Expr} {te:TE} {pos:Pos}
def tRetF (te:TE):TS:=fun D σ H=>te σ H fun x H1=>match x with
 | .ref a=>(∃ u,H1 a=some u/\Mut (some u)/\∀ o,D.rt (.ref a) (upd H1 a (.frz o u)))\/D.rt (.ref a) H1
 | x=>D.rt x H1
theorem s_retF (he:PE X e te):PS X (.Return (some e) pos) (tRetF te):=by
 intro pins s σ H D I h
 refine wpAny_Return_some (thn (he pins s σ H _ I h) fun v s1 ⟨x,H1,I1,r1,q1⟩=>?_)
 cases x with
 | ref a=>
  rcases q1 with ⟨u,e,mu,q⟩ | q
  ·obtain ⟨o,ho⟩:=I1.obj e
   exact ⟨.ref a,σ,_,I1.freeze e mu ho,r1,q o⟩
  ·exact ⟨.ref a,σ,H1,I1,r1,q⟩
 | _=>exact ⟨_,σ,H1,I1,r1,q1⟩
end
abbrev KeysAt (H:Hp):List (List Key×V)->List Addr->Prop:=Paired fun p b=>H b=some (.tup (p.1.map kV))
section
variable {X:Cx} {tg:Expr}
theorem keys_tup {H:Hp} {kvs:List (List Key×V)} {xs:List (List Key×Addr×Value)} (r:KT H kvs xs):KeysAt H kvs (xs.map (·.2.1)):=by
 induction r with
 | nil=>exact .nil
 | cons h _ ih=>exact .cons h.2.1 ih
theorem keys_mix {P:Program} {w:World} {kvs:List (Key×V)}:∀ {es:List DictEntry} {vs:List (Key×Value)},KV kvs vs->Pairs (mixKind P w) es vs->Vals (kvs.map fun p=>kV p.1) (es.map (·.key)):=by
 intro es vs r q
 unfold KV at r
 induction r generalizing es with
 | nil=>cases q;exact .nil
 | @cons p v ps vs' h t ih=>
  cases q with
  | cons h1 h2 h3=>
   refine .cons ?_ (ih h3)
   dsimp only
   rw [h.1]
   rcases keyIs_shape h1 with ⟨i,t,e1,e2⟩ | ⟨x,t,e1,e2⟩
   ·rw [e1,e2];exact ⟨t,rfl⟩
   ·rw [e1,e2];exact ⟨t,rfl⟩
end
end L2
end
section
namespace L2
open PySem PySem.Spec PyProof.Rows
section
variable {X:Cx} {pos:Pos}
def rDGet:R2:=fun x y H Q=>∃ a v,x = .ref a/\DGet H a y (some v)/\Q v H
def rDNotIn:R2:=fun y x H Q=>∃ a o,x = .ref a/\DGet H a y o/\Q (.bl (!o.isSome)) H
def rDPut:V->V->V->Hp->(Hp->Prop)->Prop:=fun o i v H Q=>∃ a H',o = .ref a/\DPut H a i v H'/\Q H'
theorem ix_dict (hu:X.A.units+64 < cLine):IxR X rDGet:=by
 intro value slice pins s σ H x y v u Q I rx ry ⟨a,z,ex,g,q⟩ hs
 subst ex
 obtain rfl:v=Value.ref a:=rx
 have hT:=dict_typeIs I g
 unfold subscriptTail
 refine wpAny_bind ?_
 rw [getitemInPython_of_ne hT.not_modules]
 refine wpAny_bind (wpAny_specialOf hT PySem.F.slot_dict_getitem.lookup ?_)
 have fin:wpAny (model X.prog X.w) X.A (subscripted slice false (.ref a) u) (fun r s₃=>wpAny (model X.prog X.w) X.A (letTemporaryGo value (.ref a) r >>= fun _=>pure r) (EP X pins σ Q) X.xe s₃) X.xe s:=by
  rw [hs]
  exact wpAny_operating (d_getItem (by omega) I g ry fun w' s3 I3 rw'=>wpAny_bind (wpAny_letTemporaryGo (wpAny_pure ⟨z,H,I3,rw',q⟩)))
 first
  | exact wpAny_pure (wpAny_bind fin)
  | exact wpAny_bind (wpAny_pure (wpAny_bind fin))
  | exact wpAny_bind fin
theorem op_notInDict (hu:X.A.units+64 < cLine):OpR X (compareOp .NotIn) rDNotIn:=by
 intro pins s σ H y x u v Q I ry rx ⟨a,o,ex,g,q⟩
 subst ex
 obtain rfl:v=Value.ref a:=rx
 exact d_notIn (by omega) I g ry fun s3 I3=>⟨.bl (!o.isSome),H,I3,rfl,q⟩
theorem set_dict (hu:X.A.units+64 < cLine):PSet X rDPut:=by
 intro pins s σ H o i v ov iv u Q I ro ri rv ⟨a,H',eo,g,q⟩
 subst eo
 obtain rfl:ov=Value.ref a:=ro
 exact d_setItem (by omega) I g ri rv fun s4 I4=>⟨H',I4,q⟩
def rIxD:R2:=fun x y H Q=>rIxU x y H Q\/rDGet x y H Q
def rSetD:V->V->V->Hp->(Hp->Prop)->Prop:=fun o i v H Q=>rSetU o i v H Q\/rDPut o i v H Q
theorem ix_atD {a b:Expr} {ta tb:TE} (hu:X.A.units+64 < cLine) (ha:PE X a ta) (hb:PE X b tb) (hs:∀ o i,subscripted b false o i=operate [o,i] (getItem o i):=by intro _ _;kernel_rfl):PE X (.Subscript a b pos) (tOp rIxD ta tb):=
 pe_ix (ixU.or (ix_dict hu)) ha hb hs
theorem g_subD {o i:Expr} {to ti:TE} (hu:X.A.units+64 < cLine) (ho:PE X o to) (hi:PE X i ti) (ha:∀ v,assign (.Subscript o i pos) X.env v=(do
   let ov <-holding [v] (eval o X.env)
   let iv <-holding [v,ov] (eval i X.env)
   standAt pos
   holding [v,ov,iv] (setItem ov iv v)
   release [v,ov,iv] []):=by intro _;kernel_rfl):PG X (.Subscript o i pos) (gSub to ti rSetD):=
 pg_sub ho hi (fun pins s σ H o i v ov iv u Q I ro ri rv q=>by
  rcases q with q | q
  ·exact setU pins s σ H o i v ov iv u Q I ro ri rv q
  ·exact set_dict hu pins s σ H o i v ov iv u Q I ro ri rv q) ha
end
section
variable {prog:Program} {w:World} {A:Around} {E:Value->Shared->Prop} {s:Shared}
end
section
variable {X:Cx} {pins:List (Addr×Obj)} {σ:St} {H:Hp} {s:Shared} {a:Addr} {A:Around} {E:Value->Shared->Prop}
end
section
variable {X:Cx} {pos:Pos}
end
section
variable {X:Cx} {o e:Expr} {es:List Expr} {to:TE} {t:TA} {apos:Pos}
end
end L2
end
section
namespace L2
open PySem PySem.Spec PyProof.Rows
section
variable {X:Cx} {p pos:Pos} {a b e:Expr} {es:List Expr} {t:TA}
def tFmt (te:TE):TE:=fun σ H Q=>te σ H fun x H1=>match x with
 | .str z=>z.length<=sizeLine/\Q (.str z) H1
 | .int i=>i.natAbs.log2 < 1920/\Q (.str (strI i)) H1
 | _=>False
theorem e_fmt {te:TE} (h:PE X e te):PE X (.FormattedValue e (-1) none pos) (tFmt te):=by
 intro pins s σ H Q I q
 refine FormattedValue_plain (thn (h pins s σ H _ I q) fun u s1 ⟨x,H1,I1,r1,q1⟩=>?_)
 dsimp only at q1
 split at q1
 ·obtain ⟨t,rfl⟩:=r1
  exact formatField_str (fun t' tk=>⟨.str _,H1,I1.tok _,⟨_,rfl⟩,q1.2⟩) q1.1
 ·obtain ⟨t,rfl⟩:=r1
  exact formatField_int_small q1.1 ⟨.str _,H1,I1.tok _,⟨_,rfl⟩,q1.2⟩
 ·exact q1.elim
def tJn:List TE->Str->TE
 | [],acc=>fun _ H Q=>acc.length<=sizeLine/\Q (.str acc) H
 | t :: ts,acc=>fun σ H Q=>t σ H fun x H1=>match x with
  | .str z=>(acc++z).length<=sizeLine/\tJn ts (acc++z) σ H1 Q
  | _=>False
def PJ (X:Cx) (es:List Expr) (ts:List TE):Prop:=∀ (acc:Str) (pins:List (Addr×Obj)) (s:Shared) (σ:St) (H:Hp) (Q:VK),Inv X pins σ H s->tJn ts acc σ H Q →
 wpAny (model X.prog X.w) X.A (joinParts acc (evalEach es X.env)) (EP X pins σ Q) X.xe s
theorem pj_nil:PJ X [] []:=fun acc pins s σ H Q I q=>joinParts_nil ⟨.str _,H,I.tok _,⟨_,rfl⟩,q.2⟩ q.1
theorem pj_cons {te:TE} {ts:List TE} (h:PE X e te) (hr:PJ X es ts):PJ X (e :: es) (te :: ts):=by
 intro acc pins s σ H Q I q
 refine joinParts_cons (rest:=evalEach es X.env) (thn (h pins s σ H _ I q) fun u s1 ⟨x,H1,I1,r1,q1⟩=>?_)
 dsimp only at q1
 split at q1
 ·obtain ⟨t,rfl⟩:=r1
  exact ⟨q1.1,hr _ pins s1 σ H1 Q I1 q1.2⟩
 ·exact q1.elim
theorem e_fstr {ts:List TE} (h:PJ X (a :: b :: es) ts):PE X (.JoinedStr (a :: b :: es) pos) (tJn ts Str.empty):=fun pins s σ H Q I q=>JoinedStr_many (h _ pins s σ H Q I q)
end
end L2
namespace Om
end Om
end
section
namespace Om
abbrev Stp:=(Nat×Nat)×(Nat×Nat)
def St (rows:Rows) (x y:Nat) (s:Stp):Prop:=
 s.1.1 < (rows.getD x []).length/\s.1.2 < (rows.getD y []).length/\(step rows x s.1.1).1=(step rows y s.1.2).1/\s.2=((step rows x s.1.1).2,(step rows y s.1.2).2)
inductive Pth (rows:Rows):Nat->List Nat->List Bool->Nat->Prop
 | nil {s:Nat}:s < rows.length->Pth rows 0 [] [] s
 | snoc {m:Nat} {t:List Nat} {w:List Bool} {p i:Nat}:Pth rows m t w p->i < (rows.getD p []).length->Pth rows (m+1) (t++[i]) (w++(step rows p i).1) (step rows p i).2
section
variable {k n:Nat} {rows:Rows}
def Clash (rows:Rows) (b m:Nat) (x y:Nat):Prop:=∃ t t' w,Pth rows m t w x/\Pth rows m t' w y/\t.getD b 0≠t'.getD b 0
end
end Om
end
section
namespace L2
open PySem PySem.Spec PyProof.Rows
def kk (p:Nat×Nat):List Key:=[.inl ((p.1:Nat):Int),.inl ((p.2:Nat):Int)]
section
variable {ks:List (Nat×Nat)} {kvs:List (List Key×V)} {p:Nat×Nat} {v:V}
end
def sD (s:Om.Stp):PyData:=.tuple [pairD s.1,pairD s.2]
section
variable {G H0 H:Hp} {D p:Addr} {kvs:List (List Key×V)} {o:HO}
end
end L2
end
section
namespace L2
open PySem PySem.Spec PyProof.Rows
section
variable {X:Cx} {a:Expr} {p pos:Pos} {ta:TA}
def tRng1 (ta:TA):TE:=fun σ H Q=>ta σ H fun vs H1=>match vs with
 | [.int j]=>0<=j/\j < 2 ^ 24/\∀ q,H1 q=none->Q (.ref q) (upd H1 q (.rng 0 j))
 | _=>False
def rListR:List V->Hp->VK->Prop:=fun vs H Q=>match vs with
 | [.ref p]=>(∃ j:Nat,H p=some (.rng 0 j)/\j<=2 ^ 24/\∀ l,H l=none->Q (.ref l) (upd H l (.lst ((List.range j).map fun i=>V.int (i:Nat)))))\/rListOf vs H Q
 | _=>False
theorem vals_of:∀ {xs:List V} {us:List Value},xs.length=us.length->(∀ (i:Nat) (x:V) (u:Value),xs[i]? = some x->us[i]? = some u->RelV x u)->Vals xs us
 | [],[],_,_=>.nil
 | [],_ :: _,h,_=>by simp at h
 | _ :: _,[],h,_=>by simp at h
 | x :: xs,u :: us,h,r=>.cons (r 0 x u rfl rfl) (vals_of (by simpa using h) fun i y v h1 h2=>r (i+1) y v (by simpa using h1) (by simpa using h2))
theorem items_vals {acc:Array Value} {n:Nat} (h:ItemsOf (fun i v=>∃ t,v = .int (0+(i:Nat) * 1) t) acc n):Vals ((List.range n).map fun i=>V.int (i:Nat)) acc.toList:=by
 refine vals_of (by simp [h.1]) fun i x u hx hu=>?_
 have hu':acc[i]? = some u:=by simpa using hu
 obtain ⟨t,rfl⟩:=h.2 i u hu'
 rw [List.getElem?_map] at hx
 obtain ⟨j,h1,rfl⟩:=Option.map_eq_some_iff.mp hx
 have hj:j=i:=by
  have hlt:i < n:=by
   have:=List.getElem?_eq_some_iff.mp h1
   obtain ⟨hl,_⟩:=this
   simpa using hl
  rw [List.getElem?_range hlt] at h1
  exact (Option.some.inj h1).symm
 subst hj
 exact ⟨t,by simp⟩
theorem call_listR (hc:X.calm=true):CallR X (.type "list") rListR:=by
 intro pins s σ H xs us Q I r h
 unfold rListR at h
 split at h
 ·rcases h with ⟨j,hp,hj,q⟩ | h
  ·obtain ⟨u,rfl,rx⟩:=vals1 r
   cases rx
   obtain ⟨t,u,v,e⟩:=I.hok _ _ hp
   refine call_list_range (I.ok.hd hc) e (small_one (by omega) (by omega) (by omega) (by omega)) (n:=j) (by rw [rangeSize_one];split<;>omega) hj fun h' tk acc' c' kp e' it=>?_
   have hv:=items_vals it
   have hl:((List.range j).map fun i=>V.int (i:Nat)).length<=sizeLine:=by rw [List.length_map,List.length_range,sizeLine_eq];omega
   exact ⟨.ref s.heap.objs.size,_,I.laid (t':=tk) kp (Nat.le_refl _) (show ObjOk X.prog X.w _ h' _ (.lst _) from ⟨hl,acc'.toList,c',hv,by simpa using e'⟩),rfl,q _ (I.hok.fresh (Nat.le_refl _))⟩
  ·exact call_listU pins s σ H _ us Q I r h
 ·exact h.elim
end
end L2
end
section
namespace L2
open PySem PySem.Spec PyProof.Rows
structure Lt (H H':Hp):Prop where
 l:∀ a xs,H a=some (.lst xs)->H' a=some (.lst xs)
 t:∀ a xs,H a=some (.tup xs)->H' a=some (.tup xs)
 d:∀ a,H a=some (.dK [])->H' a=some (.dK [])
mutual
theorem DV.lt {H H':Hp} (k:Lt H H'):∀ {v:V} {d:PyData},DV H v d->DV H' v d
 | _,_,.non=>.non
 | _,_,.bl b=>.bl b
 | _,_,.int i=>.int i
 | _,_,.str x=>.str x
 | _,_,.lst h r=>.lst (k.l _ _ h) (DVs.lt k r)
 | _,_,.tup h r=>.tup (k.t _ _ h) (DVs.lt k r)
 | _,_,.dic h=>.dic (k.d _ h)
theorem DVs.lt {H H':Hp} (k:Lt H H'):∀ {vs:List V} {ds:List PyData},DVs H vs ds->DVs H' vs ds
 | _,_,.nil=>.nil
 | _,_,.cons h r=>.cons (DV.lt k h) (DVs.lt k r)
end
theorem Lt.but {H G:Hp} {D:Addr} {kvs:List (List Key×V)} (hD:H D=some (.dT kvs)) (h:∀ x,x≠D->G x=H x):Lt H G:=
 ⟨fun a xs e=>by rw [h a (ne_of e hD (fun z=>nomatch z))];exact e,fun a xs e=>by rw [h a (ne_of e hD (fun z=>nomatch z))];exact e,fun a e=>by rw [h a (ne_of e hD (fun z=>nomatch z))];exact e⟩
end L2
end
section
namespace Om
abbrev Rw:=List Nat×List Bool×Nat
def ext (rows:Rows) (r:Rw):List Rw:=(List.range (rows.getD r.2.2 []).length).map fun l=>(r.1++[l],r.2.1++(step rows r.2.2 l).1,(step rows r.2.2 l).2)
section
variable {k n:Nat} {rows:Rows}
end
end Om
namespace L2
open PySem PySem.Spec PyProof.Rows
end L2
end
section
namespace L2
open PySem PySem.Spec PyProof.Rows
section
variable {prog:Program} {w:World} {A:Around} {E:Value->Shared->Prop} {s:Shared}
theorem walksKeys (hh:A.handled=none) (I d:Addr) (hne:d≠I) {od:Obj} {es:Array DictEntry} {ep:Nat} (hdat:od.data = .dict es ep) :
  Walks prog w A I [I,d] [I] es.size (fun i v=>∃ e,es[i]? = some e/\v=e.key) (fun i h=>h.IsKeyIter I d i es.size ep/\h.get? d=some od) where
 sub:=fun b hb=>by simp at hb;simp [hb]
 frame:=fun _ _ _ st hk=>⟨st.1.at fun o e=>hk I (by simp) o e,hk d (by simp) _ st.2⟩
 item:=fun i s Q E hi st hQ=>by
  have he:es[i]? = some es[i]:=by simp [hi]
  refine keyNext st.1 st.2 hdat he fun h' hit' hs'=>?_
  exact hQ _ h' s.toks ⟨_,he,rfl⟩ ⟨hit',hs'.extBut d _ hne st.2⟩ fun b o hb e=>hs'.extBut b o (fun h=>hb (by simp [h])) e
 done:=fun s Q E st hQ=>keyEnd hh st.1 st.2 hdat (Nat.le_refl _) fun h' he'=>hQ h' s.toks fun b o hb e=>he' b o (fun h=>hb (by simp [h])) e
 self:=fun _ _ _ _ st hQ=>wpAny_pyIter_keyiter st.1 hQ
theorem hint_dict {d:Addr} {Q:Bool->Shared->Prop} (hT:s.TypeIs (.ref d) "dict") (h:Q false s):wpAny (model prog w) A (Builtin.List.listLengthHint (.ref d)) Q E s:=by
 unfold Builtin.List.listLengthHint
 refine wpAny_bind (wpAny_specialOf hT F.slot_dict_len.lookup ?_)
 generalize hid:("dict.__len__" : String)=id0
 wp_delta
 rw [show splitId id0=some ("dict","__len__") from by subst hid;decide +kernel]
 subst hid
 refine wpAny_bind (wpAny_isInstance (T:= "dict") (b:=true) hT (by rw [isSubtype_type];kernel_rfl) ?_)
 refine wpAny_ite_split (fun hab=>absurd hab (by decide)) (fun _=>?_)
 refine wpAny_ite_split (fun _=>?_) (fun hab=>absurd (by decide +kernel) hab)
 refine wpAny_bind (wpAny_typeOf (T:= "dict") hT ?_)
 exact wpAny_pure h
theorem extend_dict {R:Result->Shared->Prop} {d:Addr} {od:Obj} {es:Array DictEntry} {ep:Nat} (hh:A.handled=none) (hd:(d == sysModules)=false) (hT:s.TypeIs (.ref d) "dict") (ho:s.heap.get? d=some od) (hdat:od.data = .dict es ep) (hlen:es.size<=sizeLine) (S:Addr) (res:Value) (c₀:Nat) (hS:s.heap.get? S=some { cls:=.type "list",data:=.seq #[] c₀ })
  (hR:∀ h' tk acc' c',(∀ b o,b≠S->s.heap.get? b=some o->h'.get? b=some o)->h'.get? S=some { cls:=.type "list",dict:=none,data:=.seq acc' c',slots:=#[] } →
   ItemsOf (fun i v=>∃ e,es[i]? = some e/\v=e.key) acc' es.size->R (.ok (.ret res)) { s with heap:=h',toks:=tk }) :
  wpAny (model prog w) A.in1 (Builtin.List.listExtendWith (.ref S) (.ref d) res)
   (fun fin s'=>match fin with | .done f=>R (.ok f) s' | .again c'=>c'.quiet=true/\codeAny (model prog w) A c' R s') (fun e s'=>R (.error e) s') s:=by
 have hSr:S≠d:=fun e=>by rw [e,ho] at hS;cases hS;cases hdat
 have hSlt:S < s.heap.objs.size:=Heap.lt_size hS
 have hSI:S≠s.heap.objs.size:=Nat.ne_of_lt hSlt
 have hdI:d≠s.heap.objs.size:=Nat.ne_of_lt (Heap.lt_size ho)
 have hSf:S ∉ [s.heap.objs.size,d]:=fun hm=>by simp at hm;rcases hm with h | h;exact hSI h;exact hSr h
 have W:=(walksKeys (prog:=prog) (w:=w) (A:=A.in1) hh s.heap.objs.size d hdI hdat).toS
 unfold Builtin.List.listExtendWith
 refine wpAny_bind (wpAny_typeOf (T:= "dict") hT ?_)
 have h1:Builtin.List.listSameRef (.ref S) (.ref d)=false:=by simp [Builtin.List.listSameRef,hSr]
 have h2:(Value.type "dict" == Value.type "list")=false:=by decide
 have h3:(Value.type "dict" == Value.type "tuple")=false:=by decide
 simp only [h1,h2,h3,Bool.or_false,Bool.false_eq_true,if_false]
 refine wpAny_bind (keyIter hd hT ho hdat ?_)
 have hT1:(⟨s.heap.push { cls:=.type "dict_keyiterator",data:=.fields #[.ref d,.int 0 0,.int es.size 0,.int ep 0] },s.gens,s.drawn,s.toks,s.os⟩ : Shared).TypeIs (.ref d) "dict" := by
  obtain ⟨o,e1,e2⟩:=hT
  exact ⟨o,Heap.get?_push_of_some _ e1,e2⟩
 refine wpAny_bind (wpAny_holding (hint_dict hT1 ?_))
 have hit₁:(s.heap.push { cls:=.type "dict_keyiterator",data:=.fields #[.ref d,.int 0 0,.int es.size 0,.int ep 0] }).IsKeyIter s.heap.objs.size d 0 es.size ep:=⟨_,Heap.get?_push_size _ rfl,rfl,rfl⟩
 have hS₁:=Heap.get?_push_of_some { cls:=.type "dict_keyiterator",data:=.fields #[.ref d,.int 0 0,.int es.size 0,.int ep 0] } hS
 have hd₁:=Heap.get?_push_of_some { cls:=.type "dict_keyiterator",data:=.fields #[.ref d,.int 0 0,.int es.size 0,.int ep 0] } ho
 have key:∀ (h:Heap) (c₁ tk:Nat),h.IsKeyIter s.heap.objs.size d 0 es.size ep->h.get? d=some od->(∀ b o,b≠S->s.heap.get? b=some o->h.get? b=some o) →
   h.get? S=some { cls:=.type "list",data:=.seq #[] c₁ }->codeAny (model prog w) A (.builtin "list.extend.loop" ⟨[.ref S,.ref s.heap.objs.size,res],[]⟩) R { s with heap:=h,toks:=tk }:=by
  intro h c₁ tk hit hdd hk hS₁
  refine codeAny_extend_loopS W hlen S hSf res es.size 0 _ #[] c₁ rfl (Nat.zero_le _) ⟨hit,hdd⟩ hS₁ (ItemsOf.nil _) fun s' acc' c' hm hS' hacc=>?_
  rw [Moved.eq_with hm]
  refine hR s'.heap s'.toks acc' c' (fun b o hb e=>hm.heap b o (fun hmem=>?_) (hk b o hb e)) hS' hacc
  rcases List.mem_cons.mp hmem with e' | hmem
  ·exact hb e'
  ·exact absurd (Heap.lt_size e) (by rw [List.mem_singleton.mp hmem];exact Nat.lt_irrefl _)
 refine wpAny_ite_split (fun _=>?_) (fun _=>wpAny_pure ⟨plainId_quiet F.plain_extend_loop _,key _ c₀ _ hit₁ hd₁ (fun b o _ e=>Heap.get?_push_of_some _ e) hS₁⟩)
 refine wpAny_bind (wpAny_rule ?_)
 refine wpAny_bind ?_
 show wpAny _ _ (updateSeq S (·.push .none) >>= fun _=>updateSeq S (·.pop)) _ _ _
 refine wpAny_bind (wpAny_updateSeq hS₁ rfl ?_)
 have hS₂:=Heap.get?_update_self (Obj.mapSeq (·.push Value.none)) hS₁ rfl
 refine wpAny_updateSeq (hz:=by seq_fits) hS₂ rfl ?_
 have hS₃:=Heap.get?_update_self (Obj.mapSeq (·.pop)) hS₂ rfl
 refine wpAny_pure ⟨plainId_quiet F.plain_extend_loop _,key _ _ _ ?_ ?_ (fun b o hb e=>?_) hS₃⟩
 ·exact hit₁.at fun o e=>(Heap.get?_update_other _ _ hSI).trans ((Heap.get?_update_other _ _ hSI).trans e)
 ·exact (Heap.get?_update_other _ _ hSr).trans ((Heap.get?_update_other _ _ hSr).trans hd₁)
 ·exact (Heap.get?_update_other _ _ (Ne.symm hb)).trans ((Heap.get?_update_other _ _ (Ne.symm hb)).trans (Heap.get?_push_of_some _ e))
theorem call_list_dict {Q:Value->Shared->Prop} {d:Addr} {od:Obj} {es:Array DictEntry} {ep:Nat} (hh:A.handled=none) (hd:(d == sysModules)=false) (hT:s.TypeIs (.ref d) "dict") (ho:s.heap.get? d=some od) (hdat:od.data = .dict es ep) (hlen:es.size<=sizeLine)
  (hQ:∀ h' tk acc' c',(∀ b o,s.heap.get? b=some o->h'.get? b=some o) →
   h'.get? s.heap.objs.size=some { cls:=.type "list",dict:=none,data:=.seq acc' c',slots:=#[] }->ItemsOf (fun i v=>∃ e,es[i]? = some e/\v=e.key) acc' es.size->Q (.ref s.heap.objs.size) { s with heap:=h',toks:=tk }) :
  wpAny (model prog w) A (call (.type "list") [.ref d]) Q E s:=by
 refine callType_codes (Q₁:=fun obj s₁=>obj = .ref s.heap.objs.size/\s₁={ s with heap:=s.heap.push { cls:=.type "list",data:=.seq #[] } }) F.called_list (F.typeCall_list_1 _) F.entry_list_init
  (code_list_new _ ⟨rfl,rfl⟩) fun obj s₁ h₁=>?_
 obtain ⟨rfl,rfl⟩:=h₁
 have hS:(s.heap.push { cls:=.type "list",data:=.seq #[] }).get? s.heap.objs.size=some { cls:=.type "list",data:=.seq #[] }:=Heap.get?_push_size _ rfl
 have hSr:s.heap.objs.size≠d:=Nat.ne_of_gt (Heap.lt_size ho)
 refine ⟨⟨_,hS,rfl⟩,F.args_list_init_2 _ _,?_⟩
 show wpAny _ _ (do let old <-Builtin.List.listItems (.ref s.heap.objs.size);Builtin.List.listUpdate (.ref s.heap.objs.size) (fun _=>#[]);letGo old.toList.reverse;Builtin.List.listExtendWith (.ref s.heap.objs.size) (.ref d) .none) _ _ _
 refine wpAny_bind ?_
 unfold Builtin.List.listItems
 refine wpAny_bind (wpAny_seqItems hS rfl (wpAny_pure ?_))
 show wpAny _ _ (updateSeq s.heap.objs.size (fun _=>#[]) >>= fun _=>letGo (#[]:Array Value).toList.reverse >>= fun _=>Builtin.List.listExtendWith (.ref s.heap.objs.size) (.ref d) .none) _ _ _
 refine wpAny_bind (wpAny_updateSeq hS rfl ?_)
 have hS₂:=Heap.get?_update_self (Obj.mapSeq (fun _=>(#[]:Array Value))) hS rfl
 have oth:∀ b o,b≠s.heap.objs.size->(s.heap.push { cls:=.type "list",data:=.seq #[] }).get? b=some o->((s.heap.push { cls:=.type "list",data:=.seq #[] }).update s.heap.objs.size (Obj.mapSeq (fun _=>(#[]:Array Value)))).get? b=some o:=
  fun b o hb e=>(Heap.get?_update_other _ _ (Ne.symm hb)).trans e
 refine wpAny_bind (wpAny_letGo ?_)
 have ho2:=oth d _ (Ne.symm hSr) (Heap.get?_push_of_some _ ho)
 refine extend_dict (A:=A.in1) hh hd ?_ ho2 hdat hlen _ .none _ hS₂ fun h' tk acc' c' hk hS' hacc=>?_
 ·obtain ⟨o,e1,e2⟩:=hT
  rw [ho] at e1;cases e1
  exact ⟨_,ho2,e2⟩
 ·exact ⟨rfl,hQ h' tk acc' c' (fun b o e=>hk b o (Nat.ne_of_lt (Heap.lt_size e)) (oth b o (Nat.ne_of_lt (Heap.lt_size e)) (Heap.get?_push_of_some _ e))) hS' hacc⟩
end
end L2
end
section
namespace L2
open PySem PySem.Spec PyProof.Rows
section
variable {X:Cx} {p pos:Pos}
theorem items_keys {es:Array DictEntry} {acc:Array Value} {xs:List V} (h:ItemsOf (fun i v=>∃ e,es[i]? = some e/\v=e.key) acc es.size) (r:Vals xs (es.toList.map (·.key))):Vals xs acc.toList:=by
 have:acc.toList=es.toList.map (·.key):=by
  apply List.ext_getElem?
  intro i
  rw [List.getElem?_map]
  by_cases hi:i < es.size
  ·have hi':i < acc.size:=by rw [h.1];exact hi
   obtain ⟨e,e1,e2⟩:=h.2 i acc[i] (by simp [hi'])
   have e3:es.toList[i]? = some e:=by simpa using e1
   rw [e3]
   simp [hi',e2]
  ·have:¬ i < acc.size:=by rw [h.1];exact hi
   simp [Nat.le_of_not_lt hi,Nat.le_of_not_lt this]
 rw [this];exact r
def rListD:List V->Hp->VK->Prop:=fun vs H Q=>match vs with
 | [.ref p]=>(∃ kvs,H p=some (.dT kvs)/\∀ o bs l,KeysAt H kvs bs->H l=none->Q (.ref l) (upd (upd H p (.frz o (.dT kvs))) l (.lst (bs.map V.ref)))) ∨
   (∃ o kvs,H p=some (.frz o (.dT kvs))/\∀ bs l,KeysAt H kvs bs->H l=none->Q (.ref l) (upd H l (.lst (bs.map V.ref)))) ∨
   (∃ o kvs,H p=some (.frz o (.dK kvs))/\∀ l,H l=none->Q (.ref l) (upd H l (.lst (kvs.map fun p=>kV p.1))))\/rListR vs H Q
 | _=>False
theorem call_listD (hc:X.calm=true):CallR X (.type "list") rListD:=by
 have hT2:∀ (pins:List (Addr×Obj)) (s:Shared) (σ:St) (H:Hp) (a:Addr) (Q:VK) (o:Obj) (kvs:List (List Key×V)),Inv X pins σ H s->H a=some (.frz o (.dT kvs)) →
   (∀ bs l,KeysAt H kvs bs->H l=none->Q (.ref l) (upd H l (.lst (bs.map V.ref))))->wpAny (model X.prog X.w) X.A (call (.type "list") [.ref a]) (EP X pins σ Q) X.xe s:=by
  intro pins s σ H a Q o kvs I hq q
  have ho:=I.frozen hq
  obtain ⟨_,z,hd,xs,r,o',es,ep,h1,h2,h3,h4,h5⟩:=I.hok a _ hq
  rw [ho] at h1;cases h1
  have hT:s.TypeIs (.ref a) "dict" := let ⟨_,_,_,_,dd⟩:=dt_rd I.hok (.inr ⟨o,hq⟩);dd.typeIs
  have rel:Vals ((xs.map (·.2.1)).map V.ref) (es.toList.map (·.key)):=by
   rw [h4]
   clear h4 h5 r
   induction xs with
   | nil=>exact .nil
   | cons x xs ih=>exact .cons rfl ih
  have le:es.size<=sizeLine:=by
   have e1:=congrArg List.length h4
   have e2:=Paired.length r
   simp at e1
   omega
  refine call_list_dict (I.ok.hd hc) hd hT ho h3 le fun h' tk acc' c' kp e' it=>?_
  have hl:((xs.map (·.2.1)).map V.ref).length<=sizeLine:=by
   have:=rel.length
   simp at this ⊢
   omega
  exact ⟨.ref s.heap.objs.size,_,I.laid (t':=tk) kp (Nat.le_refl _) (show ObjOk X.prog X.w _ h' _ (.lst _) from ⟨hl,acc'.toList,c',items_keys it rel,by simpa using e'⟩),rfl,q _ _ (keys_tup r) (I.hok.fresh (Nat.le_refl _))⟩
 intro pins s σ H xs us Q I r h
 unfold rListD at h
 split at h
 ·rename_i a
  have r':=r
  obtain ⟨u,rfl,rx⟩:=vals1 r
  cases rx
  rcases h with ⟨kvs,hq,q⟩ | ⟨o,kvs,hq,q⟩ | ⟨o,kvs,hq,q⟩ | h
  ·obtain ⟨o,ho⟩:=I.obj hq
   refine hT2 pins s σ _ a Q o kvs (I.freeze hq trivial ho) upd_same fun bs l kb hl=>?_
   have hla:l≠a:=fun z=>by subst z;rw [upd_same] at hl;cases hl
   rw [upd_ne hla] at hl
   refine q o bs l ?_ hl
   refine Paired.mapP kb fun x b e=>?_
   have:b≠a:=fun z=>by subst z;rw [upd_same] at e;cases e
   rw [upd_ne this] at e;exact e
  ·exact hT2 pins s σ H a Q o kvs I hq q
  ·have ho:=I.frozen hq
   obtain ⟨_,z,hd,vs,r,o',es,ep,h1,h2,h3,h4,h5,h6⟩:=I.hok a _ hq
   rw [ho] at h1;cases h1
   have hT:s.TypeIs (.ref a) "dict" := let ⟨_,_,_,_,dd⟩:=dk_rd I.hok (.inr ⟨o,hq⟩);dd.typeIs
   have rel:=keys_mix r h5
   have le:es.size<=sizeLine:=by
    have e1:=rel.length
    simp at e1
    omega
   refine call_list_dict (I.ok.hd hc) hd hT ho h3 le fun h' tk acc' c' kp e' it=>?_
   have hl:(kvs.map fun p=>kV p.1).length<=sizeLine:=by
    have:=rel.length
    simp at this ⊢
    omega
   exact ⟨.ref s.heap.objs.size,_,I.laid (t':=tk) kp (Nat.le_refl _) (show ObjOk X.prog X.w _ h' _ (.lst _) from ⟨hl,acc'.toList,c',items_keys it rel,by simpa using e'⟩),rfl,q _ (I.hok.fresh (Nat.le_refl _))⟩
  ·exact call_listR hc pins s σ H _ _ Q I r' h
 ·exact h.elim
theorem fn_listD {e:Expr} {es:List Expr} {t:TA} {mg':Str->Option Value} (hm:mg' "list" = none) (hX:X.mg=mg') (ha:PA X (e :: es) t) (hc:X.calm=true:=by kernel_rfl) (hg:gB X "list" = true:=by kernel_rfl) (he:starEach (e :: es) X.env=(false,eval e X.env) :: starEach es X.env:=by kernel_rfl) (hpl:(backTo pos (starEach es X.env)).any (·.1)=false:=by kernel_rfl) :
  PE X (.Call (.Name "list" p) (e :: es) [] pos) (tCB rListD t):=pe_callTy (call_listD hc) (gl_of hg) (by rw [hX];exact hm) PyProof.Rows.boot_list ha (he:=he) (hpl:=hpl)
end
section
variable {prog:Program} {w:World} {A:Around} {E:Value->Shared->Prop} {s:Shared}
end
end L2
end
section
namespace L2
open PySem PySem.Spec PyProof.Rows
section
variable {X:Cx} {p pos:Pos}
open Classical in
noncomputable def eqT (H:Hp) (k:List Key) (u:Value):Bool:=match u with
 | .ref c=>decide (H c=some (.tup (k.map kV)))
 | _=>false
open Classical in
theorem any_eqT {H:Hp} {k:List Key}:∀ {xs:List V} {us:List Value},Vals xs us->(∀ v∈xs,∃ (c:Addr) (k':List Key),v = .ref c/\H c=some (.tup (k'.map kV)))->(us.any (eqT H k)=true↔∃ c,V.ref c∈xs/\H c=some (.tup (k.map kV)))
 | _,_,.nil,_=>by simp
 | y :: xs,u :: us,.cons r t,f=>by
  obtain ⟨c,k',rfl,hc⟩:=f y List.mem_cons_self
  cases r
  rw [List.any_cons,Bool.or_eq_true,any_eqT t (fun v hv=>f v (List.mem_cons_of_mem _ hv))]
  have e0:eqT H k (.ref c)=true↔H c=some (.tup (k.map kV)):=by unfold eqT;dsimp only;exact (by classical exact decide_eq_true_iff)
  rw [e0]
  constructor
  ·rintro (h | ⟨d,h1,h2⟩)
   ·exact ⟨c,List.mem_cons_self,h⟩
   ·exact ⟨d,List.mem_cons_of_mem _ h1,h2⟩
  ·rintro ⟨d,h1,h2⟩
   rcases List.mem_cons.mp h1 with e | h1
   ·injection e with e;subst e;exact .inl h2
   ·exact .inr ⟨d,h1,h2⟩
end
end L2
end
section
namespace Om
def Win (rows:Rows) (b a:Nat):Prop:=∀ x y,¬ Clash rows b (b+1+a) x y
open Classical in
noncomputable def wf (rows:Rows) (p:Nat×Nat):Bool:=decide (Win rows p.1 p.2)
open Classical in
theorem wf_iff {rows:Rows} {p:Nat×Nat}:wf rows p=true↔Win rows p.1 p.2:=by unfold wf;exact decide_eq_true_iff
end Om
namespace L2
open PySem PySem.Spec PyProof.Rows
theorem e_gint {X:Cx} {pos:Pos} {x:Str} {z:Int} {mg':Str->Option Value} (hm:∃ tk,mg' x=some (.int z tk)) (hX:X.mg=mg') (hg:gB X x=true:=by kernel_rfl) (hd:(x == ("__debug__" : Str))=false:=by kernel_rfl):PE X (.Name x pos) (tC (.int z)):=by
 obtain ⟨tk,hm⟩:=hm
 exact pe_glob (gl_of hg) (by rw [hX];exact hm) ⟨tk,rfl⟩ hd
theorem nx_mk {K:PySem.W.Frag} {x:Str} {z:Int} {v:Value} {tk:Tok} (h:PySem.W.nsIn K mainGlobals x=some (some v)) (e:v = .int z tk):∃ tk,PySem.W.nsIn K mainGlobals x=some (some (.int z tk)):=⟨tk,by rw [h,e]⟩
end L2
end
section
namespace L2
open PySem PySem.Spec PyProof.Rows
section
variable {prog:Program} {w:World} {A:Around} {E:Value->Shared->Prop} {s:Shared}
end
section
variable {X:Cx} {p pos:Pos}
end
section
variable {G H0 H:Hp} {D q:Addr} {kvs:List (List Key×V)} {ks:List (Nat×Nat)} {c:Nat} {E:Nat×Nat->Om.Stp->Prop} {o:HO}
end
end L2
namespace Om
end Om
end
section
namespace L2
open PySem PySem.Spec PyProof.Rows
section
variable {prog:Program} {w:World} {A:Around} {E:Value->Shared->Prop} {s:Shared}
end
section
variable {X:Cx} {p pos:Pos}
end
end L2
end
section
namespace L2
open PySem PySem.Spec PyProof.Rows
section
variable {X:Cx} {p pos p2:Pos} {a b e st:Expr} {es:List Expr} {t:TA} {te:TE} {ts:TO}
end
section
variable {H H':Hp} {n:Nat} {v:V} {a:Addr} {xs:List V}
end
noncomputable def wo (F:Addr->Prop) (H:Hp):Hp:=fun b=>@ite _ (F b) (Classical.propDecidable _) none (H b)
section
variable {F:Addr->Prop} {H H':Hp} {b:Addr} {o:HO}
theorem wo_at (h:H b=some o) (n:¬ F b):wo F H b=some o:=by
 unfold wo
 rw [if_neg n];exact h
theorem wo_inv (h:wo F H b=some o):¬ F b/\H b=some o:=by
 unfold wo at h
 by_cases c:F b
 ·rw [if_pos c] at h;cases h
 ·rw [if_neg c] at h;exact ⟨c,h⟩
theorem Off.wo (h:Off F H H'):Same (wo F H) (wo F H'):=fun b o e=>let ⟨n,e⟩:=wo_inv e;wo_at (h b o e n) n
theorem Same.wo (h:Same H H'):Same (wo F H) (wo F H'):=fun b o e=>let ⟨n,e⟩:=wo_inv e;wo_at (h b o e) n
end
end L2
end
section
namespace L2
open PySem PySem.Spec PyProof.Rows
def tEmp:TE:=fun _ H Q=>∀ d,H d=none->Q (.ref d) (upd H d (.dK []))
theorem e_dict {X:Cx} {pos:Pos}:PE X (.Dict [] [] pos) tEmp:=pe_dnewK
end L2
end
section
namespace L2
open PySem PySem.Spec PyProof.Rows
def CodeO (c:Addr) (q:Str):HO:=.ext fun h=>h.CodeRec (.ref c) q
theorem CodeO.mk {P:Program} {w:World} {H:Hp} {h:Heap} {c:Addr} {q:Str} (x:h.CodeRec (.ref c) q):ObjOk P w H h c (CodeO c q):=by
 refine ⟨x,?_,fun h1 h2 x1 k=>?_⟩
 ·obtain ⟨c',o,vs,t,e,g,r⟩:=x
  cases e
  exact ⟨o,g⟩
 ·obtain ⟨c',o,vs,t,e,g,r⟩:=x1
  cases e
  exact ⟨_,o,vs,t,rfl,k o g,r⟩
theorem CodeO.at {P:Program} {w:World} {H:Hp} {h:Heap} {c:Addr} {q:Str} (ok:HOk P w H h) (e:H c=some (CodeO c q)):h.CodeRec (.ref c) q:=(ok c _ e).1
def LamIn (h:Heap) (f:Addr) (params:Arguments) (body:Expr) (scope:Scope) (qual:Str) (c:Addr) (F:List Str) (fvs:List V):Prop:=
 ∃ (pm ctv:Value) (clos:List (Str×Addr)),h.get? f=some (PySem.W.kla_obj "<lambda>" qual params body scope clos pm c ctv) ∧
  (∀ x y d,clos.lookup x=some d->clos.lookup y=some d->x=y) ∧
  (∀ y∈scope.names,y.2 = .free->∃ d,clos.lookup y.1=some d) ∧
  (∀ x d,clos.lookup x=some d->∃ v,h.IsCell d v) ∧
  ∀ (i:Nat) x v,F[i]? = some x->fvs[i]? = some v->∃ d u,clos.lookup x=some d/\h.IsCell d (some u)/\RelV v u
structure LamSc (p:Str) (F:List Str) (sc:Scope):Prop where
 kind:sc.kind = .function
 co:sc.isCoroutine=false
 gen:sc.isGenerator=false
 par:sc.names.lookup p=some .local
 fre:∀ x∈F,sc.names.lookup x=some .free
 nocell:∀ y∈sc.names,y.2≠.cell
def cxLam (CX:CXT) (P:Program) (w:World) (K:PySem.W.Frag) (mg:Str->Option Value) (base:Heap) (N:List Str) (qual:Str) (scope:Scope) (f:Addr) (cd:Value) (clos:List (Str×Addr)) (A:Around) (outer:List Env) (s:Shared) (H:Hp) (E:XK):Cx where
 prog:=P
 w:=w
 K:=K
 mg:=mg
 base:=base
 A:=A.deeper (PySem.W.envX qual scope s.heap.objs.size f cd clos)
 N:=N
 s₀:=s
 H₀:=H
 env:=PySem.W.envX qual scope s.heap.objs.size f cd clos
 outer:=outer
 stack:=PySem.W.envX qual scope s.heap.objs.size f cd clos :: outer
 ex:=[]
 calm:=true
 fn:=fun _=>false
 pn:=[]
 xe:=fun e s'=>wpAny (model P w) (A.deeper (PySem.W.envX qual scope s.heap.objs.size f cd clos)) (leaving (PySem.W.envX qual scope s.heap.objs.size f cd clos) e) (fun _ s''=>CX outer H s E e s'') (fun e' s''=>CX outer H s E e' s'') s'
theorem inv_lam {CX:CXT} {P:Program} {w:World} {K:PySem.W.Frag} {mg:Str->Option Value} {base:Heap} {p:Str} {F:List Str} {fvs:List V} {qual:Str} {scope:Scope} {f:Addr} {cd:Value} {clos:List (Str×Addr)} {A:Around} {outer:List Env} {s:Shared} {H:Hp} {E:XK}
  {u:Value} {v:V} {h':Heap} {tk:Nat} (S:LamSc p F scope) (hd:A.handled=none) (e0:Env0 P w K mg base A outer s H) (rv:RelV v u) (hl:F.length=fvs.length)
  (inj:∀ x y d,clos.lookup x=some d->clos.lookup y=some d->x=y) (has:∀ y∈scope.names,y.2 = .free->∃ d,clos.lookup y.1=some d) (cel:∀ x d,clos.lookup x=some d->∃ v,base.IsCell d v)
  (vals:∀ (i:Nat) x v,F[i]? = some x->fvs[i]? = some v->∃ d u,clos.lookup x=some d/\base.IsCell d (some u)/\RelV v u)
  (hns:h'.Ns s.heap.objs.size (fun x=>[(p,u)].reverse.lookup x)) (hk:∀ b o,s.heap.get? b=some o->h'.get? b=some o) :
  Inv (cxLam CX P w K mg base (p :: F) qual scope f cd clos A outer s H E) [] (some v :: fvs.map some) H { s with heap:=h',toks:=tk }:=by
 have noA:∀ b:Addr,b ∉ (cxLam CX P w K mg base (p :: F) qual scope f cd clos A outer s H E).ex:=fun b z=>absurd (show b∈([]:List Addr) from z) (by simp)
 have up:∀ {d:Addr} {v:Option Value},base.IsCell d v->h'.IsCell d v:=fun {d v} ⟨o,e,q⟩=>⟨o,hk _ _ (e0.bs _ _ e).1,q⟩
 refine ⟨⟨e0.mod,S.kind,rfl,rfl,Nat.le_refl _,inj,fun y hy=>?_,fun y c hf _=>(by cases (show false=true from hf)),fun _=>hd,Around.frames_deeper e0.frames,.inr ⟨rfl,rfl⟩,fun b z=>absurd z (noA b),e0.bs,e0.bsz,fun b _ _=>noA b,fun b z=>absurd z (noA b),e0.funs,e0.frf⟩,
  rfl,e0.bare,Un.kept hk,⟨_,hns,fun i y x h1 h2 h3=>?_⟩,fun y c h=>?_,e0.hok.fresh (Nat.le_refl _),fun y c h=>?_,fun p hp=>absurd (show p∈([]:List (Addr×Obj)) from hp) (by simp),e0.hok.kept hk,?_⟩
 ·have hy:scope.names.lookup y=some .cell\/scope.names.lookup y=some .free:=hy
  rcases hy with hy | hy
  ·exact absurd rfl (S.nocell _ (PySem.mem_of_lookup hy))
  ·exact has _ (PySem.mem_of_lookup hy) rfl
 ·cases i with
  | zero=>
   cases h1
   cases h2
   exact ⟨u,rv,.inl ⟨S.par,by simp⟩⟩
  | succ i=>
   have h1:F[i]? = some y:=by
    have h1:(p :: F)[i+1]? = some y:=h1
    rw [List.getElem?_cons_succ] at h1
    exact h1
   have h2:fvs[i]? = some x:=by
    rw [List.getElem?_cons_succ,List.getElem?_map] at h2
    cases q:fvs[i]? with
    | none=>rw [q] at h2;cases h2
    | some z=>rw [q] at h2;cases h2;rfl
   obtain ⟨d,u',e1,e2,e3⟩:=vals i y x h1 h2
   exact ⟨u',e3,.inr ⟨.inr (S.fre y (List.mem_of_getElem? h1)),d,e1,up e2⟩⟩
 ·obtain ⟨x,e⟩:=cel y c h
  exact ⟨x,up e⟩
 ·obtain ⟨x,o,e,_⟩:=cel y c h
  exact (e0.bs _ _ e).2
 ·show (some v :: fvs.map some).length=(p :: F).length
  simp [hl]
def CanL (P:Program) (w:World) (K:PySem.W.Frag) (mg:Str->Option Value) (base:Heap) (f:Addr) (k:Nat) (p:Str) (sp:Sp):Prop:=
 ∃ fd,FnOk P w K mg base CX0 k f fd [p] sp/\(∃ oc od sl,base.get? f=some ⟨oc,od,.func fd,sl⟩)/\Binds K fd [p] []
theorem lam_ok {P:Program} {w:World} {K:PySem.W.Frag} {mg:Str->Option Value} {base:Heap} {f c:Addr} {params:Arguments} {body:Expr} {scope:Scope} {qual p:Str} {F:List Str} {fvs:List V} {k:Nat} {sp:Sp} (L:LamIn base f params body scope qual c F fvs) (S:LamSc p F scope)
  (hl:F.length=fvs.length) (hbind:∀ clos pm ctv u,bindArgs (PySem.W.kla_fn "<lambda>" qual params body scope clos pm (.ref c) ctv) ⟨[u],[]⟩=pure [(p,u)]) (len:∀ vs H Q E,sp vs H Q E->vs.length=1)
  (hbody:∀ (clos:List (Str×Addr)) (A:Around) (outer:List Env) (s:Shared) (H:Hp) (v:V) (Q:VK) (E:XK),Room k (A.deeper (PySem.W.envX qual scope s.heap.objs.size f (.ref c) clos))->sp [v] H Q E →
   H c=some (CodeO c qual)/\∃ t,PE (cxLam CX0 P w K mg base (p :: F) qual scope f (.ref c) clos A outer s H E).nox body t/\t (some v :: fvs.map some) H Q):CanL P w K mg base f (k+1) p sp:=by
 obtain ⟨pm,ctv,clos,hf,inj,has,cel,vals⟩:=L
 refine ⟨_,⟨len,fun A outer s H args us vs Q E hr e0 hb r hsp=>?_⟩,⟨_,_,_,hf⟩,.all fun us hl=>?_⟩
 ·have hl1:=len _ _ _ _ hsp
  match vs,hl1 with
  | [v],_=>
   obtain ⟨u,rfl,rv⟩:=vals1 r
   have lim:s.heap.NoLimit:=e0.mod.nolimit.keeps fun b o e=>(e0.bs b o e).1
   obtain ⟨hc,t,ht,hq⟩:=hbody clos A outer s H v Q E (hr.deeper _) hsp
   refine PySem.W.kla_callFunE hr.depth (e0.bs _ _ hf).1 rfl S.co S.gen rfl (CodeO.at e0.hok hc) (hb _ _ _ _ ?_)
   refine wpAny_newFunctionEnv S.nocell (fun y hy=>?_) (fun h' hns hsb=>?_) S.kind
   ·have e:y=(p,u):=by simpa using hy
    subst e
    exact S.par
   ·have hk:∀ b o,s.heap.get? b=some o->h'.get? b=some o:=fun b o e=>hsb.extBut b o (Nat.ne_of_lt (Heap.lt_size e)) (Heap.get?_push_of_some _ e)
    refine ⟨lim.keeps hk,PySem.W.kla_codeExpr ?_⟩
    have I:=inv_lam (CX:=CX0) (E:=E) (f:=f) (cd:=.ref c) (qual:=qual) (tk:=s.toks+([p].zip [u]).length) S hr.hd e0 rv hl inj has cel vals hns hk
    refine wpAny_mono (ht.nox [] _ _ H _ I hq) (fun u' s' hs=>?_) fun e s' hs=>hs
    obtain ⟨v',H',J,rv',q⟩:=hs
    exact ⟨v',H',J.os,J.bare,J.base,J.hok,rv',q⟩
 ·match us,hl with
  | [u],_=>exact hbind clos pm ctv u
section
variable {X:Cx} {p pos:Pos} {e:Expr} {es:List Expr} {t:TA}
def tCanF (i:Nat) (f:Addr) (sp:Sp) (t:TA):TE:=fun σ H Q=>σ[i]? = some (some (.ref f))/\t σ H fun vs H1=>sp vs H1 Q E0
theorem e_callF (x:Str) (i:Nat) {P':Program} {w':World} {K':PySem.W.Frag} {mg':Str->Option Value} {base':Heap} {f:Addr} {k:Nat} {y:Str} {sp:Sp} (V:CanL P' w' K' mg' base' f k y sp)
  (hX:X.prog=P'/\X.w=w'/\X.K=K'/\X.mg=mg'/\X.base=base') (hr:Room k X.A) (ha:PA X (e :: es) t) (hN:X.N[i]? = some x:=by with_unfolding_all rfl) (hv:visB X.env.scope x=true:=by kernel_rfl)
  (he:starEach (e :: es) X.env=(false,eval e X.env) :: starEach es X.env:=by kernel_rfl) (hpl:(backTo pos (starEach es X.env)).any (·.1)=false:=by kernel_rfl) :
  PE X (.Call (.Name x p) (e :: es) [] pos) (tCanF i f sp t):=by
 obtain ⟨rfl,rfl,rfl,rfl,rfl⟩:=hX
 obtain ⟨fd,F,⟨oc,od,sl,hf⟩,b⟩:=V
 intro pins s σ H Q I h
 obtain ⟨ef,h⟩:=h
 refine wpAny_Call_Name_kw (thn ((vn (X:=X) (pos:=p) x i hN hv) pins s σ H (fun v H'=>v = .ref f/\H'=H) I ?_) fun u s1 ⟨v,H1,I1,r1,q1,q2⟩=>?_)
 ·unfold tV
  rw [ef]
  exact ⟨rfl,rfl⟩
 ·subst q1
  subst q2
  cases r1
  have go:wpAny (model X.prog X.w) X.A (spliced (backTo pos (starEach (e :: es) X.env))) (fun vs s₁=>s₁.heap.get? f=some ⟨oc,od,.func fd,sl⟩/\wpAny (model X.prog X.w) X.A (call (.ref f) vs) (EP X pins σ Q) X.xe s₁) X.xe s1:=
   thn (ha pos pins s1 σ H1 _ I1 h) fun us s2 ⟨vs,H2,I2,r,q⟩=>⟨I2.bk _ _ hf,run_fn (dvs:=[]) (E:=E0) F hr b .nil pass0 I2 r (by rw [List.append_nil];exact q)⟩
  rw [he] at go ⊢
  exact PySem.W.callWith_of (P:=fun h=>h.get? f=some ⟨oc,od,.func fd,sl⟩) (first:=[]) (by show ((false || (backTo pos (starEach es X.env)).any (·.1)) || false)=false;rw [hpl];rfl)
   (fun h hh=>⟨.frame,.inl rfl,(PySem.W.Looks.ld (part:=none) hh).andThen .now⟩) (Calls.evalArgs_plain go)
end
end L2
end
section
namespace L2
open PySem PySem.Spec PyProof.Rows
structure Maker (mg:Str->Option Value) (base:Heap) (c P:Addr):Prop where
 bm:∃ bm ob,mg "__builtins__" = some (.ref bm)/\bm≠builtinsNs/\base.get? bm=some ob/\ob.cls = .type "module"/\ob.dict=some builtinsNs/\ob.data = .plain
 hd:PySem.W.CodeHd base c P
theorem Maker.keeps {mg:Str->Option Value} {base base':Heap} {c P:Addr} (M:Maker mg base c P) (k:∀ b o,base.get? b=some o->base'.get? b=some o):Maker mg base' c P:=
 ⟨let ⟨bm,ob,a,b,e,r⟩:=M.bm;⟨bm,ob,a,b,k _ _ e,r⟩,M.hd.keeps k⟩
def Tab (P:Addr) (pos:Pos) (qual:Str) (H:Hp):Prop:=H P=some (.tbl #[])\/∃ c,H P=some (.tbl #[rawInt pos.line,rawInt pos.col,.ref c])/\H c=some (CodeO c qual)
def SameT (P:Addr) (H H':Hp):Prop:=∀ b o,b≠P->H b=some o->H' b=some o
theorem SameT.refl (P:Addr) (H:Hp):SameT P H H:=fun _ _ _ h=>h
theorem SameT.trans {P:Addr} {H H1 H2:Hp} (a:SameT P H H1) (b:SameT P H1 H2):SameT P H H2:=fun c o n h=>b c o n (a c o n h)
theorem Same.t {P:Addr} {H H':Hp} (a:Same H H'):SameT P H H':=fun c o _ h=>a c o h
theorem Tab.mono {P:Addr} {pos:Pos} {qual:Str} {H H':Hp} (t:Tab P pos qual H) (s:Same H H'):Tab P pos qual H':=by
 rcases t with e | ⟨c,e1,e2⟩
 ·exact .inl (s _ _ e)
 ·exact .inr ⟨c,s _ _ e1,s _ _ e2⟩
theorem tab_un {Pg:Program} {w:World} {fs ex:List Addr} {H:Hp} {h h':Heap} {P c:Addr} {ps more:Array Value} {q:Str} (ok:HOk Pg w H h) (e:H P=some (.tbl ps)) (k:∀ b o,b≠P->h.get? b=some o->h'.get? b=some o) (hP:h'.get? P=some (PySem.W.tabObj (ps++more)))
  (hc:h.objs.size<=c):Un fs ex H (upd (upd H P (.tbl (ps++more))) c (CodeO c q)) h h':=by
 have nc:=ok.fresh hc
 have cP:c≠P:=fun z=>by rw [z,e] at nc;cases nc
 have at':∀ b o,b≠P->H b=some o->upd (upd H P (.tbl (ps++more))) c (CodeO c q) b=some o:=fun b o n g=>by
  rw [upd_ne (ne_of_none g nc),upd_ne n]
  exact g
 have un:∀ b,H b=none->b≠P:=fun b n z=>by rw [z,e] at n;cases n
 refine ⟨fun b o g n _ _=>k b o (un b n) g,fun b o g n _ _=>⟨o.slots,k b o (un b n) g⟩,fun b o g n _=>?_,fun b o g _=>?_,fun b xs g=>at' b _ (fun z=>by rw [z,e] at g;cases g) g,fun b o u g=>at' b _ (fun z=>by rw [z,e] at g;cases g) g,fun b qs g=>?_⟩
 ·rw [upd_ne (Nat.ne_of_lt (Nat.lt_of_lt_of_le (Heap.lt_size g) hc)),upd_ne (un b n)]
  exact n
 ·by_cases z:b=P
  ·rw [z];exact ⟨_,hP⟩
  ·exact ⟨o,k b o z g⟩
 ·by_cases z:b=P
  ·subst z
   rw [e] at g
   cases g
   exact ⟨more,by rw [upd_ne (Ne.symm cP),upd_same]⟩
  ·exact ⟨#[],by rw [at' b _ z g];simp⟩
theorem tab_hok {Pg:Program} {w:World} {H:Hp} {h h':Heap} {P c:Addr} {ps more:Array Value} {q:Str} (ok:HOk Pg w H h) (e:H P=some (.tbl ps)) (k:∀ b o,b≠P->h.get? b=some o->h'.get? b=some o) (hP:h'.get? P=some (PySem.W.tabObj (ps++more)))
  (hc:h.objs.size<=c) (rec:h'.CodeRec (.ref c) q):HOk Pg w (upd (upd H P (.tbl (ps++more))) c (CodeO c q)) h':=by
 have nc:=ok.fresh hc
 have cP:c≠P:=fun z=>by rw [z,e] at nc;cases nc
 have at':∀ b o,b≠P->H b=some o->upd (upd H P (.tbl (ps++more))) c (CodeO c q) b=some o:=fun b o n g=>by
  rw [upd_ne (ne_of_none g nc),upd_ne n]
  exact g
 intro a o g
 by_cases z:a=c
 ·subst z
  rw [upd_same] at g
  cases g
  exact CodeO.mk rec
 ·rw [upd_ne z] at g
  by_cases y:a=P
  ·subst y
   rw [upd_same] at g
   cases g
   exact hP
  ·rw [upd_ne y] at g
   refine (ok a o g).stay (fun b u hb r=>k b u ?_ r) (fun b r=>at' b _ (fun z=>by rw [z,e] at r;cases r) r) fun b xs r=>at' b _ (fun z=>by rw [z,e] at r;cases r) r
   rintro rfl
   rcases hb with rfl | hb
   ·exact y rfl
   ·rw [e] at hb;cases hb
section
variable {X:Cx} {pins:List (Addr×Obj)} {σ:St} {H:Hp} {s:Shared}
theorem lam_eval {params:Arguments} {body:Expr} {scope:Scope} {pos:Pos} {c P:Addr} {Q:Value->Shared->Prop} (I:Inv X pins σ H s) (M:Maker X.mg X.base c P) (hcd:X.env.code = .ref c) (hdef:defaultsOf params X.env=([],[]))
  (tb:Tab P pos (X.env.qual++"<lambda>") H) (hfr:∀ y∈scope.names,y.2 = .free->∃ d,X.env.cells.lookup y.1=some d)
  (h:∀ (f c':Addr) (clos:List (Str×Addr)) (pm ctv:Value) (H2:Hp) (s2:Shared),Inv X pins σ H2 s2->SameT P H H2->H2 P=some (.tbl #[rawInt pos.line,rawInt pos.col,.ref c'])->H2 c'=some (CodeO c' (X.env.qual++"<lambda>"))->H2 f=none →
   s2.heap.get? f=some (PySem.W.kla_obj "<lambda>" (X.env.qual++"<lambda>") params body scope clos pm c' ctv)->s.heap.objs.size<=f->(∀ x d,clos.lookup x=some d->X.env.cells.lookup x=some d)->(∀ y∈scope.names,y.2 = .free->∃ d,clos.lookup y.1=some d)->Q (.ref f) s2) :
  wpAny (model X.prog X.w) X.A (eval (.Lambda params body scope pos) X.env) Q X.xe s:=by
 refine PySem.W.kla_eval hdef ?_
 obtain ⟨clos,hcl,hc1,hc2⟩:=closure_ok hfr
 have hgs:=I.mod.glob.keeps I.bk
 obtain ⟨bm,ob,b1,b2,b3,b4,b5,b6⟩:=M.bm
 have hbm:=I.bk _ _ b3
 have hbG:bm≠mainGlobals:=fun q=>by
  obtain ⟨o,es,ep,e,hd,_⟩:=hgs
  rw [q,e] at hbm;cases hbm;rw [hd] at b6;cases b6
 have side:∀ {ps:Array Value},s.heap.get? P=some (PySem.W.tabObj ps)->mainGlobals≠P/\s.heap.BuiltinsAt X.mg P:=fun {ps} hP=>by
  refine ⟨fun q=>?_,bm,ob,b1,b2,hbG,fun q=>?_,hbm,b4,b5,b6⟩
  ·obtain ⟨o,es,ep,e,hd,_⟩:=hgs
   rw [q,hP] at e;cases e;cases hd
  ·rw [q,hP] at hbm;cases hbm;cases b4
 rcases tb with e | ⟨c',e1,e2⟩
 ·have hP:s.heap.get? P=some (PySem.W.tabObj #[]):=I.hok P _ e
  obtain ⟨g1,g2⟩:=side hP
  refine PySem.W.kla_makeFunction (mg:=X.mg) hcl I.ok.glob hgs hcd (M.hd.keeps I.bk) hP trivial rfl g1 g2 fun c' ctv h' tk hx hge hlt hrec htb=>?_
  have k:∀ (o:Obj) b u,b≠P->s.heap.get? b=some u->(h'.push o).get? b=some u:=fun o b u n g=>Heap.get?_push_of_some _ (hx b u n g)
  have hf:s.heap.objs.size<=h'.objs.size:=Nat.le_of_lt (Nat.lt_of_le_of_lt hge hlt)
  have nf:=I.hok.fresh hf
  have cP:c'≠P:=fun z=>by have:=I.hok.fresh hge;rw [z,e] at this;cases this
  have J:=I.un (t':=tk) (tab_un (fs:=X.fs) (ex:=[]) (more:=#[rawInt pos.line,rawInt pos.col,.ref c']) (q:=X.env.qual++"<lambda>") I.hok e (k _) (Heap.get?_push_of_some (PySem.W.kla_obj "<lambda>" (X.env.qual++"<lambda>") params body scope clos ((X.mg "__name__").getD .none) c' ctv) htb) hge)
   (tab_hok I.hok e (k _) (Heap.get?_push_of_some _ htb) hge (hrec.push _))
  refine h h'.objs.size c' clos _ ctv _ _ J (fun b o n g=>?_) ?_ upd_same ?_ (Heap.get?_push_size _ rfl) hf hc1 hc2
  ·rw [upd_ne (ne_of_none g (I.hok.fresh hge)),upd_ne n]
   exact g
  ·rw [upd_ne (Ne.symm cP),upd_same]
   simp
  ·rw [upd_ne (Nat.ne_of_gt hlt),upd_ne (fun z=>by rw [z,e] at nf;cases nf)]
   exact nf
 ·have hP:s.heap.get? P=some (PySem.W.tabObj #[rawInt pos.line,rawInt pos.col,.ref c']):=I.hok P _ e1
  obtain ⟨g1,g2⟩:=side hP
  refine PySem.W.kla_makeFunctionHit (mg:=X.mg) hcl I.ok.glob hgs hcd (M.hd.keeps I.bk) hP (TriplesOk_snoc _ _ _ [] trivial) (codeAmong_snoc [] trivial rfl) g2 fun ctv h' tk hk hsz=>?_
  have J:=I.kept (t':=tk) (h':=h'.push (PySem.W.kla_obj "<lambda>" (X.env.qual++"<lambda>") params body scope clos ((X.mg "__name__").getD .none) c' ctv)) fun b u g=>Heap.get?_push_of_some _ (hk b u g)
  exact h h'.objs.size c' clos _ ctv H _ J (SameT.refl _ _) e1 e2 (I.hok.fresh hsz) (Heap.get?_push_size _ rfl) hsz hc1 hc2
def wider (X:Cx) (h:Heap) (H:Hp):Heap:=PySem.W.hideAll h (trk h H++frs X.stack)
theorem wider_get {h:Heap} {b:Addr} {o:Obj} (e:h.get? b=some o) (n:H b=none) (f:b ∉ frs X.stack):(wider X h H).get? b=some o:=
 PySem.W.hideAll_get _ e fun hm=>by
  rcases List.mem_append.mp hm with hm | hm
  ·have q:(H b).isSome=true:=(List.mem_filter.mp hm).2
   rw [n] at q;simp at q
  ·exact f hm
theorem of_wider {h:Heap} {b:Addr} {o:Obj} (e:(wider X h H).get? b=some o):h.get? b=some o/\H b=none/\b ∉ frs X.stack:=by
 have e':h.get? b=some o:=PySem.W.of_hideAll _ e
 have nm:b ∉ trk h H++frs X.stack:=fun hm=>by rw [show (wider X h H).get? b=none from PySem.W.hideAll_none _ hm] at e;cases e
 refine ⟨e',?_,fun z=>nm (List.mem_append_right _ z)⟩
 cases q:H b with
 | none=>rfl
 | some x=>exact absurd (List.mem_append_left _ (List.mem_filter.mpr ⟨List.mem_range.mpr (Heap.lt_size e'),by simp [q]⟩)) nm
theorem Inv.nostk (I:Inv X pins σ H s) {b:Addr} {o:Obj} (e:X.base.get? b=some o):b ∉ frs X.stack:=fun hb=>by
 have:=(I.stack.mem hb).1
 rw [e] at this;cases this
theorem Inv.wide (I:Inv X pins σ H s):(∀ b o,X.base.get? b=some o->(wider X s.heap H).get? b=some o):=fun b o e=>wider_get (I.bs b o e).1 (I.bs b o e).2 (I.nostk e)
theorem funFrames_wide {h base base':Heap}:∀ {l:List Env},h.FunFrames base l->(∀ b∈frs l,base'.get? b=none)->h.FunFrames base' l
 | [],_,_=>trivial
 | env :: r,⟨hk,⟨L,o,hf,hn,ho,hd⟩,hr⟩,k=>by
  have hL:L∈frs (env :: r):=by unfold frs;rw [List.filterMap_cons,hf];exact List.mem_cons_self
  exact ⟨hk,⟨L,o,hf,k L hL,ho,hd⟩,funFrames_wide hr fun b hb=>k b (by unfold frs;rw [List.filterMap_cons,hf];exact List.mem_cons_of_mem _ hb)⟩
theorem Mod.keeps {K:PySem.W.Frag} {mg:Str->Option Value} {base base':Heap} (M:Mod K mg base) (k:∀ b o,base.get? b=some o->base'.get? b=some o):Mod K mg base':=
 ⟨M.kin.keeps k,M.glob.keeps k,let ⟨mb,a,b⟩:=M.blt;⟨mb,a.keeps k,b⟩,M.nolimit.keeps k⟩
theorem Inv.env1 (I:Inv X pins σ H s):Env0 X.prog X.w X.K X.mg (wider X s.heap H) X.A X.stack s H:=
 ⟨I.ok.frames,I.mod.keeps I.wide,fun b o e=>⟨(of_wider e).1,(of_wider e).2.1⟩,Nat.le_of_eq (PySem.W.hideAll_size _ _),funFrames_wide I.stack fun b hb=>PySem.W.hideAll_none _ (List.mem_append_right _ hb),I.stkFree,I.hok,I.bare⟩
end
section
variable {X:Cx} {p pos lp:Pos} {a:Expr} {ta:TE}
def tLam (P:Addr) (lp:Pos) (qual:Str) (js:List Nat) (sp:Addr->Addr->List V->Sp) (ta:TE):TE:=fun σ H Q=>ta σ H fun x H1=>Tab P lp qual H1/\∃ fvs:List V,js.map (fun j=>σ[j]?)=fvs.map (fun v=>some (some v)) ∧
 ∀ f c H2,SameT P H1 H2->H2 P=some (.tbl #[rawInt lp.line,rawInt lp.col,.ref c])->H2 c=some (CodeO c qual)->H2 f=none->sp f c fvs [x,.ref f] H2 Q E0
theorem e_lamcall (x:Str) {params:Arguments} {body:Expr} {scope:Scope} {c P:Addr} {F:List Str} {js:List Nat} {k:Nat} {ps:List Str} {sp:Addr->Addr->List V->Sp} (hm:∃ f,X.mg x=some (.ref f)/\PySem.W.keepIn X.K (.ref f)=true) (M:Maker X.mg X.base c P) (hcd:X.env.code = .ref c)
  (hF:∀ (i:Nat) y,F[i]? = some y->∃ j,js[i]? = some j/\X.N[j]? = some y/\X.env.scope.names.lookup y=some .cell) (hFn:F.length=js.length) (hFs:∀ y∈F,scope.names.lookup y=some .free) (hfn:∀ y,X.fn y=true) (hfree:∀ y∈scope.names,y.2 = .free->X.env.scope.names.lookup y.1=some .cell)
  (hC:∀ (B:Heap) (f c':Addr) (fvs:List V),Mod X.K X.mg B->(∀ b o,X.base.get? b=some o->B.get? b=some o)->F.length=fvs.length->LamIn B f params body scope (X.env.qual++"<lambda>") c' F fvs->Can X.prog X.w X.K X.mg B x k ps (sp f c' fvs))
  (hr:Room k X.A) (ha:PE X a ta) (hg:gB X x=true) (hdef:defaultsOf params X.env=([],[])) (hdb:(x == ("__debug__" : Str))=false)
  (he:starEach [a,.Lambda params body scope lp] X.env=[(false,eval a X.env),(false,eval (.Lambda params body scope lp) X.env)]) :
  PE X (.Call (.Name x p) [a,.Lambda params body scope lp] [] pos) (tLam P lp (X.env.qual++"<lambda>") js sp ta):=by
 obtain ⟨tf,hm,hk⟩:=hm
 intro pins s σ H Q I h
 refine wpAny_Call_Name_kw (ld_glob I (gl_of hg) hm ?_ hdb)
 have go:wpAny (model X.prog X.w) X.A (spliced (backTo pos (starEach [a,.Lambda params body scope lp] X.env))) (fun vs s₁=>X.K.In s₁.heap/\wpAny (model X.prog X.w) X.A (call (.ref tf) vs) (EP X pins σ Q) X.xe s₁) X.xe s:=by
  rw [he]
  refine Calls.spliced_cons (thn (ha pins s σ H _ I h) fun u s1 ⟨v,H1,I1,r1,q1⟩=>?_)
  obtain ⟨tb,fvs,hv,q⟩:=q1
  refine Calls.spliced_cons (lam_eval I1 M hcd hdef tb (fun y hy hz=>I1.ok.has _ (.inl (hfree y hy hz))) fun f c' clos pm ctv H2 s2 I2 sm e1 e2 nf hf hge cl1 cl2=>Calls.spliced_nil ⟨I2.kIn,?_⟩)
  have ls:F.length=fvs.length:=by
   have:=congrArg List.length hv
   rw [List.length_map,List.length_map] at this
   omega
  have nst:f ∉ frs X.stack:=fun hb=>by
   obtain ⟨_,o,ho,_⟩:=I1.stack.mem hb
   exact absurd (Heap.lt_size ho) (Nat.not_lt.mpr hge)
  have cellB:∀ {y:Str} {d:Addr} {z:Option Value},X.env.cells.lookup y=some d->s2.heap.IsCell d z->(wider X s2.heap H2).IsCell d z:=fun {y d z} hd ⟨o,eo,od⟩=>by
   refine ⟨o,wider_get eo (I2.freeC y d hd) fun hb=>?_,od⟩
   rcases List.mem_cons.mp (I2.stkSub d hb) with z1 | z1
   ·exact I2.cne y d hd z1
   ·obtain ⟨_,o',ho',_⟩:=I2.ok.funs.mem z1
    exact absurd (Heap.lt_size ho') (Nat.not_lt.mpr (I2.ok.cab y d (hfn y) hd))
  have L:LamIn (wider X s2.heap H2) f params body scope (X.env.qual++"<lambda>") c' F fvs:=by
   refine ⟨pm,ctv,clos,wider_get hf nf nst,fun y z d h1 h2=>I2.ok.inj y z d (cl1 y d h1) (cl1 z d h2),cl2,fun y d hd=>?_,fun i y v' hi hv'=>?_⟩
   ·obtain ⟨z,hz⟩:=I2.cell y d (cl1 y d hd)
    exact ⟨z,cellB (cl1 y d hd) hz⟩
   ·obtain ⟨j,hj,hN,hc⟩:=hF i y hi
    have ej:σ[j]? = some (some v'):=by
     have:=congrArg (·[i]?) hv
     simp only [List.getElem?_map,hj,hv',Option.map_some] at this
     exact Option.some.inj this
    obtain ⟨m,_,hloc⟩:=I2.loc
    obtain ⟨u',ru,lk⟩:=hloc j y v' hN ej (.inr (.inl hc))
    rcases lk with ⟨k1,_⟩ | ⟨_,d,hd,hcell⟩
    ·have k1:X.env.scope.names.lookup y=some .local:=k1
     rw [hc] at k1;cases k1
    ·obtain ⟨d',hd'⟩:=cl2 (y,.free) (PySem.mem_of_lookup (hFs y (List.mem_of_getElem? hi))) rfl
     have:=cl1 y d' hd'
     rw [hd] at this
     cases this
     exact ⟨d,u',hd',cellB hd hcell,ru⟩
  obtain ⟨f',fd,Fk,hm',hk',hb⟩:=hC _ f c' fvs I2.env1.mod I2.wide ls L
  rw [hm] at hm'
  cases hm'
  have r2:Vals [v,.ref f] [u,.ref f]:=.cons r1 (.cons rfl .nil)
  have hq:=q f c' H2 sm e1 e2 nf
  have hl:([u,Value.ref f]++[]).length=ps.length:=by rw [List.append_nil,<-r2.length];exact Fk.len _ _ _ _ hq
  refine wpAny_call (codeAny_mono (Fk.run X.A X.stack s2 H2 ⟨[u,.ref f],[]⟩ ([u,.ref f]++[]) [v,.ref f] Q E0 hr I2.env1 (hb s2 _ I2.kIn hl) (by rw [List.append_nil];exact r2) hq) fun r s' hq=>?_)
  cases r with
  | error e=>exact hq.elim
  | ok fl=>
   cases fl with
   | ret u=>exact I2.after hq
   | next=>exact False.elim hq
   | brk=>exact False.elim hq
   | cont=>exact False.elim hq
 rw [he] at go ⊢
 exact PySem.W.callWith_of (P:=fun h=>X.K.In h) (first:=[]) rfl (PySem.W.keeps_K hk) (Calls.evalArgs_plain go)
end
end L2
end
section
namespace Om
section
variable {α:Type} [DecidableEq α]
end
end Om
namespace L2
open PySem PySem.Spec PyProof.Rows
section
variable {prog:Program} {w:World} {A:Around} {I:Addr} {fp wr:List Addr} {G:Array GenState->Array GenState->Prop} {n:Nat} {P:Nat->Value->Prop} {St:Nat->Shared->Prop} {κ:Type} [DecidableEq κ] {knd:KeyKind prog w κ}
end
section
variable {X:Cx} {p pos:Pos} {e:Expr} {es:List Expr} {t:TA}
end
end L2
end
section
namespace Om
section
variable {ts:List Int} {g:Nat} {f:Nat->Bool}
def val (f:Nat->Bool) (k:Nat):Nat->Nat
 | 0=>0
 | g+1=>2 * val f k g+(if f (k+g) then 1 else 0)
end
end Om
end
section
namespace L2
open PySem PySem.Spec PyProof.Rows
section
variable {X:Cx} {p pos:Pos} {a b e:Expr} {es:List Expr} {t:TA}
def tAugN (i:Nat) (te:TE):TS:=fun D σ H=>match σ[i]? with
 | some (some (.int a))=>te σ H fun y H1=>match y with
  | .int b=>D.nx (σ.set i (some (.int (a+b)))) H1
  | _=>False
 | _=>False
theorem s_aug (y:Str) (i:Nat) {te:TE} {py:Pos} (hN:X.N.Nodup) (he:PE X e te) (hi:X.N[i]? = some y:=by with_unfolding_all rfl) (hx:locB X.env.scope y=true:=by kernel_rfl)
  (hf:(X.fn y || X.env.scope.names.lookup y == some .local)=true:=by kernel_rfl):PS X (.AugAssign (.Name y py) .Add e pos) (tAugN i te):=by
 have h:=ps_aug (pos:=pos) (pos':=py) hN hi (loc_of hx) he (ip_add (X:=X)) (by
  rw [Bool.or_eq_true] at hf
  exact hf.elim .inl fun z=>.inr (eq_of_beq z))
 intro pins s σ H D I q
 refine h pins s σ H D I ?_
 unfold tAugN at q
 split at q
 ·rename_i a ea
  have q2:te σ H fun y H1=>ipI (fun i j=>i+j) (.int a) y H1 fun z H2=>D.nx (σ.set i (some z)) H2:=by
   have e:(fun (y:V) (H1:Hp)=>match y with
    | .int b=>D.nx (σ.set i (some (.int (a+b)))) H1
    | _=>False)=fun y H1=>ipI (fun i j=>i+j) (.int a) y H1 fun z H2=>D.nx (σ.set i (some z)) H2:=by
    funext y H1
    apply propext
    unfold ipI
    constructor
    ·intro z
     split at z
     ·exact ⟨_,_,rfl,rfl,z⟩
     ·exact z.elim
    ·rintro ⟨i',j',e1,e2,z⟩
     cases e1
     cases e2
     exact z
   rw [e] at q
   exact q
  exact ⟨_,ea,q2⟩
 ·exact q.elim
end
end L2
namespace Om
end Om
end
section
namespace Om
theorem nodup_len:∀ (m:Nat) (qs:List Nat),qs.Nodup->(∀ s∈qs,s < m)->qs.length<=m
 | 0,[],_,_=>Nat.le_refl _
 | 0,q :: _,_,h=>absurd (h q List.mem_cons_self) (Nat.not_lt_zero _)
 | m+1,qs,nd,h=>by
  have ih:=nodup_len m (qs.erase m) (nd.erase m) fun s hs=>by
   have h1:=(nd.mem_erase_iff.mp hs)
   have h2:=h s h1.2
   have h3:=h1.1
   omega
  rw [List.length_erase] at ih
  split at ih<;>omega
end Om
namespace L2
open PySem PySem.Spec PyProof.Rows
theorem upd_nn {H:Hp} {a b:Addr} {o:HO} (h:upd H a o b=none):b≠a/\H b=none:=by
 by_cases e:b=a
 ·rw [e,upd_same] at h;cases h
 ·rw [upd_ne e] at h;exact ⟨e,h⟩
section
variable {H0 H H1:Hp} {D Q:Addr} {kvs:List (Key×V)} {qs:List Nat} {c:Nat}
end
end L2
end
section
namespace Om
theorem pow8 {k:Nat} (h:k<=3):2 ^ k<=8:=by
 have:k=0\/k=1\/k=2\/k=3:=by omega
 rcases this with rfl | rfl | rfl | rfl<;>decide
theorem map_nodup {α β:Type} {f:α->β} (hf:∀ a b,f a=f b->a=b):∀ {l:List α},(l.map f).Nodup↔l.Nodup
 | []=>by simp
 | x :: l=>by
  rw [List.map_cons,List.nodup_cons,List.nodup_cons,map_nodup hf]
  refine and_congr (not_congr ⟨fun h=>?_,fun h=>List.mem_map_of_mem h⟩) Iff.rfl
  obtain ⟨y,hy,e⟩:=List.mem_map.mp h
  exact hf _ _ e ▸ hy
end Om
namespace L2
open PySem PySem.Spec PyProof.Rows
def lamArgs (e:Expr):Arguments:=match e with
 | .Lambda a _ _ _=>a
 | _=>{ posonlyargs:=[],args:=[],vararg:=none,kwonlyargs:=[],kw_defaults:=[],kwarg:=none,defaults:=[] }
def lamBody (e:Expr):Expr:=match e with
 | .Lambda _ b _ _=>b
 | _=>e
def lamScope (e:Expr):Scope:=match e with
 | .Lambda _ _ sc _=>sc
 | _=>{ kind:=.function,names:=[],isGenerator:=false,isCoroutine:=false }
def lamPos (e:Expr):Pos:=match e with
 | .Lambda _ _ _ p=>p
 | _=>⟨0,0,0,0⟩
def callArg (i:Nat) (e:Expr):Expr:=match e with
 | .Call _ as _ _=>as.getD i e
 | _=>e
def retE (d:Expr) (s:Stmt):Expr:=match s with
 | .Return (some e) _=>e
 | _=>d
def wo1 (P:Addr) (H:Hp):Hp:=fun b=>if b=P then none else H b
theorem wo1.at {P b:Addr} {H:Hp} {o:HO} (h:H b=some o) (n:b≠P):wo1 P H b=some o:=by unfold wo1;rw [if_neg n];exact h
theorem wo1.same {P:Addr} {H H':Hp} (s:SameT P H H'):Same (wo1 P H) H':=fun b o e=>by
 unfold wo1 at e
 split at e
 ·cases e
 ·rename_i n
  exact s b o n e
mutual
theorem DV.wo1 {H:Hp} {P:Addr} {ps:Array Value} (hP:H P=some (.tbl ps)):∀ {v:V} {d:PyData},DV H v d->DV (wo1 P H) v d
 | _,_,.non=>.non
 | _,_,.bl b=>.bl b
 | _,_,.int i=>.int i
 | _,_,.str x=>.str x
 | _,_,.lst h r=>.lst (wo1.at h (ne_of h hP (fun z=>nomatch z))) (DVs.wo1 hP r)
 | _,_,.tup h r=>.tup (wo1.at h (ne_of h hP (fun z=>nomatch z))) (DVs.wo1 hP r)
 | _,_,.dic h=>.dic (wo1.at h (ne_of h hP (fun z=>nomatch z)))
theorem DVs.wo1 {H:Hp} {P:Addr} {ps:Array Value} (hP:H P=some (.tbl ps)):∀ {vs:List V} {ds:List PyData},DVs H vs ds->DVs (wo1 P H) vs ds
 | _,_,.nil=>.nil
 | _,_,.cons h r=>.cons (DV.wo1 hP h) (DVs.wo1 hP r)
end
theorem Tab.tbl {P:Addr} {pos:Pos} {qual:Str} {H:Hp} (t:Tab P pos qual H):∃ ps,H P=some (.tbl ps):=by
 rcases t with e | ⟨c,e,_⟩
 ·exact ⟨_,e⟩
 ·exact ⟨_,e⟩
theorem DV.monoT {H H':Hp} {P:Addr} {pos:Pos} {qual:Str} {v:V} {d:PyData} (h:DV H v d) (t:Tab P pos qual H) (s:SameT P H H'):DV H' v d:=
 let ⟨_,e⟩:=t.tbl
 (h.wo1 e).mono (wo1.same s)
theorem SameT.free {P:Addr} {H H':Hp} {l:Addr} (s:SameT P H H') (h:H' l=none) (n:l≠P):H l=none:=by
 cases q:H l with
 | none=>rfl
 | some o=>rw [s l o n q] at h;cases h
def FnC (K:PySem.W.Frag) (mg:Str->Option Value) (x:Str) (st:Stmt) (ps:List Str) (c:Addr):Prop:=∃ (f:Addr) (oc:Value) (od:Option Addr) (kV doc pm:Value) (an:Option Addr) (ct:Value) (osl:Array (Option Value)),
 K.lookup f=some ⟨oc,od,.func (PySem.W.fnOf x x (defArgs st) (defBody st) (defScope st) .none kV doc pm an (.ref c) ct),osl⟩/\PySem.W.codeIn K (.ref c) x=true/\PySem.W.keepIn K (.ref f)=true/\mg x=some (.ref f) ∧
 Binds K (PySem.W.fnOf x x (defArgs st) (defBody st) (defScope st) .none kV doc pm an (.ref c) ct) ps []
theorem can_fnC {P:Program} {w:World} {K:PySem.W.Frag} {mg:Str->Option Value} {base:Heap} {x:Str} {st:Stmt} {N ps:List Str} {k:Nat} {sp:Sp} {c:Addr} (D:FnC K mg x st ps c) (S:FnScope N ps (defScope st)) (len:∀ vs H Q E,sp vs H Q E->vs.length=ps.length)
  (hbody:∀ (f:Addr) (A:Around) (outer:List Env) (s:Shared) (H:Hp) (vs:List V) (Q:VK) (E:XK),Room k (A.deeper (envOfC x (defScope st) s.heap.objs.size f (.ref c)))->sp vs H Q E →
   ∃ t,PSs (cxOf CX0 P w K mg base N x (defScope st) f (.ref c) A outer s H E).nox (defBody st) t/\t { nx:=fun _ H'=>Q .non H',rt:=Q } (start N vs) H):Can P w K mg base x (k+1) ps sp:=by
 obtain ⟨f,oc,od,kV,doc,pm,an,ct,osl,lk,hcd,kp,hm,hb⟩:=D
 refine ⟨f,_,fn_of lk hcd S len fun A outer s H vs Q E hr hsp=>?_,hm,kp,hb⟩
 obtain ⟨t,h,q⟩:=hbody f A outer s H vs Q E hr hsp
 exact ⟨t,h.nox,q⟩
end L2
end
section
namespace Om
theorem nodup_at {α:Type} {l:List α} (nd:l.Nodup) {i j:Nat} {x:α} (a:l[i]? = some x) (b:l[j]? = some x):i=j:=by
 obtain ⟨hi,ei⟩:=List.getElem?_eq_some_iff.mp a
 obtain ⟨hj,ej⟩:=List.getElem?_eq_some_iff.mp b
 exact (List.getElem_inj nd).mp (ei.trans ej.symm)
end Om
namespace L2
open PySem PySem.Spec PyProof.Rows
theorem rows_off {H H':Hp} {rs:List V} {st:List (List Bool×Nat)} (h:DVs H rs (st.map rowD)) (k:∀ b xs,H b=some (.tup xs)->H' b=some (.tup xs)):DVs H' rs (st.map rowD):=by
 refine DVs.of_get (by rw [h.length]) fun i d hd=>?_
 rw [List.getElem?_map] at hd
 obtain ⟨r,hr,rfl⟩:=Option.map_eq_some_iff.mp hd
 obtain ⟨p,e1,e2⟩:=row_at h hr
 exact ⟨_,e1,.tup (k _ _ e2) (.cons (.str _) (.cons (.int _) .nil))⟩
structure CopyOf (H0 H:Hp) (a b:Addr) (qs:List Addr) (k n:Nat) (rows:Om.Rows):Prop where
 ha:H a=some (.tup [.int (k:Nat),.int (n:Nat),.ref b])
 nb:H0 b=none
 hb:H b=some (.lst (qs.map V.ref))
 nd:qs.Nodup
 nq:∀ q∈qs,H0 q=none/\q≠b
 len:qs.length=rows.length
 st:∀ (j:Nat) (st:List (List Bool×Nat)),rows[j]? = some st->∃ q rs,qs[j]? = some q/\H q=some (.lst rs)/\DVs H rs (st.map rowD)
section
variable {H0 H H':Hp} {a b:Addr} {qs:List Addr} {k n:Nat} {rows:Om.Rows}
theorem CopyOf.dv (C:CopyOf H0 H a b qs k n rows):DV H (.ref a) (codeD k n rows):=by
 refine .tup C.ha (.cons (.int _) (.cons (.int _) (.cons (.lst C.hb (DVs.of_get (by rw [List.length_map,List.length_map,C.len]) fun i d hd=>?_)) .nil)))
 rw [List.getElem?_map] at hd
 obtain ⟨st,hs,rfl⟩:=Option.map_eq_some_iff.mp hd
 obtain ⟨q,rs,e1,e2,e3⟩:=C.st i st hs
 exact ⟨.ref q,by rw [List.getElem?_map,e1];rfl,.lst e2 e3⟩
theorem CopyOf.mono (C:CopyOf H0 H a b qs k n rows) (s:Same H H'):CopyOf H0 H' a b qs k n rows:=
 ⟨s _ _ C.ha,C.nb,s _ _ C.hb,C.nd,C.nq,C.len,fun j st e=>let ⟨q,rs,x,y,z⟩:=C.st j st e;⟨q,rs,x,s _ _ y,z.mono s⟩⟩
theorem CopyOf.wo1 {P:Addr} {pos:Pos} {qual:Str} (C:CopyOf H0 H a b qs k n rows) (t:Tab P pos qual H) (s:SameT P H H'):CopyOf H0 H' a b qs k n rows:=by
 obtain ⟨ps,hP⟩:=t.tbl
 have lk:∀ {x:Addr} {o:HO},H x=some o->o≠.tbl ps->H' x=some o:=fun {x o} e ne=>s _ _ (ne_of e hP ne) e
 exact ⟨lk C.ha (fun z=>nomatch z),C.nb,lk C.hb (fun z=>nomatch z),C.nd,C.nq,C.len,fun j st e=>let ⟨q,rs,x,y,z⟩:=C.st j st e;⟨q,rs,x,lk y (fun z=>nomatch z),rows_off z fun c xs e=>lk e (fun z=>nomatch z)⟩⟩
theorem CopyOf.set (C:CopyOf H0 H a b qs k n rows) {s l t:Nat} {q p:Addr} {rs:List V} {st:List (List Bool×Nat)} {w:List Bool} (hs:rows[s]? = some st) (hq:qs[s]? = some q) (hr:H q=some (.lst rs)) (hd:DVs H rs (st.map rowD)) (hp:H p=some (.tup [.str (bs w),.int (t:Nat)])) :
  CopyOf H0 (upd H q (.lst (rs.set l (.ref p)))) a b qs k n (rows.set s (st.set l (w,t))):=by
 have tk:∀ c xs,H c=some (.tup xs)->upd H q (.lst (rs.set l (.ref p))) c=some (.tup xs):=fun c xs e=>by rw [upd_ne (ne_of e hr (fun z=>nomatch z))];exact e
 have qb:q≠b:=(C.nq q (List.mem_of_getElem? hq)).2
 refine ⟨tk _ _ C.ha,C.nb,by rw [upd_ne (Ne.symm qb)];exact C.hb,C.nd,C.nq,by rw [List.length_set];exact C.len,fun j st' hj=>?_⟩
 have jl:j < rows.length:=by
  have:=(List.getElem?_eq_some_iff.mp hj).1
  rwa [List.length_set] at this
 by_cases e:j=s
 ·subst e
  rw [List.getElem?_set_self jl] at hj
  cases hj
  refine ⟨q,_,hq,upd_same,DVs.of_get (by rw [List.length_set,List.length_map,List.length_set,hd.length,List.length_map]) fun i d hi=>?_⟩
  rw [List.getElem?_map] at hi
  obtain ⟨r,hr',rfl⟩:=Option.map_eq_some_iff.mp hi
  have il:i < st.length:=by
   have:=(List.getElem?_eq_some_iff.mp hr').1
   rwa [List.length_set] at this
  have rl:rs.length=st.length:=by rw [hd.length,List.length_map]
  by_cases e:i=l
  ·subst e
   rw [List.getElem?_set_self il] at hr'
   cases hr'
   exact ⟨.ref p,List.getElem?_set_self (by omega),.tup (tk _ _ hp) (.cons (.str _) (.cons (.int _) .nil))⟩
  ·rw [List.getElem?_set_ne (Ne.symm e)] at hr'
   obtain ⟨p',e1,e2⟩:=row_at hd hr'
   exact ⟨.ref p',by rw [List.getElem?_set_ne (Ne.symm e)];exact e1,.tup (tk _ _ e2) (.cons (.str _) (.cons (.int _) .nil))⟩
 ·rw [List.getElem?_set_ne (Ne.symm e)] at hj
  obtain ⟨q',rs',e1,e2,e3⟩:=C.st j st' hj
  refine ⟨q',rs',e1,?_,rows_off e3 tk⟩
  have ne:q'≠q:=fun z=>by rw [z] at e1;exact e (Om.nodup_at C.nd e1 hq)
  rw [upd_ne ne]
  exact e2
end
end L2
end
section
namespace Om
end Om
namespace L2
open PySem PySem.Spec PyProof.Rows
section
variable {F:Addr->Prop} {H0 H H' G:Hp} {d P:Addr} {pos:Pos} {qual:Str}
theorem Deck.lst (h:Deck F H d) {b:Addr} (z:F b):∃ xs,H b=some (.lst xs):=by
 obtain ⟨p,qs,n,h1,h2,h3,h4,h5,h6⟩:=h.ex
 rcases (h6 b).mp z with rfl | rfl | z
 ·exact ⟨_,h1⟩
 ·exact ⟨_,h2⟩
 ·obtain ⟨c,f,m,e⟩:=h5 b z
  exact ⟨_,e⟩
theorem Tab.off (t:Tab P pos qual H) (k:Deck F H d) (o:Off F H H'):Tab P pos qual H':=by
 have nl:∀ {b:Addr} {u:HO},H b=some u->(∀ xs,u≠.lst xs)->¬ F b:=fun {b u} e n z=>by
  obtain ⟨xs,e'⟩:=k.lst z
  rw [e] at e'
  exact n xs (Option.some.inj e')
 rcases t with e | ⟨c,e1,e2⟩
 ·exact .inl (o _ _ e (nl e fun xs z=>nomatch z))
 ·exact .inr ⟨c,o _ _ e1 (nl e1 fun xs z=>nomatch z),o _ _ e2 (nl e2 fun xs z=>nomatch z)⟩
theorem Tab.upd {b:Addr} {xs:List V} {o:HO} (t:Tab P pos qual H) (e:H b=some (.lst xs)):Tab P pos qual (upd H b o):=by
 rcases t with z | ⟨c,z1,z2⟩
 ·exact .inl (by rw [upd_ne (ne_of z e (fun y=>nomatch y))];exact z)
 ·exact .inr ⟨c,by rw [upd_ne (ne_of z1 e (fun y=>nomatch y))];exact z1,by rw [upd_ne (ne_of z2 e (fun y=>nomatch y))];exact z2⟩
theorem CopyOf.off {a b:Addr} {qs:List Addr} {k n:Nat} {rows:Om.Rows} (C:CopyOf H0 H a b qs k n rows) (k0:Deck F H0 d) (k1:Deck F H d) (o:Off F H H'):CopyOf H0 H' a b qs k n rows:=by
 have nf:∀ {x:Addr},H0 x=none->¬ F x:=fun {x} e z=>by
  obtain ⟨xs,e'⟩:=k0.lst z
  rw [e] at e';cases e'
 have tp:∀ x xs,H x=some (.tup xs)->H' x=some (.tup xs):=fun x xs e=>o _ _ e (k1.not_tup e)
 exact ⟨tp _ _ C.ha,C.nb,o _ _ C.hb (nf C.nb),C.nd,C.nq,C.len,fun j st e=>let ⟨q,rs,x,y,z⟩:=C.st j st e;⟨q,rs,x,o _ _ y (nf (C.nq q (List.mem_of_getElem? x)).1),rows_off z tp⟩⟩
end
end L2
end
section
namespace L2
open PySem PySem.Spec PyProof.Rows
theorem FnC.of {K:PySem.W.Frag} {h:Heap} {mg:Str->Option Value} {x:Str} {st:Stmt} {ps:List Str} {c P:Addr} (D:DefIn K x st) (ht:PySem.W.tabIn K x=some (c,P)) (X:K.In h) (G:h.Ns mainGlobals mg)
  (hb:∀ (kV doc pm:Value) (an:Option Addr) (cdv ct:Value) (us:List Value),us.length=ps.length->bindArgs (PySem.W.fnOf x x (defArgs st) (defBody st) (defScope st) .none kV doc pm an cdv ct) ⟨us,[]⟩=pure (ps.zip us)):FnC K mg x st ps c:=by
 obtain ⟨f,oc,od,an,osl,kV,dc,pm,cd,ct,h1,h2,h3,h4⟩:=D
 have e:cd = .ref c:=by
  unfold PySem.W.tabIn at ht
  rw [h1] at ht
  dsimp only at ht
  rw [h2] at ht
  dsimp only at ht
  split at ht
  ·rename_i c' _
   split at ht
   ·split at ht
    ·cases ht;rfl
    ·cases ht
   ·cases ht
  ·cases ht
 subst e
 exact ⟨f,oc,od,kV,dc,pm,an,ct,osl,h2,h3,h4,PySem.W.mg_of X G h1,.all (hb kV dc pm an _ ct)⟩
theorem law_callT {P:Program} {w:World} {K:PySem.W.Frag} {mg mb:Str->Option Value} {CX:CXT} {k:Nat} {fa a:Addr} {fd:FuncData} {x:Str} {sp:Sp} {s₁:Shared} {vs:List Value} {ns:List Int} {tabs:List (Addr×Addr)}
  (KX:K.In s₁.heap) (hns:s₁.heap.Ns mainGlobals mg) (hb:s₁.heap.Ns builtinsNs mb) (hbb:∀ x:Str,x≠"__name__"->mb x=bootBuiltins x) (hlim:s₁.heap.NoLimit) (hg:s₁.gens = #[])
  (ha:s₁.heap.get? a=some { cls:=.type "list",data:=.seq vs.toArray }) (hi:IntsAre vs ns) (hl:ns.length<=sizeLine) (hr:Room k callerA) (hT:PySem.W.TabsAt tabs s₁.heap) (hnt:PySem.W.noTabs K=true)
  (hbm:∃ bm ob,mg "__builtins__" = some (.ref bm)/\bm≠builtinsNs/\s₁.heap.get? bm=some ob/\ob.cls = .type "module"/\ob.dict=some builtinsNs/\ob.data = .plain)
  (F:∀ base:Heap,K.In base->base.Ns mainGlobals mg->(∀ q∈tabs,Maker mg base q.1 q.2)->FnOk P w K mg base CX k fa fd [x] sp) (hbind:∀ (s:Shared) (u:Value),BindsTo s fd ⟨[u],[]⟩ [(x,u)])
  (hsp:∀ H:Hp,(∀ q∈tabs,H q.2=some (.tbl #[]))->SqL K H a (ns.map V.int)->sp [.ref a] H (fun v _=>v = .bl true) fun _ _ _=>False)
  (hCX:∀ H e s',CX [] H s₁ (fun _ _ _=>False) e s'->False) :
  codeAny (model P w) callerA (.call (.ref fa) ⟨[.ref a],[]⟩) (fun r s'=>r = .ok (.ret (.bool true))/\OldK s₁.heap s'.heap/\s'.os=s₁.os/\AllBare s'.gens) s₁:=by
 have rv:=vals_ints hi
 have lenV:=hi.length
 have aT:∀ q∈tabs,q.2≠a:=fun q hq z=>by
  have e:=(hT q hq).2
  rw [z,ha] at e
  cases e
 have core:∀ H:Hp,(∀ b u,H b=some u->(b=a/\u = .frz { cls:=.type "list",data:=.seq vs.toArray } (.lst (ns.map V.int))/\K.lookup a=none)\/∃ q∈tabs,b=q.2/\u = .tbl #[])->(∀ q∈tabs,H q.2=some (.tbl #[]))->SqL K H a (ns.map V.int) →
   codeAny (model P w) callerA (.call (.ref fa) ⟨[.ref a],[]⟩) (fun r s'=>r = .ok (.ret (.bool true))/\OldK s₁.heap s'.heap/\s'.os=s₁.os/\AllBare s'.gens) s₁:=by
  intro H hH hTE hS
  have hok:HOk P w H s₁.heap:=fun b u e=>by
   rcases hH b u e with ⟨rfl,rfl,_⟩ | ⟨q,hq,rfl,rfl⟩
   ·exact ⟨ha,by rw [List.length_map];exact hl,vs,_,rv,ha⟩
   ·exact (hT q hq).2
  have free:∀ {b:Addr} {o:Obj},s₁.heap.get? b=some o->o.cls≠.type "list"\/(∀ y,o.data≠.seq vs.toArray y)->(o.cls≠.none\/∀ ps,o.data≠.fields ps)->H b=none:=fun {b o} e n1 n2=>by
   cases q:H b with
   | none=>rfl
   | some u=>
    rcases hH b u q with ⟨rfl,_,_⟩ | ⟨t,ht,rfl,_⟩
    ·rw [ha] at e
     cases e
     rcases n1 with n1 | n1
     ·exact absurd rfl n1
     ·exact absurd rfl (n1 _)
    ·rw [(hT t ht).2] at e
     cases e
     rcases n2 with n2 | n2
     ·exact absurd rfl n2
     ·exact absurd rfl (n2 _)
  have nsK:∀ {b:Addr} {m:Str->Option Value},s₁.heap.Ns b m->(hidT s₁.heap H).Ns b m:=fun {b m} ⟨o,es,ep,e,d,r⟩=>
   ⟨o,es,ep,hidT_get e (free e (.inr fun y z=>by rw [d] at z;cases z) (.inr fun y z=>by rw [d] at z;cases z)),d,r⟩
  have hKb:K.In (hidT s₁.heap H):=fun b o e=>hidT_get (KX b o e) (by
   cases q:H b with
   | none=>rfl
   | some u=>
    rcases hH b u q with ⟨rfl,_,z⟩ | ⟨t,ht,rfl,_⟩
    ·rw [z] at e;cases e
    ·have e1:=KX _ _ e
     rw [(hT t ht).2] at e1
     have e2:=List.all_eq_true.mp hnt _ (PySem.W.mem_of_lookupK e)
     cases e1
     exact absurd (show false=true from e2) Bool.false_ne_true)
  have hM:Mod K mg (hidT s₁.heap H):=⟨hKb,nsK hns,⟨mb,nsK hb,hbb⟩,let ⟨mc,h1,h2⟩:=hlim;⟨mc,nsK h1,h2⟩⟩
  have hMk:∀ q∈tabs,Maker mg (hidT s₁.heap H) q.1 q.2:=fun q hq=>by
   refine ⟨?_,?_⟩
   ·obtain ⟨bm,ob,b1,b2,b3,b4,b5,b6⟩:=hbm
    exact ⟨bm,ob,b1,b2,hidT_get b3 (free b3 (.inl (by rw [b4];decide)) (.inl (by rw [b4];exact fun z=>nomatch z))),b4,b5,b6⟩
   ·obtain ⟨o,c1,c2,c3,c4,c5,c6,c7,c8,e,c9,r⟩:=(hT q hq).1
    exact ⟨o,c1,c2,c3,c4,c5,c6,c7,c8,hidT_get e (free e (.inl (by rw [c9];decide)) (.inl (by rw [c9];exact fun z=>nomatch z))),c9,r⟩
  have e0:Env0 P w K mg (hidT s₁.heap H) callerA [] s₁ H:=⟨rfl,hM,fun b o e=>of_hidT e,Nat.le_of_eq (hidT_size _ _),trivial,fun b hb=>absurd (show b∈([]:List Addr) from hb) (by simp),hok,.of_eq hg⟩
  refine codeAny_mono ((F _ hKb (nsK hns) hMk).run callerA [] s₁ H ⟨[.ref a],[]⟩ [.ref a] [.ref a] _ _ hr e0 (hbind s₁ (.ref a)) (.cons rfl .nil) (hsp H hTE hS)) fun r s' h=>?_
  cases r with
  | error e=>exact (hCX H e s' h).elim
  | ok fl=>
   cases fl with
   | next=>exact False.elim h
   | brk=>exact False.elim h
   | cont=>exact False.elim h
   | ret u=>
    obtain ⟨v,H',os,bare,un,hok',r',q⟩:=h
    have q':v = .bl true:=q
    subst q'
    obtain rfl:u=Value.bool true:=r'
    have kept:∀ b o,s₁.heap.get? b=some o->(∀ t∈tabs,b≠t.2)->s'.heap.get? b=some o:=fun b o e n=>by
     cases q:H b with
     | none=>exact un.keep b o e q (by intro z;exact absurd (show b∈([]:List Addr) from z) (by simp)) (by simp)
     | some u=>
      rcases hH b u q with ⟨rfl,rfl,_⟩ | ⟨t,ht,z,_⟩
      ·have z2:=un.frzs _ _ _ q
       obtain ⟨e2,_⟩:=hok' _ _ z2
       rw [ha] at e;cases e
       exact e2
      ·exact absurd z (n t ht)
    have grown:∀ t∈tabs,∃ more,s'.heap.get? t.2=some (PySem.W.tabObj (#[]++more)):=fun t ht=>by
     obtain ⟨more,z⟩:=un.tbls _ _ (hTE t ht)
     exact ⟨more,hok' _ _ z⟩
    refine ⟨rfl,⟨fun b o e=>?_,fun b o e=>?_⟩,os,bare⟩
    ·by_cases n:∀ t∈tabs,b≠t.2
     ·exact .inl (kept b o e n)
     ·obtain ⟨t,ht,z⟩ : ∃ t∈tabs,b=t.2:=by
       refine Classical.byContradiction fun z=>n fun t ht y=>z ⟨t,ht,y⟩
      subst z
      have hP:=(hT t ht).2
      rw [hP] at e
      cases e
      obtain ⟨more,g⟩:=grown t ht
      exact .inr (.inl ⟨((hT t ht).1.tab hP).isCodeTable,rfl,#[],more,rfl,g⟩)
    ·by_cases n:∀ t∈tabs,b≠t.2
     ·exact ⟨o,kept b o e n⟩
     ·obtain ⟨t,ht,z⟩ : ∃ t∈tabs,b=t.2:=by
       refine Classical.byContradiction fun z=>n fun t ht y=>z ⟨t,ht,y⟩
      subst z
      obtain ⟨more,g⟩:=grown t ht
      exact ⟨_,g⟩
 cases hk:K.lookup a with
 | some o=>
  have e:=KX a o hk
  rw [ha] at e
  cases e
  refine core (fun b=>if b∈tabs.map (·.2) then some (.tbl #[]) else none) (fun b u e=>?_) (fun q hq=>if_pos (List.mem_map_of_mem hq)) (.inr ⟨_,vs.toArray,_,hk,rfl,rfl,rfl,by rw [List.size_toArray,lenV];exact hl,by simpa using rv⟩)
  by_cases n:b∈tabs.map (·.2)
  ·obtain ⟨q,hq,rfl⟩:=List.mem_map.mp n
   have z:=(if_pos n).symm.trans e
   cases z
   exact .inr ⟨q,hq,rfl,rfl⟩
  ·have z:=(if_neg n).symm.trans e
   cases z
 | none=>
  refine core (fun b=>if b=a then some (.frz { cls:=.type "list",data:=.seq vs.toArray } (.lst (ns.map V.int))) else if b∈tabs.map (·.2) then some (.tbl #[]) else none) (fun b u e=>?_) (fun q hq=>?_) (.inl (.inr ⟨{ cls:=.type "list",data:=.seq vs.toArray },if_pos rfl⟩))
  ·by_cases m:b=a
   ·have z:=(if_pos m).symm.trans e
    cases z
    exact .inl ⟨m,rfl,hk⟩
   ·have z:=(if_neg m).symm.trans e
    by_cases n:b∈tabs.map (·.2)
    ·obtain ⟨q,hq,rfl⟩:=List.mem_map.mp n
     have z2:=(if_pos n).symm.trans z
     cases z2
     exact .inr ⟨q,hq,rfl,rfl⟩
    ·have z2:=(if_neg n).symm.trans z
     cases z2
  ·show (if q.2=a then _ else _)=_
   rw [if_neg (aT q hq)]
   exact if_pos (List.mem_map_of_mem hq)
theorem walk_ofT {l:PySem.W.OpenLaw} {n k:Nat} {q:Program} {loose:List Str} {XP:(Str->Option Value)->Heap->Prop} {YP:World->Heap->Prop} {d:DefRec} {K:Params->PySem.W.Frag} {CX:World->CXT} {sp:World->Sp} {x:Str} {c0 P0:Addr}
  (hn:l.most=some n) (hn2:n<=sizeLine) (hdf:d.params.defaults=[]) (hr:Room k callerA) (hY:∀ (w:World) (h:Heap),YP w h->(K w.params).In h) (hnt:∀ w:World,PySem.W.noTabs (K w.params)=true)
  (htb:∀ (w:World) (h:Heap),YP w h->h.get? P0=some (PySem.W.tabObj #[])) (hcd:∀ w:World,PySem.W.codeHdIn (K w.params) c0 P0=true)
  (F:∀ (w:World) (mg:Str->Option Value) (fa:Addr) (h:Heap),(K w.params).In h->h.Ns mainGlobals mg->mg d.name=some (.ref fa) →
   ∃ fd:FuncData,(∀ (s:Shared) (u:Value),BindsTo s fd ⟨[u],[]⟩ [(x,u)]) ∧
    ∀ base:Heap,(K w.params).In base->base.Ns mainGlobals mg->Maker mg base c0 P0->FnOk l.prog w (K w.params) mg base (CX w) k fa fd [x] (sp w))
  (hsp:∀ (w:World) (H:Hp) (a:Addr) (ns:List Int),ns.length<=n->H P0=some (.tbl #[])->SqL (K w.params) H a (ns.map V.int)->sp w [.ref a] H (fun v _=>v = .bl true) fun _ _ _=>False)
  (hCX:∀ (w:World) (H:Hp) (s:Shared) (e:Value) (s':Shared),CX w [] H s (fun _ _ _=>False) e s'->False) :
  PySem.W.WalkO q loose XP YP l.row.toRowW d [] (fun f vs=>PySem.call f vs):=by
 refine Att.attach_call hn hdf fun w s₀ s₁ mg mb fa o pm cd doc a vs ns G Y ho hd hcd' hmg hobj hints hlen hg=>?_
 have KX:=hY w _ Y
 obtain ⟨fd,hb,hF⟩:=F w mg fa _ KX G.T.g hmg
 exact law_callT (tabs:=[(c0,P0)]) KX G.T.g G.T.b G.T.builtins G.T.nolimit hg hobj hints (Nat.le_trans hlen hn2) hr (fun q hq=>by rw [List.mem_singleton.mp hq];exact ⟨PySem.W.codeHd_of_K KX (hcd w),htb w _ Y⟩) (hnt w) G.T.bmain
  (fun base kb nb m=>hF base kb nb (m (c0,P0) (List.mem_singleton.mpr rfl))) hb (fun H hO hS=>hsp w H a ns hlen (hO (c0,P0) (List.mem_singleton.mpr rfl)) hS) fun H e s'=>hCX w H s₁ e s'
end L2
end
section
namespace L2
open PySem PySem.Spec PyProof.Rows
section
variable {X:Cx} {p pos:Pos} {k v:Expr} {tk tv:TE}
def tDispT (tk tv:TE):TE:=fun σ H Q=>∀ p,H p=none->tk σ (upd H p (.dT [])) fun x H1=>tv σ H1 fun y H2=>H2 p=some (.dT [])/\∃ (b:Addr) (ks:List Key),x = .ref b/\H2 b=some (.tup (ks.map kV))/\Q (.ref p) (upd H2 p (.dT [(ks,y)]))
theorem pe_dispT (hu:X.A.units+64 < cLine) (hk:PE X k tk) (hv:PE X v tv):PE X (.Dict [some k] [v] pos) (tDispT tk tv):=by
 intro pins s σ H Q I q
 have hshape:(evalEachOpt [some k] X.env).zip ((evalEach [v] X.env).map fun v=>do let x <-v;standAt pos;pure x)=[(eval k X.env,(do let x <-eval v X.env;standAt pos;pure x:Sem Value))].map fun p=>(some p.1,p.2):=rfl
 have hn:=I.hok.fresh (Nat.le_refl s.heap.objs.size)
 have I1:=I.laid (a:=s.heap.objs.size) (o:=.dT []) (h':=s.heap.push { cls:=.type "dict",data:=.dict #[] }) (t':=s.toks) (fun _ _ q=>Heap.get?_push_of_some _ q) (Nat.le_refl _) (dt_empty s.heap I.big)
 rw [arm_eval_Dict,hshape,dictDisplay_pairs _ (by simp) (Nat.le_of_ble_eq_true rfl)]
 refine wpAny_bind (wpAny_standAt (wpAny_bind ?_))
 unfold subDict
 refine wpAny_bind (wpAny_alloc ?_)
 refine wpAny_bind (wpAny_holding ?_)
 rw [if_pos (Nat.le_of_ble_eq_true rfl)]
 refine wpAny_bind (evalPairs_cons (thn (hk pins _ σ _ _ I1 (q _ hn)) fun u s1 ⟨x,H1,J1,rx,q1⟩=>wpAny_bind (thn (hv pins s1 σ H1 _ J1 q1) fun u2 s2 ⟨y,H2,I2,ry,e,b,ks,ex,eb,q2⟩=>wpAny_bind (wpAny_standAt (wpAny_pure (evalPairs_nil ?_))))))
 subst ex
 cases (show u=Value.ref b from rx)
 refine wpAny_holding (wpAny_bind ?_)
 rw [List.forIn_cons]
 obtain ⟨z,hd,xs,rel,dd⟩:=dt_of I2.hok e
 cases rel
 refine wpAny_bind (wpAny_bind (wpAny_dictSet_heap (knd:=tupleKind (mixKind X.prog X.w)) (k:=ks) (xs:=[]) (by show _ < cLine;have:=hu;omega) (key_of I2.hok eb) dd fun h' dd' hs=>wpAny_pure ?_))
 dsimp only
 rw [List.forIn_nil]
 refine wpAny_pure (wpAny_pure (wpAny_pure (wpAny_pure ?_)))
 obtain ⟨qo,es,ep,hq,h2,h3,h4,_,h5⟩:=dd'
 refine ⟨.ref s.heap.objs.size,_,d_write (ob:=.dT [(ks,y)]) I2 (by rw [e];exact True.intro) hs ⟨qo,hq⟩ ⟨?_,hd,_,(KT.put (H:=H2) (kvs:=[]) (xs:=[]) .nil ks eb ry).keeps fun c ys ec=>?_,qo,es,ep,hq,h2,h3,h4,h5⟩,rfl,q2⟩
 ·rw [sizeLine_eq];simp
 ·rw [upd_ne (ne_of ec e (fun z=>nomatch z))]
  exact ec
end
end L2
end
section
namespace Om
inductive Wr (rows:Rows) (a:Nat):List Bool->Nat->Prop
 | nil:Wr rows a [] a
 | snoc {w:List Bool} {b:Nat} {r:List Bool×Nat}:Wr rows a w b->r∈rows.getD b []->Wr rows a (w++r.1) r.2
section
variable {k n:Nat} {rows:Rows} {a b c:Nat} {w v:List Bool}
theorem Wr.app (h1:Wr rows a w b) (h2:Wr rows b v c):Wr rows a (w++v) c:=by
 induction h2 with
 | nil=>rw [List.append_nil];exact h1
 | snoc _ hr ih=>rw [<-List.append_assoc];exact .snoc ih hr
theorem row_in (ok:CodeOk k n rows) {s:Nat} {r:List Bool×Nat} (hr:r∈rows.getD s []):r.1.length=n/\r.2 < rows.length/\s < rows.length:=by
 by_cases hs:s < rows.length
 ·rw [List.getD_eq_getElem?_getD,List.getElem?_eq_getElem hs] at hr
  have:=ok.row _ (List.getElem_mem hs) r hr
  exact ⟨this.1,this.2,hs⟩
 ·rw [List.getD_eq_getElem?_getD,List.getElem?_eq_none (by omega)] at hr
  exact absurd hr (by simp)
theorem Wr.lt (ok:CodeOk k n rows) (ha:a < rows.length) (h:Wr rows a w b):b < rows.length:=by
 cases h with
 | nil=>exact ha
 | snoc _ hr=>exact (row_in ok hr).2.1
theorem Wr.len (ok:CodeOk k n rows) (h:Wr rows a w b):∃ j,w.length=j * n:=by
 induction h with
 | nil=>exact ⟨0,by simp⟩
 | snoc _ hr ih=>
  obtain ⟨j,hj⟩:=ih
  exact ⟨j+1,by rw [List.length_append,hj,(row_in ok hr).1,Nat.add_mul,Nat.one_mul]⟩
theorem Wr.split (ok:CodeOk k n rows) (h:Wr rows a w c):∀ j,j * n<=w.length->∃ w1 w2 s,w=w1++w2/\w1.length=j * n/\Wr rows a w1 s/\Wr rows s w2 c:=by
 induction h with
 | nil=>
  intro j hj
  have:j * n=0:=by simpa using hj
  exact ⟨[],[],a,rfl,by rw [this];rfl,.nil,.nil⟩
 | @snoc w b r hw hr ih=>
  intro j hj
  by_cases hl:j * n<=w.length
  ·obtain ⟨w1,w2,s,e,l1,h1,h2⟩:=ih j hl
   exact ⟨w1,w2++r.1,s,by rw [e,List.append_assoc],l1,h1,.snoc h2 hr⟩
  ·obtain ⟨i,hi⟩:=hw.len ok
   have rn:=(row_in ok hr).1
   rw [List.length_append,hi,rn] at hj
   rw [hi] at hl
   have e:j=i+1:=by
    have n1:=ok.n1
    have h1:i < j:=Nat.lt_of_mul_lt_mul_right (Nat.lt_of_not_le hl)
    have h2:j * n<=(i+1) * n:=by rw [Nat.add_mul,Nat.one_mul];exact hj
    have h3:j<=i+1:=Nat.le_of_mul_le_mul_right h2 n1
    omega
   subst e
   exact ⟨w++r.1,[],r.2,by rw [List.append_nil],by rw [List.length_append,hi,rn,Nat.add_mul,Nat.one_mul],.snoc hw hr,.nil⟩
def Fac (rows:Rows) (u:List Bool):Prop:=∃ w b p q,Wr rows 0 w b/\w=p++u++q
def lastN (m:Nat) (w:List Bool):List Bool:=w.drop (w.length - m)
theorem lastN_app (m:Nat) (w v:List Bool):lastN m (lastN m w++v)=lastN m (w++v):=by
 unfold lastN
 rw [<-List.drop_append_of_le_length (Nat.sub_le _ _),List.drop_drop]
 congr 1
 rw [List.length_drop,List.length_append]
 omega
theorem lastN_le (m:Nat) (w:List Bool):(lastN m w).length<=m:=by unfold lastN;rw [List.length_drop];omega
theorem lastN_pre (m:Nat) (w:List Bool):∃ x,w=x++lastN m w:=⟨w.take (w.length - m),(List.take_append_drop _ _).symm⟩
inductive RchG {N:Type} (nx:N->List N) (n0:N):N->Prop
 | z:RchG nx n0 n0
 | s {x y:N}:RchG nx n0 x->y∈nx x->RchG nx n0 y
theorem rchG_in {N:Type} {nx:N->List N} {n0:N} {qs:List N} (h0:n0∈qs) (hc:∀ x∈qs,∀ y∈nx x,y∈qs):∀ x,RchG nx n0 x->x∈qs:=fun x h=>by
 induction h with
 | z=>exact h0
 | s _ hb ih=>exact hc _ ih _ hb
def stepT (rows:Rows) (m:Nat) (x:List Bool×Nat):List (List Bool×Nat):=(rows.getD x.2 []).map fun r=>(lastN m (x.1++r.1),r.2)
theorem rchT_iff {m:Nat} {x:List Bool×Nat}:RchG (stepT rows m) ([],0) x↔∃ w,Wr rows 0 w x.2/\x.1=lastN m w:=by
 constructor
 ·intro h
  induction h with
  | z=>exact ⟨[],.nil,by unfold lastN;simp⟩
  | s _ hb ih=>
   obtain ⟨w,hw,e⟩:=ih
   obtain ⟨r,hr,rfl⟩:=List.mem_map.mp hb
   exact ⟨w++r.1,.snoc hw hr,by rw [e];exact lastN_app m w r.1⟩
 ·rintro ⟨w,hw,e⟩
  obtain ⟨t,s⟩:=x
  dsimp only at hw e
  subst e
  induction hw with
  | nil=>
   have e:lastN m []=[]:=by unfold lastN;simp
   rw [e]
   exact .z
  | @snoc w b r hw hr ih=>
   refine .s ih ?_
   refine List.mem_map.mpr ⟨r,hr,?_⟩
   dsimp only
   rw [lastN_app]
def Stand (rows:Rows) (L:Nat) (u:List Bool):Prop:=∃ t s r p q,RchG (stepT rows (L - 1)) ([],0) (t,s)/\r∈rows.getD s []/\t++r.1=p++u++q/\u.length=L
theorem stand_iff {L:Nat} (hL:1<=L) {u:List Bool}:Stand rows L u↔u.length=L/\Fac rows u:=by
 constructor
 ·rintro ⟨t,s,r,p,q,h,hr,e,ul⟩
  refine ⟨ul,?_⟩
  obtain ⟨w,hw,et⟩:=rchT_iff.mp h
  dsimp only at hw et
  obtain ⟨x,ex⟩:=lastN_pre (L - 1) w
  refine ⟨w++r.1,r.2,x++p,q,.snoc hw hr,?_⟩
  rw [ex,<-et,List.append_assoc,e]
  simp [List.append_assoc]
 ·rintro ⟨ul,w,b,p,q,hw,e⟩
  induction hw generalizing p q with
  | nil=>
   have:u.length=0:=by
    have:=congrArg List.length e
    simp at this
    omega
   omega
  | @snoc w b r hw hr ih=>
   by_cases hl:(p++u).length<=w.length
   ·have h1:w=p++u++q.take (w.length - (p++u).length):=by
     have h2:=congrArg (List.take w.length) e
     rw [List.take_append_of_le_length (Nat.le_refl _),List.take_length,List.take_append,List.take_of_length_le hl] at h2
     exact h2
    exact ih p _ h1
   ·have hp:w.length - (L - 1)<=p.length:=by
     rw [List.length_append,ul] at hl
     omega
    refine ⟨lastN (L - 1) w,b,r,p.drop (w.length - (L - 1)),q,rchT_iff.mpr ⟨w,hw,rfl⟩,hr,?_,ul⟩
    unfold lastN
    rw [<-List.drop_append_of_le_length (Nat.sub_le _ _),e,List.append_assoc,List.drop_append_of_le_length hp,<-List.append_assoc]
def vb:List Bool->Nat
 | []=>1
 | b :: t=>2 * vb t+(if b then 1 else 0)
theorem vb_pos:∀ t,1<=vb t
 | []=>Nat.le_refl _
 | b :: t=>by have:=vb_pos t;unfold vb;omega
theorem vb_lt:∀ t,vb t < 2 ^ (t.length+1)
 | []=>by decide
 | b :: t=>by
  have:=vb_lt t
  unfold vb
  rw [List.length_cons,Nat.pow_succ]
  split<;>omega
theorem vb_inj:∀ {s t:List Bool},vb s=vb t->s=t
 | [],[],_=>rfl
 | [],b :: t,h=>by
  have:=vb_pos t
  unfold vb at h
  split at h<;>omega
 | b :: t,[],h=>by
  have:=vb_pos t
  unfold vb at h
  split at h<;>omega
 | b :: s,c :: t,h=>by
  unfold vb at h
  have hb:b=c:=by
   cases b<;>cases c<;>simp at h ⊢<;>omega
  subst hb
  rw [vb_inj (s:=s) (t:=t) (by split at h<;>omega)]
theorem nodup_on {α β:Type} {f:α->β}:∀ {l:List α},(∀ a∈l,∀ b∈l,f a=f b->a=b)->l.Nodup->(l.map f).Nodup
 | [],_,_=>List.nodup_nil
 | x :: l,h,nd=>by
  rw [List.nodup_cons] at nd
  rw [List.map_cons,List.nodup_cons]
  refine ⟨fun z=>?_,nodup_on (fun a ha b hb=>h a (List.mem_cons_of_mem _ ha) b (List.mem_cons_of_mem _ hb)) nd.2⟩
  obtain ⟨y,hy,e⟩:=List.mem_map.mp z
  exact nd.1 (h y (List.mem_cons_of_mem _ hy) x List.mem_cons_self e ▸ hy)
theorem few_texts {us:List (List Bool)} {m:Nat} (nd:us.Nodup) (h:∀ u∈us,u.length<=m):us.length<=2 ^ (m+1):=by
 have:=nodup_len (2 ^ (m+1)) (us.map vb) ((map_nodup fun a b e=>vb_inj e).mpr nd) fun s hs=>by
  obtain ⟨u,hu,rfl⟩:=List.mem_map.mp hs
  exact Nat.lt_of_lt_of_le (vb_lt u) (Nat.pow_le_pow_right (by decide) (by have:=h u hu;omega))
 rwa [List.length_map] at this
theorem few_nodes {xs:List (List Bool×Nat)} {m:Nat} (nd:xs.Nodup) (h:∀ x∈xs,x.1.length<=m/\x.2 < 8):xs.length<=2 ^ (m+1) * 8:=by
 have:=nodup_len (2 ^ (m+1) * 8) (xs.map fun x=>vb x.1 * 8+x.2) ?_ fun s hs=>?_
 ·rwa [List.length_map] at this
 ·refine nodup_on (fun x hx y hy e=>?_) nd
  have h1:=(h x hx).2
  have h2:=(h y hy).2
  have e1:vb x.1=vb y.1:=by omega
  have e2:x.2=y.2:=by omega
  exact Prod.ext (vb_inj e1) e2
 ·obtain ⟨x,hx,rfl⟩:=List.mem_map.mp hs
  have h1:=vb_lt x.1
  have h2:2 ^ (x.1.length+1)<=2 ^ (m+1):=Nat.pow_le_pow_right (by decide) (by have:=(h x hx).1;omega)
  have h3:=(h x hx).2
  omega
end
end Om
end
section
namespace Om
abbrev Sn:=Nat->Prop
def aft (rows:Rows) (S:Sn) (w:List Bool):Sn:=fun y=>∃ x i,S x/\i < (rows.getD x []).length/\step rows x i=(w,y)
def afts (rows:Rows) (S:Sn) (ws:List (List Bool)):Sn:=ws.foldl (aft rows) S
end Om
namespace L2
open PySem PySem.Spec PyProof.Rows
theorem bs_mid {w:List Bool} {i j:Int} (h0:0<=i) (h1:i<=j) (h2:j<=w.length):Txt.slice (bs w) (some i) (some j)=bs ((w.drop i.toNat).take (j - i).toNat):=by
 have e:(bs w).cps.toList=w.map sg:=by show (w.map sg).toArray.toList=_;simp
 have:=StrLaws.sliceText_plain (x:=bs w) (i:=i) (j:=j) ⟨h0,h1,by rw [e,List.length_map];exact h2⟩
 refine Eq.trans (show Txt.slice (bs w) (some i) (some j)=StrLaws.sliceText (bs w) (some i) (some j) from rfl) (this.trans ?_)
 rw [e]
 simp [bs,List.map_take,List.map_drop]
section
variable {ks:List Nat} {kvs:List (Key×V)} {x:Nat} {v:V}
end
end L2
end
section
namespace Om
def adds {α:Type} [DecidableEq α] (xs:List α) (x:α):List α:=if x∈xs then xs else xs++[x]
section
variable {α:Type} [DecidableEq α] {xs:List α} {x y:α}
theorem mem_adds:y∈adds xs x↔y∈xs\/y=x:=by
 unfold adds
 split
 ·rename_i h
  exact ⟨.inl,fun z=>z.elim id fun e=>e ▸ h⟩
 ·rw [List.mem_append,List.mem_singleton]
theorem nodup_adds (nd:xs.Nodup):(adds xs x).Nodup:=by
 unfold adds
 split
 ·exact nd
 ·rename_i h
  rw [List.nodup_append]
  refine ⟨nd,by simp,fun a ha b hb z=>?_⟩
  have:b=x:=by simpa using hb
  subst this
  subst z
  exact h ha
end
end Om
namespace L2
open PySem PySem.Spec PyProof.Rows
section
variable {κ N:Type} [DecidableEq κ] [DecidableEq N]
theorem keys_map {kvs:List (κ×V)} {k:κ} {v:V}:(kvs.map fun kv=>if kv.1=k then (kv.1,v) else kv).map (·.1)=kvs.map (·.1):=by
 rw [List.map_map]
 refine List.map_congr_left fun kv _=>?_
 show (if kv.1=k then (kv.1,v) else kv).1=kv.1
 split<;>rfl
theorem val_has {kvs:List (κ×V)} {k:κ}:(valV kvs k).isSome=decide (k∈kvs.map (·.1)):=by
 rw [<-valV_any,Bool.eq_iff_iff,List.any_eq_true,decide_eq_true_eq,List.mem_map]
 constructor
 ·rintro ⟨kv,h,e⟩
  exact ⟨kv,h,by simpa using e⟩
 ·rintro ⟨kv,h,e⟩
  exact ⟨kv,h,by simpa using e⟩
structure KS (key:N->κ) (kvs:List (κ×V)) (xs:List N):Prop where
 ks:kvs.map (·.1)=xs.map key
 nd:xs.Nodup
theorem KS.nil {key:N->κ}:KS key [] ([]:List N):=⟨rfl,List.nodup_nil⟩
theorem KS.len {key:N->κ} {kvs:List (κ×V)} {xs:List N} (h:KS key kvs xs):kvs.length=xs.length:=by
 have:=congrArg List.length h.ks
 rwa [List.length_map,List.length_map] at this
theorem KS.has {key:N->κ} (inj:∀ a b,key a=key b->a=b) {kvs:List (κ×V)} {xs:List N} (h:KS key kvs xs) (x:N):(valV kvs (key x)).isSome=decide (x∈xs):=by
 rw [val_has,h.ks,Bool.eq_iff_iff,decide_eq_true_eq,decide_eq_true_eq,List.mem_map]
 exact ⟨fun ⟨y,hy,e⟩=>inj _ _ e ▸ hy,fun hx=>⟨x,hx,rfl⟩⟩
theorem KS.put {key:N->κ} (inj:∀ a b,key a=key b->a=b) {kvs:List (κ×V)} {xs:List N} (h:KS key kvs xs) (x:N) (v:V):KS key (putK kvs (key x) v) (Om.adds xs x):=by
 refine ⟨?_,Om.nodup_adds h.nd⟩
 have hs:=h.has inj x
 unfold Om.adds
 by_cases e:x∈xs
 ·rw [if_pos e]
  rw [decide_eq_true e] at hs
  unfold putK
  rw [valV_any,if_pos hs,keys_map]
  exact h.ks
 ·rw [if_neg e]
  rw [decide_eq_false e] at hs
  have vn:valV kvs (key x)=none:=by
   cases q:valV kvs (key x) with
   | none=>rfl
   | some y=>rw [q] at hs;cases hs
  rw [putK_new _ vn,List.map_append,List.map_append,h.ks]
  rfl
end
def tk (u:List Bool):Key:=Sum.inr (bs u)
theorem tk_inj (a b:List Bool) (h:tk a=tk b):a=b:=bs_inj (Sum.inr.inj h)
def nkey (x:List Bool×Nat):List Key:=[Sum.inr (bs x.1),Sum.inl ((x.2:Nat):Int)]
theorem nkey_inj (a b:List Bool×Nat) (h:nkey a=nkey b):a=b:=by
 unfold nkey at h
 injection h with h1 h2
 injection h2 with h2 _
 have e1:=bs_inj (Sum.inr.inj h1)
 have e2:((a.2:Nat):Int)=((b.2:Nat):Int):=Sum.inl.inj h2
 exact Prod.ext e1 (by omega)
def StpsT (H:Hp) (ps:List V) (xs:List (List Bool×Nat)):Prop:=ps.length=xs.length/\∀ (i:Nat) x,xs[i]? = some x->∃ q z,ps[i]? = some (.ref q)/\H q=some (.tup [.int (i:Nat),.ref z])/\H z=some (.tup [.str (bs x.1),.int (x.2:Nat)])
theorem StpsT.mono {H H':Hp} {ps:List V} {xs:List (List Bool×Nat)} (h:StpsT H ps xs) (s:Same H H'):StpsT H' ps xs:=⟨h.1,fun i x e=>let ⟨q,z,a,b,c⟩:=h.2 i x e;⟨q,z,a,s _ _ b,s _ _ c⟩⟩
structure Tt (H0 H:Hp) (D Q:Addr) (kvs:List (List Key×V)) (xs:List (List Bool×Nat)) (bs':List Addr):Prop where
 s:Same H0 H
 nD:H0 D=none
 nQ:H0 Q=none
 hD:H D=some (.dT kvs)
 hQ:H Q=some (.lst (bs'.map V.ref))
 kz:KS nkey kvs xs
 ql:bs'.length=xs.length
 qt:∀ (i:Nat) x,xs[i]? = some x->∃ b,bs'[i]? = some b/\H b=some (.tup [.str (bs x.1),.int (x.2:Nat)])
 vl:∀ x∈xs,∃ t zs,valV kvs (nkey x)=some (.ref t)/\H t=some (.lst zs)/\zs.length<=xs.length/\t≠Q
section
variable {H0 H H1:Hp} {D Q:Addr} {kvs:List (List Key×V)} {xs:List (List Bool×Nat)} {bz:List Addr}
theorem Tt.mono (g:Tt H0 H D Q kvs xs bz) (s:Same H H1):Tt H0 H1 D Q kvs xs bz:=
 ⟨g.s.trans s,g.nD,g.nQ,s _ _ g.hD,s _ _ g.hQ,g.kz,g.ql,fun i x e=>let ⟨b,a,c⟩:=g.qt i x e;⟨b,a,s _ _ c⟩,fun x hx=>let ⟨t,zs,a,b,r⟩:=g.vl x hx;⟨t,zs,a,s _ _ b,r⟩⟩
theorem Tt.put_at {b:Addr} {o:HO} {ys:List V} {kvs':List (List Key×V)} (h:H b=some o) (bD:b≠D) (bQ:b≠Q):upd (upd H D (.dT kvs')) Q (.lst ys) b=some o:=by
 rw [upd_ne bQ,upd_ne bD];exact h
theorem Tt.put (g:Tt H0 H D Q kvs xs bz) {u z:Addr} {zs:List V} {x:List Bool×Nat} (nx:x ∉ xs) (hu:H u=some (.lst zs)) (uQ:u≠Q) (hz:zs.length<=xs.length+1) (hx:H z=some (.tup [.str (bs x.1),.int (x.2:Nat)])) :
  Tt H0 (upd (upd H D (.dT (putK kvs (nkey x) (.ref u)))) Q (.lst (bz.map V.ref++[.ref z]))) D Q (putK kvs (nkey x) (.ref u)) (xs++[x]) (bz++[z]):=by
 have DQ:D≠Q:=ne_of g.hD g.hQ (fun z=>nomatch z)
 have kp:=g.kz.put nkey_inj x (.ref u)
 unfold Om.adds at kp
 rw [if_neg nx] at kp
 have tp:∀ {b:Addr} {ys:List V},H b=some (.tup ys)->upd (upd H D (.dT (putK kvs (nkey x) (.ref u)))) Q (.lst (bz.map V.ref++[.ref z])) b=some (.tup ys):=fun {b ys} h=>Tt.put_at h (ne_of h g.hD (fun z=>nomatch z)) (ne_of h g.hQ (fun z=>nomatch z))
 have lk:∀ {b:Addr} {ys:List V},H b=some (.lst ys)->b≠Q->upd (upd H D (.dT (putK kvs (nkey x) (.ref u)))) Q (.lst (bz.map V.ref++[.ref z])) b=some (.lst ys):=fun {b ys} h n=>Tt.put_at h (ne_of h g.hD (fun z=>nomatch z)) n
 refine ⟨fun b o e=>?_,g.nD,g.nQ,by rw [upd_ne DQ,upd_same],by rw [upd_same,List.map_append];rfl,kp,by rw [List.length_append,List.length_append,g.ql];rfl,fun i y hy=>?_,fun y hy=>?_⟩
 ·rw [upd_ne (ne_of_none e g.nQ),upd_ne (ne_of_none e g.nD)]
  exact g.s _ _ e
 ·by_cases il:i < xs.length
  ·rw [List.getElem?_append_left il] at hy
   obtain ⟨b,a1,a2⟩:=g.qt i y hy
   exact ⟨b,by rw [List.getElem?_append_left (by rw [g.ql];exact il)];exact a1,tp a2⟩
  ·have ie:i=xs.length:=by
    have:=(List.getElem?_eq_some_iff.mp hy).1
    rw [List.length_append] at this
    simp at this
    omega
   subst ie
   rw [List.getElem?_append_right (Nat.le_refl _)] at hy
   simp at hy
   subst hy
   exact ⟨z,by rw [List.getElem?_append_right (by rw [g.ql];exact Nat.le_refl _),g.ql];simp,tp hx⟩
 ·rw [List.length_append]
  by_cases e:y=x
  ·subst e
   exact ⟨u,zs,by rw [valV_put,if_pos rfl],lk hu uQ,hz,uQ⟩
  ·obtain ⟨t',ys,a,b,d,f⟩:=g.vl y ((List.mem_append.mp hy).resolve_right (fun z=>e (by simpa using z)))
   exact ⟨t',ys,by rw [valV_put,if_neg (fun z=>e (nkey_inj _ _ z))];exact a,lk b f,Nat.le_trans d (Nat.le_add_right _ _),f⟩
theorem Tt.start {Z n0:Addr} {x0:List Bool×Nat} (hD:H D=none) (hZ:upd H D (.dT []) Z=none) (h0:H n0=some (.tup [.str (bs x0.1),.int (x0.2:Nat)])) (hQ:upd (upd (upd H D (.dT [])) Z (.lst [])) D (.dT [(nkey x0,.ref Z)]) Q=none) :
  Tt H (upd (upd (upd (upd H D (.dT [])) Z (.lst [])) D (.dT [(nkey x0,.ref Z)])) Q (.lst [.ref n0])) D Q [(nkey x0,.ref Z)] [x0] [n0]:=by
 obtain ⟨QD,q1⟩:=upd_nn hQ
 obtain ⟨QZ,q2⟩:=upd_nn q1
 obtain ⟨_,q3⟩:=upd_nn q2
 obtain ⟨ZD,z1⟩:=upd_nn hZ
 have sm:Same H (upd (upd (upd (upd H D (.dT [])) Z (.lst [])) D (.dT [(nkey x0,.ref Z)])) Q (.lst [.ref n0])):=fun b o e=>by
  rw [upd_ne (ne_of_none e q3),upd_ne (ne_of_none e hD),upd_ne (ne_of_none e z1),upd_ne (ne_of_none e hD)]
  exact e
 refine ⟨sm,hD,q3,by rw [upd_ne (Ne.symm QD),upd_same],upd_same,⟨rfl,by simp⟩,rfl,fun i x hx=>?_,fun s hs=>?_⟩
 ·cases i with
  | zero=>
   cases hx
   exact ⟨n0,rfl,sm _ _ h0⟩
  | succ i=>simp at hx
 ·have:s=x0:=by simpa using hs
  subst this
  exact ⟨Z,[],valV_pos rfl,by rw [upd_ne (Ne.symm QZ),upd_ne ZD,upd_same],Nat.zero_le _,Ne.symm QZ⟩
end
end L2
end
section
namespace L2
open PySem PySem.Spec PyProof.Rows
theorem slice_eq (z:Str) (l u:Option Int):Txt.slice z l u=StrLaws.sliceText z l u:=rfl
theorem bs_fromZ {w:List Bool} {i:Int} (h0:0<=i) (h1:i<=w.length):Txt.slice (bs w) (some i) none=bs (w.drop i.toNat):=by
 have e:Txt.slice (bs w) (some i) none=Txt.slice (bs w) (some i) (some (w.length:Int)):=by
  rw [slice_eq,slice_eq]
  unfold StrLaws.sliceText
  rw [StrLaws.sliceIdx_none_hi,bs_len]
 rw [e,bs_mid h0 h1 (Int.le_refl _)]
 congr 1
 rw [List.take_of_length_le (by rw [List.length_drop];omega)]
theorem idx_big (l:Option Int) (len:Nat) {j:Int} (h:(len:Int)<=j):Builtin.Str.strSliceIndices l (some j) 1 len=Builtin.Str.strSliceIndices l (some (len:Int)) 1 len:=by
 have a:¬ ((len:Int) < 0):=by omega
 have b:¬ (j < 0):=by omega
 have c:min j (len:Int)=(len:Int):=by omega
 simp [Builtin.Str.strSliceIndices,a,b,c]
theorem bs_toZ {w:List Bool} {j:Int} (h0:0<=j):Txt.slice (bs w) none (some j)=bs (w.take j.toNat):=by
 have e:Txt.slice (bs w) none (some j)=Txt.slice (bs w) (some 0) (some (min j (w.length:Int))):=by
  rw [slice_eq,slice_eq]
  unfold StrLaws.sliceText
  rw [StrLaws.sliceIdx_none_lo,bs_len]
  by_cases hj:j<=w.length
  ·rw [show min j (w.length:Int)=j by omega]
  ·rw [show min j (w.length:Int)=w.length by omega,idx_big _ _ (by omega)]
 rw [e,bs_mid (by decide) (by omega) (by omega)]
 congr 1
 rw [Int.toNat_zero,List.drop_zero]
 by_cases hj:j<=w.length
 ·rw [show (min j (w.length:Int) - 0).toNat=j.toNat by omega]
 ·rw [show (min j (w.length:Int) - 0).toNat=w.length by omega,List.take_length,List.take_of_length_le (by omega)]
theorem keys_get {H:Hp}:∀ {kvs:List (List Key×V)} {bz:List Addr} {xs:List (List Bool×Nat)} {i:Nat} {x:List Bool×Nat},KeysAt H kvs bz->KS nkey kvs xs->xs[i]? = some x->∃ b,bz[i]? = some b/\H b=some (.tup [.str (bs x.1),.int (x.2:Nat)]):=by
 intro kvs bz xs i x kb ks hx
 have h1:(kvs.map (·.1))[i]? = some (nkey x):=by rw [ks.ks,List.getElem?_map,hx];rfl
 clear ks hx
 induction kb generalizing i with
 | nil=>simp at h1
 | @cons p b ps bs' h t ih=>
  cases i with
  | zero=>
   have e:p.1=nkey x:=by simpa using h1
   rw [e] at h
   exact ⟨b,rfl,h⟩
  | succ i=>
   obtain ⟨b',a1,a2⟩:=ih (i:=i) (by simpa using h1)
   exact ⟨b',by simpa using a1,a2⟩
end L2
end
section
namespace Om
theorem fac_idx {wd u:List Bool} {L:Nat}:(∃ m,m+L<=wd.length/\u=(wd.drop m).take L)↔∃ p q,wd=p++u++q/\u.length=L:=by
 constructor
 ·rintro ⟨m,h,rfl⟩
  refine ⟨wd.take m,(wd.drop m).drop L,?_,by rw [List.length_take,List.length_drop];omega⟩
  rw [List.append_assoc,List.take_append_drop,List.take_append_drop]
 ·rintro ⟨p,q,e,l⟩
  refine ⟨p.length,by rw [e,List.length_append,List.length_append];omega,?_⟩
  rw [e,List.append_assoc,List.drop_left,<-l,List.take_left]
end Om
namespace L2
open PySem PySem.Spec PyProof.Rows
structure Ds (H0 H:Hp) (D:Addr) (kvs:List (Key×V)) (us:List (List Bool)) (L:Nat) (S:List Bool->Prop):Prop where
 s:SameT D H0 H
 hD:H D=some (.dK kvs)
 kz:KS tk kvs us
 ul:∀ u∈us,u.length=L
 iff:∀ u,u∈us↔S u
section
variable {H0 H H1:Hp} {D:Addr} {kvs:List (Key×V)} {us:List (List Bool)} {L:Nat} {S S':List Bool->Prop}
theorem Ds.cong (g:Ds H0 H D kvs us L S) (h:∀ u,S u↔S' u):Ds H0 H D kvs us L S':=⟨g.s,g.hD,g.kz,g.ul,fun u=>(g.iff u).trans (h u)⟩
theorem Ds.mono (g:Ds H0 H D kvs us L S) (s:Same H H1):Ds H0 H1 D kvs us L S:=⟨g.s.trans s.t,s _ _ g.hD,g.kz,g.ul,g.iff⟩
theorem Ds.few (g:Ds H0 H D kvs us L S) {m:Nat} (h:L<=m):kvs.length<=2 ^ (m+1):=by
 rw [g.kz.len]
 exact Om.few_texts g.kz.nd fun u hu=>by rw [g.ul u hu];exact h
theorem Ds.put (g:Ds H0 H D kvs us L S) {u:List Bool} {v:V} (hu:u.length=L):Ds H0 (upd H D (.dK (putK kvs (tk u) v))) D (putK kvs (tk u) v) (Om.adds us u) L (fun x=>S x\/x=u):=
 ⟨fun b o n e=>by rw [upd_ne n];exact g.s b o n e,upd_same,g.kz.put tk_inj u v,fun x hx=>by
  rcases Om.mem_adds.mp hx with z | z
  ·exact g.ul x z
  ·rw [z];exact hu,fun x=>by rw [Om.mem_adds,g.iff]⟩
theorem Ds.at {b:Addr} {o:HO} (g:Ds H0 H D kvs us L S) (h:H0 b=some o) (n:b≠D):H b=some o:=g.s b o n h
end
end L2
end
section
namespace Om
end Om
namespace L2
open PySem PySem.Spec PyProof.Rows
theorem Ds.other {H0 H:Hp} {D E:Addr} {kvs:List (Key×V)} {us:List (List Bool)} {L:Nat} {S:List Bool->Prop} {o:HO} (g:Ds H0 H D kvs us L S) (n:H0 E=none) (ne:E≠D):Ds H0 (upd H E o) D kvs us L S:=
 ⟨fun b u nb e=>by rw [upd_ne (ne_of_none e n)];exact g.s b u nb e,by rw [upd_ne (Ne.symm ne)];exact g.hD,g.kz,g.ul,g.iff⟩
section
variable {H2 H H1:Hp} {D E Mo:Addr} {kvs:List (Key×V)} {us:List (List Bool)} {L:Nat} {S:List Bool->Prop} {ekvs:List (Key×V)} {vs:List (List Bool)} {M:Nat} {B B':List Bool->Prop} {mkvs:List (List Key×V)} {ys:List (List Bool×Nat)} {A A':List Bool×Nat->Prop}
end
end L2
end
section
namespace L2
open PySem PySem.Spec PyProof.Rows
def nw (H H':Hp):Hp:=fun b=>match H b with
 | none=>H' b
 | some _=>none
theorem nw.at {H H':Hp} {b:Addr} (h:H b=none):nw H H' b=H' b:=by unfold nw;rw [h]
theorem nw.old {H H':Hp} {b:Addr} {o:HO} (h:H b=some o):nw H H' b=none:=by unfold nw;rw [h]
theorem nw.inv {H H':Hp} {b:Addr} {o:HO} (h:nw H H' b=some o):H b=none/\H' b=some o:=by
 cases e:H b with
 | none=>rw [nw.at e] at h;exact ⟨rfl,h⟩
 | some u=>rw [nw.old e] at h;cases h
theorem nw.same {H H':Hp}:Same (nw H H') H':=fun b o e=>(nw.inv e).2
theorem nw.up {H H1 H2:Hp} (s:Same H1 H2):Same (nw H H1) (nw H H2):=fun b o e=>by rw [nw.at (nw.inv e).1];exact s _ _ (nw.inv e).2
theorem nw.down {H H1 H2:Hp} (s:Same H H1):Same (nw H1 H2) (nw H H2):=fun b o e=>by rw [nw.at (s.free (nw.inv e).1)];exact (nw.inv e).2
def tLit (d:PyData):TE:=fun _ H Q=>∀ v H',Same H H'->DV (nw H H') v d->Q v H'
def tLits (n:Nat) (ds:List PyData):TA:=fun _ H Q=>∀ vs H',Same H H'->DVs (nw H H') vs ds->vs.length=n->Q vs H'
section
variable {X:Cx} {pos:Pos} {e:Expr} {es:List Expr} {n:Nat} {d:PyData} {ds:List PyData}
theorem li_int {i:Int} {j:Nat}:PE X (.Constant (.int i) j pos) (tLit (.int i)):=fun pins s σ H Q I h=>pe_int pins s σ H Q I (h _ _ (Same.refl _) (.int _))
theorem li_str {x:Str} {j:Nat}:PE X (.Constant (.str x) j pos) (tLit (.str x)):=fun pins s σ H Q I h=>pe_str pins s σ H Q I (h _ _ (Same.refl _) (.str _))
theorem li_nil:PA X [] (tLits 0 []):=fun p pins s σ H Q I h=>pa_nil p pins s σ H Q I (h _ _ (Same.refl _) .nil rfl)
theorem li_cons (he:PE X e (tLit d)) (hr:PA X es (tLits n ds)) (hs:starEach (e :: es) X.env=(false,eval e X.env) :: starEach es X.env:=by kernel_rfl):PA X (e :: es) (tLits (n+1) (d :: ds)):=fun p pins s σ H Q I h=>
 pa_cons he hr hs p pins s σ H Q I fun v H1 s1 d1 vs H2 s2 d2 l2=>h (v :: vs) H2 (s1.trans s2) (.cons (d1.mono (nw.up s2)) (d2.mono (nw.down s1))) (by rw [List.length_cons,l2])
theorem li_tup {x1} (h:PA X es (tLits n ds)) (hn:n<=1000):PE X (.Tuple es x1 pos) (tLit (.tuple ds)):=fun pins s σ H Q I q=>
 pe_tup h pins s σ H Q I fun vs H1 s1 d1 l1=>⟨le_line (by omega),fun p hp=>q _ _ (s1.trans (Same.upd hp)) (.tup (by rw [nw.at (s1.free hp)];exact upd_same) (d1.mono (nw.up (Same.upd hp))))⟩
theorem li_lst (h:PA X es (tLits n ds)) (hn:n<=1000):PE X (.List es pos) (tLit (.list ds)):=fun pins s σ H Q I q=>
 pe_lst h pins s σ H Q I fun vs H1 s1 d1 l1=>⟨le_line (by omega),fun p hp=>q _ _ (s1.trans (Same.upd hp)) (.lst (by rw [nw.at (s1.free hp)];exact upd_same) (d1.mono (nw.up (Same.upd hp))))⟩
end
end L2
end
section
namespace L2
open PySem PySem.Spec PyProof.Rows
theorem SqL.wo1 {K:PySem.W.Frag} {H:Hp} {a P:Addr} {xs:List V} {ps:Array Value} (h:SqL K H a xs) (hP:H P=some (.tbl ps)):SqL K (wo1 P H) a xs:=by
 rcases h with (h | ⟨o,h⟩) | h
 ·exact .inl (.inl (wo1.at h (ne_of h hP (fun z=>nomatch z))))
 ·exact .inl (.inr ⟨o,wo1.at h (ne_of h hP (fun z=>nomatch z))⟩)
 ·exact .inr h
section
variable {H H':Hp} {kvs:List (Key×V)} {ls:List Nat} {rows:Om.Rows}
end
end L2
end
section
namespace PySem.W
open PySem
section
variable {prog:Program} {w:World} {K:Type} [DecidableEq K] (knd:KeyKind prog w K)
variable {knd} {A:Around} {E:Value->Shared->Prop} {s:Shared}
end
end PySem.W
end
section
namespace L2
open PySem PySem.Spec PyProof.Rows PySem.W
section
variable {P:Program} {w:World} {H:Hp} {h:Heap}
end
section
variable {X:Cx} {pos:Pos}
end
end L2
end
section
namespace L2
open PySem PySem.Spec PyProof.Rows PySem.W PySem.Calls
def allS:Nat->List (List Bool)
 | 0=>[[]]
 | L+1=>(allS L).map (false :: ·)++(allS L).map (true :: ·)
theorem allS_mem:∀ (L:Nat) (u:List Bool),u∈allS L↔u.length=L
 | 0,u=>by simp [allS,List.length_eq_zero_iff]
 | L+1,u=>by
  unfold allS
  rw [List.mem_append,List.mem_map,List.mem_map]
  constructor
  ·rintro (⟨x,hx,rfl⟩ | ⟨x,hx,rfl⟩)
   ·simp [(allS_mem L x).mp hx]
   ·simp [(allS_mem L x).mp hx]
  ·intro h
   cases u with
   | nil=>cases h
   | cons b x=>
    have hx:=(allS_mem L x).mpr (by simpa using h)
    cases b
    ·exact .inl ⟨x,hx,rfl⟩
    ·exact .inr ⟨x,hx,rfl⟩
theorem allS_len:∀ L,(allS L).length=2 ^ L
 | 0=>rfl
 | L+1=>by unfold allS;rw [List.length_append,List.length_map,List.length_map,allS_len L,Nat.pow_succ];omega
end L2
end
section
namespace L2
open PySem PySem.Spec PyProof.Rows
section
variable {X:Cx} {p pos:Pos} {e:Expr} {es:List Expr} {t:TA}
def rInS:R2:=fun x y H Q=>match x,y with
 | .str i,.str j=>Q (.bl (!(Builtin.Str.occurrences j i 0 j.length 1).isEmpty)) H
 | _,_=>False
theorem op_inS:OpR X (compareOp .In) rInS:=op_in_str.of fun x y H Q q=>by
 unfold rInS at q
 split at q
 ·exact ⟨_,_,rfl,rfl,q⟩
 ·exact q.elim
end
end L2
end
section
namespace L2
open PySem PySem.Spec PyProof.Rows
section
variable {X:Cx}
variable {elt target iter:Expr} {ifs:List Expr} {scope:Scope} {pos spos:Pos} {wi:TI} {g:TG} {tt:TT} {te:TE}
end
end L2
end
section
namespace L2
open PySem PySem.Spec PyProof.Rows
section
variable {X:Cx} {tg:Expr}
end
end L2
end
section
namespace L2
open PySem PySem.Spec PyProof.Rows
section
variable {prog:Program} {w:World} {A:Around} {E:Value->Shared->Prop} {s:Shared}
end
section
variable {X:Cx} {p pos:Pos}
end
end L2
end
section
namespace Om
section
variable {rows:Rows} {turn:Int} {ks ks':List Nat} {E E':Nat->Int} {ed ed':Nat->Nat->Prop} {s l:Nat} {r:List Bool×Nat}
end
end Om
namespace L2
open PySem PySem.Spec PyProof.Rows
section
variable {H H':Hp} {kvs:List (Key×V)} {ks:List Nat} {E:Nat->Int} {c:Nat}
end
end L2
end
section
namespace L2
open PySem PySem.StrLaws Builtin Builtin.Str
abbrev ch (c:Nat):Str:=⟨#[c]⟩
end L2
end
section
namespace L2
open PySem PySem.Spec PyProof.Rows Builtin Builtin.Str
theorem vals_from:∀ (ps:List Str) (tk:Nat),Vals (ps.map V.str) (strsFrom tk ps)
 | [],_=>.nil
 | x :: r,tk=>.cons ⟨_,rfl⟩ (vals_from r (tk+1))
section
variable {X:Cx} {p pos apos:Pos} {a b c e o:Expr} {es:List Expr} {t:TA} {to:TE}
def rSplit:V->List V->Hp->VK->Prop:=fun x vs H Q=>match x,vs with
 | .str z,[.str y]=>(y.length == 0)=false/\z.length+2<=sizeLine/\∀ l,H l=none->Q (.ref l) (upd H l (.lst ((Txt.split z y).map V.str)))
 | _,_=>False
theorem mt_splitU:MtM X "str.split" rSplit:=by
 intro pins s σ H x vs v us Q I rx rv h
 unfold rSplit at h
 split at h
 ·rename_i z y
  obtain ⟨hy,hz,q⟩:=h
  obtain ⟨t,rfl⟩:=rx
  obtain ⟨u,rfl,t',rfl⟩:=rv.one
  have q:=q _ (I.hok.fresh (Nat.le_refl _))
  have alone:Txt.split z y=[z]->EP X pins σ Q (.ref s.heap.objs.size) { s with heap:=s.heap.push { cls:=.type "list",data:=.seq [Value.str z t].toArray } }:=fun e=>by
   rw [e] at q
   exact ⟨.ref s.heap.objs.size,upd H s.heap.objs.size (.lst [.str z]),I.laid (t':=s.toks) (o:=.lst [.str z]) (fun b u e=>Heap.get?_push_of_some _ e) (Nat.le_refl _) ⟨by show 1<=sizeLine;decide,[Value.str z t],0,.cons ⟨_,rfl⟩ .nil,Heap.get?_push_size _ rfl⟩,rfl,q⟩
  have hn:(partsBetween z (occurrences z y 0 z.length (z.length+1)) y.length).length<=sizeLine:=by
   have:=StrLaws.occ_length_le z y 0 z.length (z.length+1)
   rw [length_partsBetween]
   omega
  have hT:=typeIs_str s z t
  cases h1:(decide (z.length < y.length) || decide (PySem.Builtin.Str.strKind z < PySem.Builtin.Str.strKind y)) with
  | true=>exact call_meets F.slot_str_split hT F.entry_str_split (F.args_str_split_2 _ _) (meets_str_split_cannot_occur z y t t' h1) (alone (if_pos h1))
  | false=>
   have n1:¬ (decide (z.length < y.length) || decide (PySem.Builtin.Str.strKind z < PySem.Builtin.Str.strKind y))=true:=by rw [h1];decide
   cases h2:(occurrences z y 0 z.length (z.length+1)).isEmpty with
   | true=>exact call_meets F.slot_str_split hT F.entry_str_split (F.args_str_split_2 _ _) (meets_str_split_not_found z y t t' h1 hy h2) (alone ((if_neg n1).trans (if_pos h2)))
   | false=>
    have n2:¬ (occurrences z y 0 z.length (z.length+1)).isEmpty=true:=by rw [h2];decide
    refine call_meets F.slot_str_split hT F.entry_str_split (F.args_str_split_2 _ _) (meets_str_split_sep z y t t' h1 hy h2 (by omega) hn) ?_
    have e:Txt.split z y=partsBetween z (occurrences z y 0 z.length (z.length+1)) y.length:=(if_neg n1).trans (if_neg n2)
    rw [e] at q
    exact ⟨.ref s.heap.objs.size,upd H s.heap.objs.size (.lst ((partsBetween z (occurrences z y 0 z.length (z.length+1)) y.length).map V.str)),I.laid (o:=.lst ((partsBetween z (occurrences z y 0 z.length (z.length+1)) y.length).map V.str)) (fun b u e=>Heap.get?_push_of_some _ e) (Nat.le_refl _) ⟨by rw [List.length_map];exact hn,_,0,vals_from _ _,Heap.get?_push_size _ rfl⟩,rfl,q⟩
 ·exact h.elim
theorem m_split {cpos:Pos} (ho:PE X o to) (ha:PA X (e :: es) t)
  (hbase:attributeBase o "split" X.env (eval o X.env)=eval o X.env:=by kernel_rfl)
  (hfew:((backTo cpos (starEach (e :: es) X.env)).all (fun x=>!x.1) && (backToKw cpos (keywordEach [] X.env)).all (fun x=>x.1.isSome)
   && decide ((e :: es).length+([]:List Keyword).length+(if ([]:List Keyword).isEmpty then 0 else 1) < 30))=true:=by kernel_rfl)
  (hline:(apos.endLine == cpos.line)=true:=by kernel_rfl) (hs:starEach (e :: es) X.env=(false,eval e X.env) :: starEach es X.env:=by kernel_rfl) (hplain:(backTo cpos (starEach es X.env)).any (·.1)=false:=by kernel_rfl) :
  PE X (.Call (.Attribute o "split" apos) (e :: es) [] cpos) (tMt "str" rSplit to t):=pe_mt PySem.F.plainAttrs_str PySem.F.slot_str_split PySem.F.type_str_split mt_splitU ho ha hbase hfew hline hs hplain
def rFind:V->List V->Hp->VK->Prop:=fun x vs H Q=>match x,vs with
 | .str z,[.str y]=>Q (.int (Txt.find z y)) H
 | _,_=>False
theorem mt_findU:MtM X "str.find" rFind:=by
 intro pins s σ H x vs v us Q I rx rv h
 unfold rFind at h
 split at h
 ·obtain ⟨t,rfl⟩:=rx
  obtain ⟨u,rfl,t',rfl⟩:=rv.one
  exact SC.find ⟨.int _,H,I.tok _,⟨_,rfl⟩,h⟩
 ·exact h.elim
theorem m_find {cpos:Pos} (ho:PE X o to) (ha:PA X (e :: es) t)
  (hbase:attributeBase o "find" X.env (eval o X.env)=eval o X.env:=by kernel_rfl)
  (hfew:((backTo cpos (starEach (e :: es) X.env)).all (fun x=>!x.1) && (backToKw cpos (keywordEach [] X.env)).all (fun x=>x.1.isSome)
   && decide ((e :: es).length+([]:List Keyword).length+(if ([]:List Keyword).isEmpty then 0 else 1) < 30))=true:=by kernel_rfl)
  (hline:(apos.endLine == cpos.line)=true:=by kernel_rfl) (hs:starEach (e :: es) X.env=(false,eval e X.env) :: starEach es X.env:=by kernel_rfl) (hplain:(backTo cpos (starEach es X.env)).any (·.1)=false:=by kernel_rfl) :
  PE X (.Call (.Attribute o "find" apos) (e :: es) [] cpos) (tMt "str" rFind to t):=pe_mt PySem.F.plainAttrs_str PySem.F.slot_str_find PySem.F.type_str_find mt_findU ho ha hbase hfew hline hs hplain
end
end L2
end
section
namespace Om
def allS (rows:Rows):Sn:=fun x=>x < rows.length
def byL (rows:Rows) (S:Sn) (w:List Bool) (l:Nat):Sn:=fun y=>∃ x,S x/\l < (rows.getD x []).length/\step rows x l=(w,y)
def Goes (rows:Rows) (ws:List (List Bool)) (b l:Nat):Prop:=∃ z,afts rows (byL rows (afts rows (allS rows) (ws.take b)) (ws.getD b []) l) (ws.drop (b+1)) z
open Classical in
noncomputable def rd (rows:Rows) (k b:Nat) (ws:List (List Bool)):Option Nat:=(List.range (2 ^ k)).find? fun l=>decide (Goes rows ws b l)
end Om
namespace L2
open PySem PySem.Spec PyProof.Rows
section
variable {H0 H:Hp} {L q:Addr} {ts:List Addr} {yss:Nat->List Nat}
end
end L2
namespace L2
open PySem PySem.Spec PyProof.Rows
section
variable {X:Cx}
end
end L2
namespace Om
end Om
namespace L2
open PySem PySem.Spec PyProof.Rows
end L2
end
section
namespace Om
end Om
namespace L2
open PySem PySem.Spec PyProof.Rows
end L2
namespace L2
end L2
namespace L2
end L2
end
section
namespace L2
open PySem PySem.Spec PyProof.Rows
section
variable {X:Cx} {p pos:Pos}
end
end L2
namespace Om
end Om
end
section
namespace L2
open PySem PySem.Spec PyProof.Rows
end L2
namespace L2
open PySem PySem.Spec PyProof.Rows
end L2
namespace L2
open PySem PySem.Spec PyProof.Rows
end L2
end
section
namespace L2
open PySem PySem.Spec PyProof.Rows
section
variable {X:Cx} {p pos apos:Pos} {a b e o:Expr} {es:List Expr} {t:TA} {to:TE}
end
end L2
end
section
namespace L2
open PySem PySem.Spec PyProof.Rows
section
variable {X:Cx} {p pos:Pos}
end
end L2
end
section
namespace Om
end Om
end
section
namespace L2
open PySem PySem.Spec PyProof.Rows
theorem DVs.erase {G:Hp}:∀ {us:List V} {ds:List PyData} (i:Nat),DVs G us ds->DVs G (us.eraseIdx i) (ds.eraseIdx i)
 | _,_,_,.nil=>.nil
 | _,_,0,.cons _ b=>b
 | _,_,i+1,.cons a b=>.cons a (DVs.erase i b)
section
variable {G H0 H H':Hp} {a A S q:Addr} {ts:List Addr} {ps:List (Nat×Nat)} {rw:Nat->List (List Bool×Nat)}
end
end L2
namespace L2
open PySem PySem.Spec PyProof.Rows
theorem DVs.ofGet {H:Hp}:∀ {vs:List V} {ds:List PyData},vs.length=ds.length->(∀ (i:Nat) v d,vs[i]? = some v->ds[i]? = some d->DV H v d)->DVs H vs ds
 | [],[],_,_=>.nil
 | v :: vs,d :: ds,hl,h=>.cons (h 0 v d rfl rfl) (DVs.ofGet (by simpa using hl) fun i v' d' h1 h2=>h (i+1) v' d' h1 h2)
 | [],_ :: _,hl,_=>by simp at hl
 | _ :: _,[],hl,_=>by simp at hl
end L2
end
section
namespace L2
open PySem PySem.Spec PyProof.Rows
section
variable {X:Cx} {p pos:Pos} {a tg:Expr}
end
end L2
namespace L2
open PySem PySem.Spec PyProof.Rows
theorem Vals.rev:∀ {xs:List V} {us:List Value},Vals xs us->Vals xs.reverse us.reverse
 | _,_,.nil=>.nil
 | _,_,.cons r t=>by
  rw [List.reverse_cons,List.reverse_cons]
  exact (Vals.rev t).append (.cons r .nil)
section
variable {prog:Program} {w:World} {A:Around} {E:Value->Shared->Prop} {s:Shared}
end
section
variable {X:Cx} {p p2 pos pos2:Pos} {a:Expr}
end
end L2
end
section
namespace L2
open PySem PySem.Spec PyProof.Rows
section
variable {prog:Program} {w:World} {A:Around} {E:Value->Shared->Prop} {s:Shared}
end
section
variable {X:Cx} {pos apos:Pos} {o e:Expr} {to:TE} {t:TA} {es:List Expr}
end
end L2
end
section
namespace L2
open PySem PySem.Spec PyProof.Rows
section
variable {prog:Program} {w:World} {A:Around}
end
section
variable {X:Cx} {p pos:Pos}
end
end L2
end
section
namespace L2
open PySem PySem.Spec PyProof.Rows
section
variable {X:Cx}
end
end L2
namespace L2
end L2
end
section
namespace L2
open PySem PySem.Spec PyProof.Rows PySem.W
section
variable {X:Cx} {p pos:Pos} {e:Expr} {es:List Expr} {t:TA}
theorem any_range:∀ (bs:List Bool),((List.range bs.length).any fun i=>bs.getD i true)=bs.any id
 | []=>rfl
 | b :: bs=>by
  rw [List.length_cons,List.range_succ_eq_map,List.any_cons,List.any_map,List.any_cons,<-any_range bs]
  rfl
def rAny:List V->Hp->VK->Prop:=fun vs H Q=>match vs with
 | [.ref p]=>∃ bl:List Bool,H p=some (.lst (bl.map V.bl))/\Q (.bl (bl.any id)) H
 | _=>False
theorem call_any (hc:X.calm=true):CallR X (.builtin "any") rAny:=by
 intro pins s σ H xs us Q I r h
 unfold rAny at h
 split at h
 ·rename_i p
  obtain ⟨bs,hH,q⟩:=h
  obtain ⟨u,rfl,r1⟩:=vals1 r
  cases r1
  obtain ⟨z,its,n,rv,e⟩:=I.hok p _ hH
  have ei:=vals_bools rv
  subst ei
  have hl:s.heap.IsList p (bs.map Value.bool).toArray:=⟨_,e,rfl,_,rfl⟩
  have hp:p < s.heap.objs.size:=Heap.lt_size e
  refine call_any_walk (wpAny_pyIter_list hl ?_)
  refine ⟨s.heap.objs.size,_,[s.heap.objs.size],_,_,_,(fun i=>bs.getD i true),rfl,Walks.list (A:=X.A.in1) (I.ok.hd hc) s.heap.objs.size p (Nat.ne_of_lt hp) (bs.map Value.bool).toArray,⟨⟨_,Heap.get?_push_size _ rfl,rfl,rfl⟩,hl.push _⟩,?_,fun h' tk hk=>?_⟩
  ·intro i v s' Q' E' hP hQ
   have hP:(bs.map Value.bool).toArray[i]? = some v:=hP
   have hb:∃ b,bs[i]? = some b/\v = .bool b:=by
    rw [List.getElem?_toArray,List.getElem?_map] at hP
    cases e:bs[i]? with
    | none=>rw [e] at hP;cases hP
    | some b=>rw [e] at hP;exact ⟨b,rfl,(Option.some.inj hP).symm⟩
   obtain ⟨b,hb,rfl⟩:=hb
   have e:bs.getD i true=b:=by rw [List.getD_eq_getElem?_getD,hb];rfl
   dsimp only at hQ
   rw [e] at hQ
   exact wpAny_truthy_bool hQ
  ·have hn:(bs.map Value.bool).toArray.size=bs.length:=by simp
   rw [hn,any_range]
   exact ⟨.bl (bs.any id),H,I.kept fun b o e=>hk b o (fun hm=>by
    have:b=s.heap.objs.size:=by simpa using hm
    exact absurd (this ▸ Heap.lt_size e) (Nat.lt_irrefl _)) (Heap.get?_push_of_some _ e),rfl,q⟩
 ·exact h.elim
theorem fn_any {mg':Str->Option Value} (hm:mg' "any" = none) (hX:X.mg=mg') (ha:PA X (e :: es) t) (hc:X.calm=true:=by kernel_rfl) (hg:gB X "any" = true:=by kernel_rfl) (he:starEach (e :: es) X.env=(false,eval e X.env) :: starEach es X.env:=by kernel_rfl) (hpl:(backTo pos (starEach es X.env)).any (·.1)=false:=by kernel_rfl) :
  PE X (.Call (.Name "any" p) (e :: es) [] pos) (tCB rAny t):=pe_callB (call_any hc) (gl_of hg) (by rw [hX];exact hm) PyProof.Rows.boot_any ha (he:=he) (hpl:=hpl)
end
end L2
end
section
namespace L2
open PySem PySem.Spec PyProof.Rows PySem.W
theorem sg_map_inj {v w:List Bool} (h:v.map sg=w.map sg):v=w:=bs_inj (by unfold bs;rw [h])
theorem subAt_bs (w u:List Bool) (i:Nat):Builtin.Str.subAt (bs w) (bs u) i=true↔(w.drop i).take u.length=u:=by
 rw [StrLaws.subAt_eq,beq_iff_eq]
 have e1:(bs w).cps.toList=w.map sg:=by unfold bs;simp
 have e2:(bs u).cps.toList=u.map sg:=by unfold bs;simp
 rw [e1,e2,bs_len,<-List.map_drop,<-List.map_take]
 exact ⟨sg_map_inj,fun h=>by rw [h]⟩
theorem at_iff {w u:List Bool} {i:Nat}:(i+u.length<=w.length/\(w.drop i).take u.length=u)↔∃ p q,w=p++u++q/\p.length=i:=by
 constructor
 ·rintro ⟨h,e⟩
  refine ⟨w.take i,(w.drop i).drop u.length,?_,by rw [List.length_take];omega⟩
  have e1:u++(w.drop i).drop u.length=w.drop i:=by rw [<-e,List.length_take,List.length_drop,Nat.min_eq_left (by omega),List.take_append_drop]
  rw [List.append_assoc,e1,List.take_append_drop]
 ·rintro ⟨p,q,rfl,rfl⟩
  refine ⟨by simp,?_⟩
  rw [List.append_assoc,List.drop_left,List.take_left]
theorem in_bs (w u:List Bool):(!(Builtin.Str.occurrences (bs w) (bs u) 0 (bs w).length 1).isEmpty)=true↔∃ p q,w=p++u++q:=by
 rw [StrLaws.found_iff]
 constructor
 ·rintro ⟨i,h1,h2⟩
  rw [bs_len,bs_len] at h1
  obtain ⟨p,q,e,_⟩:=at_iff.mp ⟨h1,(subAt_bs w u i).mp h2⟩
  exact ⟨p,q,e⟩
 ·rintro ⟨p,q,e⟩
  obtain ⟨h1,h2⟩:=at_iff.mpr ⟨p,q,e,rfl⟩
  exact ⟨p.length,by rw [bs_len,bs_len];exact h1,(subAt_bs w u _).mpr h2⟩
theorem occ_stay (s sub:Str) (hi:Nat):∀ (l:List Nat) (st:Array Nat×Nat),1<=st.1.size->(forIn l st (StrLaws.occBody s sub hi 1)).run.fst=st.1
 | [],st,h=>rfl
 | a :: l,st,h=>by
  rw [List.forIn_cons]
  unfold StrLaws.occBody
  rw [if_neg (fun z=>by have:=z.1.1.1;omega)]
  exact occ_stay s sub hi l _ h
theorem occ_first (s sub:Str) (hi:Nat):∀ (l:List Nat) (free:Nat),(∀ i∈l,free<=i) →
  (forIn l ((#[]:Array Nat),free) (StrLaws.occBody s sub hi 1)).run.fst=match l.find? (fun i=>decide (i+sub.length<=hi/\Builtin.Str.subAt s sub i=true)) with
   | some i=>#[i]
   | none=>#[]
 | [],free,_=>rfl
 | a :: l,free,hf=>by
  rw [List.forIn_cons]
  unfold StrLaws.occBody
  have ha:free<=a:=hf a (List.mem_cons_self ..)
  by_cases hc:a+sub.length<=hi/\Builtin.Str.subAt s sub a=true
  ·rw [if_pos ⟨⟨⟨by simp,ha⟩,hc.1⟩,hc.2⟩,List.find?_cons_of_pos (by exact decide_eq_true hc)]
   exact occ_stay s sub hi l _ (by simp)
  ·rw [if_neg (fun z=>hc ⟨z.1.2,z.2⟩),List.find?_cons_of_neg (by simpa using hc)]
   exact occ_first s sub hi l free fun i h=>hf i (List.mem_cons_of_mem _ h)
theorem find_bs (t u:List Bool):Txt.find (bs (t++u)) (bs u)=(t.length:Int)↔¬ ∃ p q,t++u=p++u++q/\p.length < t.length:=by
 unfold Txt.find
 rw [StrLaws.occ_eq]
 rw [occ_first _ _ _ _ _ (fun _ _=>Nat.zero_le _)]
 have cond:∀ i,(i+(bs u).length<=(bs (t++u)).length/\Builtin.Str.subAt (bs (t++u)) (bs u) i=true)↔∃ p q,t++u=p++u++q/\p.length=i:=fun i=>by
  rw [<-at_iff,subAt_bs,bs_len,bs_len]
 cases e:(List.range' 0 ((bs (t++u)).length+1 - 0)).find? (fun i=>decide (i+(bs u).length<=(bs (t++u)).length/\Builtin.Str.subAt (bs (t++u)) (bs u) i=true)) with
 | none=>
  have:=List.find?_eq_none.mp e t.length (by rw [bs_len];simp [List.mem_range'];omega)
  exact absurd (decide_eq_true ((cond t.length).mpr ⟨t,[],by simp,rfl⟩)) this
 | some i0=>
  obtain ⟨h1,j,hj,e1,h2⟩:=List.find?_eq_some_iff_getElem.mp e
  have c0:=(cond i0).mp (of_decide_eq_true h1)
  have ej:j=i0:=by rw [List.getElem_range'] at e1;omega
  subst ej
  have low:∀ i,i < j->¬ ∃ p q,t++u=p++u++q/\p.length=i:=fun i hi z=>by
   have:=h2 i hi
   rw [List.getElem_range'] at this
   have ei:0+1 * i=i:=by omega
   rw [ei] at this
   rw [decide_eq_true ((cond i).mpr z)] at this
   cases this
  show ((j:Int)=(t.length:Int))↔_
  constructor
  ·intro z
   have z:j=t.length:=by omega
   rintro ⟨p,q,e2,hp⟩
   exact low p.length (by omega) ⟨p,q,e2,rfl⟩
  ·intro z
   obtain ⟨p,q,e2,hp⟩:=c0
   have a1:¬ p.length < t.length:=fun y=>z ⟨p,q,e2,y⟩
   have a2:¬ t.length < j:=fun y=>low t.length y ⟨t,[],by simp,rfl⟩
   omega
end L2
end
section
namespace Om
def cutMF (u:List Bool):Nat->List Bool->List (List Bool)
 | 0,_=>[[]]
 | _+1,[]=>[[]]
 | f+1,b :: v=>if (b :: v).take u.length=u then [] :: cutMF u f ((b :: v).drop u.length) else match cutMF u f v with
  | []=>[[b]]
  | q :: qs=>(b :: q) :: qs
def cutM (u w:List Bool):List (List Bool):=cutMF u w.length w
variable {u:List Bool}
theorem cutMF_nil:∀ f,cutMF u f []=[[]]
 | 0=>rfl
 | _+1=>rfl
theorem cutMF_any (hu:1<=u.length):∀ (f g:Nat) (w:List Bool),w.length<=f->w.length<=g->cutMF u f w=cutMF u g w
 | f,g,[],_,_=>by rw [cutMF_nil,cutMF_nil]
 | 0,_,_ :: _,h,_=>by simp at h
 | _+1,0,_ :: _,_,h=>by simp at h
 | f+1,g+1,b :: v,h1,h2=>by
  have a1:v.length<=f:=by simpa using h1
  have a2:v.length<=g:=by simpa using h2
  unfold cutMF
  rw [cutMF_any hu f g v a1 a2,cutMF_any hu f g ((b :: v).drop u.length) (by rw [List.length_drop,List.length_cons];omega) (by rw [List.length_drop,List.length_cons];omega)]
theorem cutM_nil:cutM u []=[[]]:=rfl
theorem cutM_hit (hu:1<=u.length) (q:List Bool):cutM u (u++q)=[] :: cutM u q:=by
 match u,hu with
 | b :: v,_=>
  unfold cutM
  rw [List.cons_append,List.length_cons]
  conv=>lhs;unfold cutMF
  have e:(b :: (v++q)).take (b :: v).length=b :: v:=by rw [<-List.cons_append,List.take_left]
  rw [if_pos e,<-List.cons_append,List.drop_left]
  rw [cutMF_any (by simp) (v++q).length q.length q (by simp) (Nat.le_refl _)]
theorem cutM_take (hu:1<=u.length) {w:List Bool} (h:w.take u.length=u):cutM u w=[] :: cutM u (w.drop u.length):=by
 have:=cutM_hit hu (w.drop u.length)
 rw [<-this]
 congr 1
 conv=>lhs;rw [<-List.take_append_drop u.length w,h]
theorem cutM_miss (hu:1<=u.length) {b:Bool} {v:List Bool} (h:(b :: v).take u.length≠u):cutM u (b :: v)=match cutM u v with
  | []=>[[b]]
  | q :: qs=>(b :: q) :: qs:=by
 unfold cutM
 rw [List.length_cons]
 conv=>lhs;unfold cutMF
 rw [if_neg h]
theorem cutMF_ne:∀ (f:Nat) (w:List Bool),∃ q qs,cutMF u f w=q :: qs
 | 0,_=>⟨_,_,rfl⟩
 | _+1,[]=>⟨_,_,rfl⟩
 | f+1,b :: v=>by
  unfold cutMF
  split
  ·exact ⟨_,_,rfl⟩
  ·split
   ·exact ⟨_,_,rfl⟩
   ·exact ⟨_,_,rfl⟩
theorem cutM_ne (w:List Bool):∃ q qs,cutM u w=q :: qs:=cutMF_ne _ _
theorem cutM_missE (hu:1<=u.length) {b:Bool} {v q:List Bool} {qs:List (List Bool)} (h:(b :: v).take u.length≠u) (e:cutM u v=q :: qs):cutM u (b :: v)=(b :: q) :: qs:=by
 rw [cutM_miss hu h,e]
theorem cutM_first (hu:1<=u.length) (q:List Bool):∀ (p:List Bool),(∀ k,k < p.length->((p++(u++q)).drop k).take u.length≠u)->cutM u (p++(u++q))=p :: cutM u q
 | [],_=>cutM_hit hu q
 | b :: p,h=>by
  have h0:=h 0 (by simp)
  rw [List.drop_zero] at h0
  have ih:=cutM_first hu q p fun k hk=>by
   have:=h (k+1) (by simpa using hk)
   rw [List.cons_append,List.drop_succ_cons] at this
   exact this
  rw [List.cons_append]
  rw [List.cons_append] at h0
  exact cutM_missE hu h0 ih
theorem cutM_none (hu:1<=u.length):∀ (w:List Bool),(∀ k,(w.drop k).take u.length≠u)->cutM u w=[w]
 | [],_=>rfl
 | b :: v,h=>by
  have h0:=h 0
  rw [List.drop_zero] at h0
  have ih:=cutM_none hu v fun k=>by
   have:=h (k+1)
   rw [List.drop_succ_cons] at this
   exact this
  exact cutM_missE hu h0 ih
theorem cutM_due (hu:1<=u.length):∀ (ws:List (List Bool)),(∀ w∈ws,∀ k,k < w.length->((w++u).drop k).take u.length≠u)->cutM u ((ws.map fun w=>w++u).flatten)=ws++[[]]
 | [],_=>rfl
 | w :: ws,h=>by
  rw [List.map_cons,List.flatten_cons,List.append_assoc]
  have e:=cutM_first hu ((ws.map fun w=>w++u).flatten) w fun k hk z=>by
   refine h w (List.mem_cons_self ..) k hk ?_
   rw [<-List.append_assoc,List.drop_append_of_le_length (by rw [List.length_append];omega),List.take_append_of_le_length (by rw [List.length_drop,List.length_append];omega)] at z
   exact z
  rw [e,cutM_due hu ws fun x hx=>h x (List.mem_cons_of_mem _ hx)]
  rfl
theorem cutM_len:∀ (f:Nat) (w:List Bool),w.length<=f->1<=u.length->(cutMF u f w).length<=w.length+1/\∀ p∈cutMF u f w,p.length<=w.length
 | 0,w,h,_=>⟨by show 1<=_;omega,fun p hp=>by rw [List.mem_singleton.mp hp];exact Nat.zero_le _⟩
 | _+1,[],_,_=>⟨Nat.le_refl _,fun p hp=>by rw [List.mem_singleton.mp hp];exact Nat.zero_le _⟩
 | f+1,b :: v,h,hu=>by
  have a1:v.length<=f:=by simpa using h
  obtain ⟨i1,i2⟩:=cutM_len f v a1 hu
  obtain ⟨j1,j2⟩:=cutM_len f ((b :: v).drop u.length) (by rw [List.length_drop,List.length_cons];omega) hu
  rw [List.length_drop] at j1 j2
  unfold cutMF
  rw [List.length_cons] at *
  split
  ·refine ⟨by rw [List.length_cons];omega,fun p hp=>?_⟩
   rcases List.mem_cons.mp hp with rfl | hp
   ·exact Nat.zero_le _
   ·have:=j2 p hp;omega
  ·split
   ·exact ⟨by simp,fun p hp=>by rw [List.mem_singleton.mp hp];simp⟩
   ·rename_i q qs e
    rw [e] at i1 i2
    rw [List.length_cons] at i1
    refine ⟨by rw [List.length_cons];omega,fun p hp=>?_⟩
    rcases List.mem_cons.mp hp with rfl | hp
    ·have:=i2 q (List.mem_cons_self ..);rw [List.length_cons];omega
    ·have:=i2 p (List.mem_cons_of_mem _ hp);omega
end Om
namespace L2
open PySem PySem.Spec PyProof.Rows PySem.W
theorem at_bs {w u:List Bool} {c:Nat}:StrLaws.At (bs w) (bs u) (bs w).length c↔c+u.length<=w.length/\(w.drop c).take u.length=u:=by
 unfold StrLaws.At
 rw [subAt_bs,bs_len,bs_len]
theorem take_at {w u:List Bool} {c:Nat} (h:(w.drop c).take u.length=u) (hu:1<=u.length):c+u.length<=w.length:=by
 have:=congrArg List.length h
 rw [List.length_take,List.length_drop] at this
 omega
theorem sub_bs (w:List Bool) (a b:Nat):Builtin.Str.strSub (bs w) a b=bs ((w.drop a).take (b - a)):=by
 apply Str.ext'
 apply Array.toList_inj.mp
 rw [StrLaws.strSub_toList]
 unfold bs
 simp [List.map_take,List.map_drop]
theorem parts_cut {w u:List Bool} (hu:1<=u.length):∀ (cuts:List Nat) (a f:Nat),a<=w.length->StrLaws.ChainG (bs w) (bs u) (bs w).length a cuts f->(∀ k,f<=k->¬ StrLaws.At (bs w) (bs u) (bs w).length k) →
  StrLaws.partsFrom (bs w) u.length a cuts=(Om.cutM u (w.drop a)).map bs
 | [],a,f,ha,h,hn=>by
  have e:f=a:=h
  subst e
  rw [Om.cutM_none hu _ fun k z=>?_]
  ·show [Builtin.Str.strSub (bs w) f (bs w).length]=[bs (w.drop f)]
   rw [sub_bs,bs_len,List.take_of_length_le (by rw [List.length_drop];omega)]
  ·rw [List.drop_drop] at z
   exact hn (f+k) (by omega) (at_bs.mpr ⟨take_at z hu,z⟩)
 | c :: r,a,f,ha,h,hn=>by
  obtain ⟨h1,h2,h3,h4⟩:=h
  obtain ⟨l1,l2⟩:=at_bs.mp h2
  rw [bs_len u] at h4
  have ih:=parts_cut hu r (c+u.length) f l1 h4 hn
  show Builtin.Str.strSub (bs w) a c :: StrLaws.partsFrom (bs w) u.length (c+u.length) r=_
  rw [ih,sub_bs]
  have e1:w.drop a=(w.drop a).take (c - a)++(u++w.drop (c+u.length)):=by
   have e2:u++w.drop (c+u.length)=w.drop c:=by
    conv=>rhs;rw [<-List.take_append_drop u.length (w.drop c),l2,List.drop_drop]
   rw [e2]
   have e3:w.drop c=(w.drop a).drop (c - a):=by rw [List.drop_drop];congr 1;omega
   rw [e3,List.take_append_drop]
  have pl:((w.drop a).take (c - a)).length=c - a:=by rw [List.length_take,List.length_drop];omega
  have e:=Om.cutM_first hu (w.drop (c+u.length)) ((w.drop a).take (c - a)) fun k hk z=>by
   rw [<-e1,List.drop_drop] at z
   rw [pl] at hk
   exact h3 (a+k) (by omega) (by omega) (at_bs.mpr ⟨take_at z hu,z⟩)
  rw [<-e1] at e
  rw [e]
  rfl
theorem kind_bs (w:List Bool):Builtin.Str.strKind (bs w)=1:=by
 unfold Builtin.Str.strKind
 rw [if_pos]
 rw [<-Array.all_toList,List.all_eq_true]
 intro x hx
 have hx:x∈w.map sg:=by unfold bs at hx;simpa using hx
 obtain ⟨b,_,rfl⟩:=List.mem_map.mp hx
 cases b<;>decide
theorem occ_cut {w u:List Bool} (hu:1<=u.length):StrLaws.partsFrom (bs w) u.length 0 (Builtin.Str.occurrences (bs w) (bs u) 0 (bs w).length ((bs w).length+1))=(Om.cutM u w).map bs:=by
 obtain ⟨f,h1,h2⟩:=StrLaws.occ_tight (bs w) (bs u) (by rw [bs_len];exact hu)
 have:=parts_cut hu _ 0 f (Nat.zero_le _) h1 h2
 rw [List.drop_zero] at this
 exact this
theorem split_bs {w u:List Bool} (hu:1<=u.length):Txt.split (bs w) (bs u)=(Om.cutM u w).map bs:=by
 have oc:=occ_cut (w:=w) hu
 unfold Txt.split
 rw [kind_bs,kind_bs]
 split
 ·rename_i h
  have hl:w.length < u.length:=by
   rw [bs_len,bs_len] at h
   simpa using h
  rw [Om.cutM_none hu _ fun k z=>by have:=take_at z hu;omega]
  rfl
 ·split
  ·rename_i h
   rw [List.isEmpty_iff.mp h] at oc
   have e:StrLaws.partsFrom (bs w) u.length 0 []=[bs w]:=by
    show [Builtin.Str.strSub (bs w) 0 (bs w).length]=_
    rw [sub_bs,bs_len,List.drop_zero,Nat.sub_zero,List.take_length]
   rw [e] at oc
   exact oc
  ·rw [StrLaws.partsBetween_eq,bs_len u]
   exact oc
theorem partsFrom_len (x:Str) (n:Nat):∀ (cuts:List Nat) (a:Nat),(StrLaws.partsFrom x n a cuts).length=cuts.length+1
 | [],_=>rfl
 | _ :: r,_=>by
  show (StrLaws.partsFrom x n _ r).length+1=_
  rw [partsFrom_len x n r]
  rfl
theorem count_bs {w u:List Bool} (hu:1<=u.length):Txt.count (bs w) (bs u)+1=((Om.cutM u w).length:Int):=by
 have e:=congrArg List.length (occ_cut (w:=w) hu)
 rw [partsFrom_len,List.length_map] at e
 unfold Txt.count
 omega
end L2
end
section
namespace L2
open PySem PySem.Spec PyProof.Rows PySem.W
def TrD (h base:Heap) (e:Addr) (c a0:Value) (dd:Option Addr) (fl:Value):Prop:=
 ∃ (oe:Obj) (vs:Array Value) (T:Addr) (oT:Obj) (ts:Array Value),h.get? e=some oe/\oe.cls=c/\oe.dict=dd/\vs[0]? = some a0/\oe.data = .fields vs/\vs[1]? = some (.ref T)/\base.get? T=none/\T≠e/\h.get? T=some oT/\oT.data = .fields ts/\ts[3]? = some fl
def FlyD (base:Heap) (l:List Env) (e:Addr) (c a0:Value) (dd:Option Addr) (h:Heap):Prop:=base.StaysIn h/\base.get? e=none/\h.FunFrames base l/\TrD h base e c a0 dd .none
def HldD (base:Heap) (l:List Env) (e:Addr) (c a0:Value) (dd:Option Addr) (L:Addr) (h:Heap):Prop:=base.StaysIn h/\base.get? e=none/\h.FunFrames base l/\TrD h base e c a0 dd (rawInt L)
theorem TrD.there {h base:Heap} {e:Addr} {c a0 fl:Value} {dd:Option Addr} (x:TrD h base e c a0 dd fl):∃ o,h.get? e=some o/\o.cls=c/\o.dict=dd:=by
 obtain ⟨oe,_,_,_,_,h1,h2,h3,_⟩:=x
 exact ⟨oe,h1,h2,h3⟩
theorem dict_mapFields (f:Array Value->Array Value) (o:Obj):(Obj.mapFields f o).dict=o.dict:=by
 unfold Obj.mapFields
 split<;>rfl
section
variable {M:Model} {A:Around} {E:Value->Shared->Prop} {s:Shared} {base:Heap} {env:Env} {outer:List Env} {L e:Addr} {a0:Value} {Q:Unit->Shared->Prop}
theorem entry_D {oe:Obj} {vs:Array Value} {hd0:Value} {had:Bool} (fr:A.frames=some (env :: outer)) (ff:s.heap.FunFrames base (env :: outer)) (lf:env.frame=some L) (ge:s.heap.get? e=some oe) (bs:base.StaysIn s.heap) (be:base.get? e=none)
  (dv:oe.data = .fields vs) (sz:1 < vs.size) (v0:vs[0]? = some a0)
  (k:∀ h',base.StaysIn h'->h'.FunFrames base (env :: outer)->TrD h' base e oe.cls a0 oe.dict (rawInt L)->s.heap.UpToSlots h'->Q () { s with heap:=h' }) :
  wpAny M A (do let x <-frameOf env;let y <-entryPlaceOf L had;let z <-EntryCells.newEntry hd0 x .none (rawInt L) .none y;setField (.ref e) 1 z) Q E s:=by
 have ne:e ∉ (env :: outer).filterMap (·.frame):=fun m=>by
  obtain ⟨_,o,ho,nf⟩:=ff.mem m
  rw [ge] at ho
  cases ho
  exact nf vs dv
 refine wpAny_bind (wpAny_frameOf_fun fr ff lf fun h1 so=>wpAny_bind (wpAny_entryPlaceOf fun pl ip=>?_))
 unfold EntryCells.newEntry newFields
 refine wpAny_bind (wpAny_newObj_type ?_ (ip.sizeOk5 _ _ _ _ _))
 have e1:h1.get? e=some oe:=(so.2.1 e ne).trans ge
 have b1:base.StaysIn h1:=fun b o q=>(so.2.1 b fun m=>by rw [(ff.mem m).1] at q;cases q).trans (bs b o q)
 have t3:([hd0,.ref L,.none,rawInt L,.none]++(if pl.isEmpty then List.replicate 6 Value.none else pl)).toArray[3]? = some (rawInt L):=by
  first | (simp;done) | (rcases ip with rfl | ⟨_,_,_,_,_,_,_,rfl⟩<;>simp)
 generalize ([hd0,.ref L,.none,rawInt L,.none]++(if pl.isEmpty then List.replicate 6 Value.none else pl)).toArray=arr at t3 ⊢
 have e2:=Heap.get?_push_of_some (h:=h1) { cls:=.type "traceback",dict:=none,data:=.fields arr } e1
 have Te:h1.objs.size≠e:=Nat.ne_of_gt (Heap.lt_size e1)
 have d3:=Obj.data_mapFields dv (·.setIfInBounds 1 (Value.ref h1.objs.size))
 have e3:=Heap.get?_update_self (Obj.mapFields (·.setIfInBounds 1 (Value.ref h1.objs.size))) e2 (Obj.isFreed_of_fields d3)
 have T3:=(Heap.get?_update_other (h1.push { cls:=.type "traceback",dict:=none,data:=.fields arr }) (Obj.mapFields (·.setIfInBounds 1 (Value.ref h1.objs.size))) (Ne.symm Te)).trans (Heap.get?_push_size h1 rfl)
 have kb:∀ b o,b≠e->h1.get? b=some o->((h1.push { cls:=.type "traceback",dict:=none,data:=.fields arr }).update e (Obj.mapFields (·.setIfInBounds 1 (Value.ref h1.objs.size)))).get? b=some o:=fun b o n q=>by
  rw [Heap.get?_update_other _ _ (Ne.symm n)]
  exact Heap.get?_push_of_some _ q
 have nr:∀ b o,s.heap.get? b=some o->(∀ ws,o.data≠.fields ws)->b≠e:=fun b o q nf z=>by
  rw [z,ge] at q
  cases q
  exact nf vs dv
 refine wpAny_setField e2 dv sz (k _ (fun b o q=>kb b o (fun z=>by rw [z,be] at q;cases q) (b1 b o q)) (ff.of_keeps fun b o q nf=>?_) ⟨_,_,h1.objs.size,_,arr,e3,Obj.cls_mapFields _ _,?_,by rw [Array.getElem?_setIfInBounds_ne (by decide)];exact v0,d3,by simp [sz],b1.fresh,Te,T3,rfl,t3⟩ fun b o q nf=>?_)
 ·obtain ⟨sl,q1⟩:=so.2.2 b o q
  exact ⟨_,kb b _ (nr b o q nf) q1,rfl⟩
 ·exact dict_mapFields _ _
 ·obtain ⟨sl,q1⟩:=so.2.2 b o q
  exact ⟨sl,kb b _ (nr b o q nf) q1⟩
theorem note_D {oe:Obj} {vs:Array Value} (fr:A.frames=some (env :: outer)) (ff:s.heap.FunFrames base (env :: outer)) (lf:env.frame=some L) (ge:s.heap.get? e=some oe) (bs:base.StaysIn s.heap) (be:base.get? e=none)
  (dv:oe.data = .fields vs) (v0:vs[0]? = some a0) (v1:vs[1]? = some .none\/∃ (T:Addr) (oT:Obj) (ts:Array Value),vs[1]? = some (.ref T)/\base.get? T=none/\T≠e/\s.heap.get? T=some oT/\oT.data = .fields ts/\ts[3]? = some .none)
  (k:∀ h',base.StaysIn h'->h'.FunFrames base (env :: outer)->TrD h' base e oe.cls a0 oe.dict (rawInt L)->s.heap.UpToSlots h'->Q () { s with heap:=h' }):wpAny M A (noteFrame (.ref e) env) Q E s:=by
 unfold noteFrame
 simp only [lf]
 rcases v1 with v1 | ⟨T,oT,ts,v1,bT,Te,gT,dT,t3⟩
 ·refine wpAny_bind (wpAny_field ge dv v1 ?_)
  rw [if_neg (show ¬ ((Value.none != Value.none)=true) by decide)]
  exact entry_D fr ff lf ge bs be dv (Array.getElem?_eq_some_iff.mp v1).1 v0 k
 ·refine wpAny_bind (wpAny_field ge dv v1 ?_)
  rw [if_pos (show (Value.ref T != Value.none)=true by simp)]
  refine wpAny_bind (wpAny_field gT dT t3 ?_)
  rw [if_neg (show ¬ ((Value.none == rawInt (L:Int))=true) by simp [rawInt])]
  refine wpAny_bind (wpAny_setField gT dT (Array.getElem?_eq_some_iff.mp t3).1 ?_)
  have ot:∀ b,b≠T->(s.heap.update T (Obj.mapFields (·.setIfInBounds 3 Value.none))).get? b=s.heap.get? b:=fun b n=>Heap.get?_update_other _ _ (Ne.symm n)
  have nr:∀ b o,s.heap.get? b=some o->(∀ ws,o.data≠.fields ws)->b≠T:=fun b o q nf z=>by
   rw [z,gT] at q
   cases q
   exact nf ts dT
  refine entry_D fr (ff.of_keeps fun b o q nf=>⟨o,(ot b (nr b o q nf)).trans q,rfl⟩) lf ((ot e (Ne.symm Te)).trans ge) (fun b o q=>(ot b fun z=>by rw [z,bT] at q;cases q).trans (bs b o q)) be dv (Array.getElem?_eq_some_iff.mp v1).1 v0 fun h' k1 k2 k3 k4=>k h' k1 k2 k3 fun b o q nf=>k4 b o ((ot b (nr b o q nf)).trans q) nf
theorem flight_D {c fl:Value} {dd:Option Addr} {l:List Env} (bs:base.StaysIn s.heap) (ff:s.heap.FunFrames base l) (tr:TrD s.heap base e c a0 dd fl)
  (k:∀ h',base.StaysIn h'->h'.FunFrames base l->TrD h' base e c a0 dd .none->s.heap.UpToSlots h'->Q () { s with heap:=h' }):wpAny M A (setFlight (.ref e) none) Q E s:=by
 obtain ⟨oe,vs,T,oT,ts,ge,hc,hd,v0,dv,v1,bT,Te,gT,dT,t3⟩:=tr
 have s3:3 < ts.size:=(Array.getElem?_eq_some_iff.mp t3).1
 have ot:∀ b,b≠T->(s.heap.update T (Obj.mapFields (·.setIfInBounds 3 ((none:Option Addr).elim Value.none fun f=>rawInt f)))).get? b=s.heap.get? b:=fun b n=>Heap.get?_update_other _ _ (Ne.symm n)
 have nr:∀ b o,s.heap.get? b=some o->(∀ ws,o.data≠.fields ws)->b≠T:=fun b o q nf z=>by
  rw [z,gT] at q
  cases q
  exact nf ts dT
 unfold setFlight
 refine wpAny_bind (wpAny_field ge dv v1 ?_)
 rw [if_pos (show (Value.ref T != Value.none)=true by simp)]
 refine wpAny_setField gT dT s3 (k _ (fun b o q=>(ot b fun z=>by rw [z,bT] at q;cases q).trans (bs b o q)) (ff.of_keeps fun b o q nf=>⟨o,(ot b (nr b o q nf)).trans q,rfl⟩) ?_ fun b o q nf=>⟨o.slots,(ot b (nr b o q nf)).trans q⟩)
 exact ⟨oe,vs,T,_,_,(ot e (Ne.symm Te)).trans ge,hc,hd,v0,dv,v1,bT,Te,Heap.get?_update_self _ gT (Obj.isFreed_of_fields (Obj.data_mapFields dT _)),Obj.data_mapFields dT _,by simp [s3]⟩
theorem TrD.note {h:Heap} {c:Value} {dd:Option Addr} (tr:TrD h base e c a0 dd .none):∃ (oe:Obj) (vs:Array Value),h.get? e=some oe/\oe.cls=c/\oe.dict=dd/\oe.data = .fields vs/\vs[0]? = some a0/\∃ (T:Addr) (oT:Obj) (ts:Array Value),vs[1]? = some (.ref T)/\base.get? T=none/\T≠e/\h.get? T=some oT/\oT.data = .fields ts/\ts[3]? = some .none:=by
 obtain ⟨oe,vs,T,oT,ts,h1,h2,h3,h4,h5,h6⟩:=tr
 exact ⟨oe,vs,h1,h2,h3,h5,h4,T,oT,ts,h6⟩
theorem leave_new {oe:Obj} {vs:Array Value} (fr:A.frames=some (env :: outer)) (ff:s.heap.FunFrames base (env :: outer)) (lf:env.frame=some L) (ge:s.heap.get? e=some oe) (bs:base.StaysIn s.heap) (be:base.get? e=none)
  (dv:oe.data = .fields vs) (v0:vs[0]? = some a0) (v1:vs[1]? = some .none) (k:∀ h',FlyD base outer e oe.cls a0 oe.dict h'->s.heap.UpToSlots h'->Q () { s with heap:=h' }):wpAny M A (leaving env (.ref e)) Q E s:=by
 unfold leaving
 refine wpAny_bind (note_D fr ff lf ge bs be dv v0 (.inl v1) fun h1 k1 k2 k3 k4=>?_)
 refine flight_D k1 k2 k3 fun h2 g1 g2 g3 g4=>k h2 ⟨g1,be,?_,g3⟩ (k4.trans g4)
 obtain ⟨_,_,g2⟩:=g2
 exact g2
theorem leave_on {c:Value} {dd:Option Addr} (fr:A.frames=some (env :: outer)) (lf:env.frame=some L) (fl:FlyD base (env :: outer) e c a0 dd s.heap) (k:∀ h',FlyD base outer e c a0 dd h'->s.heap.UpToSlots h'->Q () { s with heap:=h' }):wpAny M A (leaving env (.ref e)) Q E s:=by
 obtain ⟨bs,be,ff,tr⟩:=fl
 obtain ⟨oe,vs,ge,rfl,rfl,dv,v0,more⟩:=tr.note
 unfold leaving
 refine wpAny_bind (note_D fr ff lf ge bs be dv v0 (.inr more) fun h1 k1 k2 k3 k4=>?_)
 refine flight_D k1 k2 k3 fun h2 g1 g2 g3 g4=>k h2 ⟨g1,be,?_,g3⟩ (k4.trans g4)
 obtain ⟨_,_,g2⟩:=g2
 exact g2
theorem look_D {c:Value} {dd:Option Addr} (fr:A.frames=some (env :: outer)) (lf:env.frame=some L) (fl:FlyD base (env :: outer) e c a0 dd s.heap) (k:∀ h',HldD base (env :: outer) e c a0 dd L h'->s.heap.UpToSlots h'->Q () { s with heap:=h' }):wpAny M A (noteFrame (.ref e) env) Q E s:=by
 obtain ⟨bs,be,ff,tr⟩:=fl
 obtain ⟨oe,vs,ge,rfl,rfl,dv,v0,more⟩:=tr.note
 exact note_D fr ff lf ge bs be dv v0 (.inr more) fun h1 k1 k2 k3 k4=>k h1 ⟨k1,be,k2,k3⟩ k4
theorem land_D {c:Value} {dd:Option Addr} {l:List Env} (hh:HldD base l e c a0 dd L s.heap) (k:∀ h',FlyD base l e c a0 dd h'->s.heap.UpToSlots h'->Q () { s with heap:=h' }):wpAny M A (setFlight (.ref e) none) Q E s:=by
 obtain ⟨bs,be,ff,tr⟩:=hh
 exact flight_D bs ff tr fun h1 k1 k2 k3 k4=>k h1 ⟨k1,be,k2,k3⟩ k4
theorem land_D2 {c:Value} {dd:Option Addr} {l:List Env} (hh:FlyD base l e c a0 dd s.heap) (k:∀ h',FlyD base l e c a0 dd h'->s.heap.UpToSlots h'->Q () { s with heap:=h' }):wpAny M A (setFlight (.ref e) none) Q E s:=by
 obtain ⟨bs,be,ff,tr⟩:=hh
 exact flight_D bs ff tr fun h1 k1 k2 k3 k4=>k h1 ⟨k1,be,k2,k3⟩ k4
end
end L2
end
section
namespace PySem.W
open PySem PySem.Spec PySem.Calls PyProof.Rows Builtin Builtin.ObjectAttr Builtin.Getset_descriptor
abbrev veM:List Value:=[.type "ValueError",.type "Exception",.type "BaseException",.type "object"]
section
variable {prog:Program} {w:World} {A:Around} {E:Value->Shared->Prop} {h:Heap} {g:Array GenState} {dr:Drawn} {t:Nat} {os:OsState} {K:Frag}
variable {nm q:Str} {C N B x:Addr} {bs:List Value} {sn:List Str} {sub:List Value} {ab:Bool} {col:Option Bool} {dd:Option Addr} {k0 k1 k2 k3 k5:Option Value} {name:Str} {v:Value} {o:Obj}
theorem store_exc {tk:Tok} {Q:PySem.Fin->Shared->Prop} (X:K.In h) (hC:h.get? C=some (excClassObj nm q C N bs (.ref B :: veM) true sn sub ab col dd k0 k1 k2 k3 k5 "ValueError.__new__")) (na:findIn K (.ref C) name=some none)
  (hx:h.get? x=some o) (hc:o.cls = .ref C) (hn:o.dict=none) (hnc:∀ c,o.data≠.cls c)
  (k:∀ h' d tk',h.get? d=none->d≠x->h'.Ns1 d (fun y=>if y=name then some v else none)->h'.get? x=some { o with dict:=some d }->(∀ b ob,b≠x->h.get? b=some ob->h'.get? b=some ob)->Q (.done (.ret .none)) ⟨h',g,dr,tk',os⟩) :
  wpAny (model prog w) A (Builtin.«object.__setattr__» ⟨[.ref x,.str name tk,v],[]⟩) Q E ⟨h,g,dr,t,os⟩:=by
 have hpass:=F.store_ValueError.passes (.ref x)
 have lk:=looks_findIn (M:=model prog w) X na
 unfold Builtin.«object.__setattr__»
 repeat (first | rw [refuse_eq] | (rw [refuseLoop_ref,refuseLoop_ref,hpass]) | (with_reducible refine wpAny_loadPart_at hx ?_;rw [hc]) | with_reducible refine wpAny_mroOf_exc hC ?_ | (with_reducible refine lk.at ?_) | wp_step)
 rw [hn]
 dsimp only
 rw [if_neg (show ¬ ((!true || !typeHasDict (Value.ref C))=true) by simp [typeHasDict])]
 have x1:(h.push { cls:=.type "dict",data:=.dict #[] }).get? x=some o:=Heap.get?_push_of_some _ hx
 have xs:x≠h.objs.size:=Nat.ne_of_lt (Heap.lt_size hx)
 split
 ·rename_i c hcd
  exact absurd hcd (hnc c)
 ·refine wpAny_bind (wpAny_alloc' (wpAny_bind (wpAny_update' x1 (wpAny_pure ?_))))
  have gd:((h.push { cls:=.type "dict",data:=.dict #[] }).update x fun o=>{ cls:=o.cls,dict:=some h.objs.size,data:=o.data,slots:=o.slots }).get? h.objs.size=some { cls:=.type "dict",data:=.dict #[] }:=(Heap.get?_update_ne _ _ _ _ xs.symm).trans (Heap.get?_push_at rfl rfl)
  have nd:((h.push { cls:=.type "dict",data:=.dict #[] }).update x fun o=>{ cls:=o.cls,dict:=some h.objs.size,data:=o.data,slots:=o.slots }).Ns h.objs.size (fun _=>none):=⟨_,#[],_,gd,rfl,fun e he=>absurd he (by simp),fun _=>rfl⟩
  show wpAny _ _ (storeInDict h.objs.size (.str name tk) name v) _ _ _
  unfold storeInDict newKeyGuard
  refine wpAny_bind (wpAny_pure (wpAny_bind (wpAny_nsSet1 (Heap.Ns1.of_empty nd) fun h' n' hs=>?_)))
  obtain ⟨oD,eD,pD,gD,dD,cD⟩:=n'.count (Within.cons name v Within.nil)
  refine wpAny_bind (wpAny_lookBehind gD (by rw [dD];exact pastItsLine_dict (Nat.le_trans cD (by rw [List.length_cons,List.length_nil,sizeLine_eq];omega))) ?_)
  wp_walk
  refine k h' h.objs.size _ (Heap.get?_none_of_le (Nat.le_refl _)) xs.symm n' ((hs.2 x xs).trans (Heap.get?_update_self _ x1 ?_)) fun b ob n1 e1=>(hs.2 b (Nat.ne_of_lt (Heap.lt_size e1))).trans ((Heap.get?_update_ne _ _ _ _ n1).trans (Heap.get?_push_of_some _ e1))
  have hfr:=(Heap.get?_some_iff.mp hx).2
  obtain ⟨oc,od,odt,osl⟩:=o
  cases odt<;>first | rfl | exact hfr
theorem ve_has (T:String) (hT:veM.contains (.type T)=true):(Value.ref C :: .ref B :: veM).contains (.type T)=true:=by
 rw [List.contains_cons,List.contains_cons,hT,Bool.or_true,Bool.or_true]
theorem check_sa_exc {M:Model} {nameV:Value} {Q:Unit->Shared->Prop} (hC:h.get? C=some (excClassObj nm q C N bs (.ref B :: veM) true sn sub ab col dd k0 k1 k2 k3 k5 "ValueError.__new__")) (hx:h.get? x=some o) (hc:o.cls = .ref C) (hq:Q () ⟨h,g,dr,t,os⟩) :
  wpAny M A (checkBuiltinCall "object.__setattr__" ⟨[.ref x,nameV,v],[]⟩) Q E ⟨h,g,dr,t,os⟩:=by
 have SF:=F.store_ValueError
 have co:(Value.ref C :: .ref B :: veM).contains (.type "object")=true:=ve_has "object" (by decide)
 have ha:=SF.args (.ref x) nameV v
 simp only [checkBuiltinCall,SF.kind,SF.split]
 refine wpAny_bind ?_
 unfold isInstance
 repeat (first | (with_reducible refine wpAny_loadPart_at hx ?_;rw [hc]) | (with_reducible refine wpAny_isSubtype_exc hC ?_;rw [co]) | wp_step)
 exact hq
theorem setAttr_exc {Q:Unit->Shared->Prop} (X:K.In h) (hC:h.get? C=some (excClassObj nm q C N bs (.ref B :: veM) true sn sub ab col dd k0 k1 k2 k3 k5 "ValueError.__new__")) (sa:findIn K (.ref C) "__setattr__" = some (some (.builtin "object.__setattr__"))) (na:findIn K (.ref C) name=some none)
  (hx:h.get? x=some o) (hc:o.cls = .ref C) (hn:o.dict=none) (hnc:∀ c,o.data≠.cls c)
  (k:∀ h' d tk',h.get? d=none->d≠x->h'.Ns1 d (fun y=>if y=name then some v else none)->h'.get? x=some { o with dict:=some d }->(∀ b ob,b≠x->h.get? b=some ob->h'.get? b=some ob)->Q () ⟨h',g,dr,tk',os⟩) :
  wpAny (model prog w) A (setAttr (.ref x) name v) Q E ⟨h,g,dr,t,os⟩:=by
 have SF:=F.store_ValueError
 have f3:=SF.slot.bind (.ref x)
 have lk:=looks_findIn (M:=model prog w) X sa
 unfold setAttr callSpecial? specialOf
 repeat (any_goals (first | assumption | (with_reducible refine wpAny_loadPart_at hx ?_;rw [hc]) | (with_reducible refine lk.at ?_) | wp_step))
 refine codeAny_call_builtin SF.slot.plain SF.entry (check_sa_exc hC hx hc (store_exc X hC na hx hc hn hnc fun h' d tk' a1 a2 a3 a4 a5=>?_))
 repeat (any_goals (first | assumption | wp_step))
 exact k h' d _ a1 a2 a3 a4 a5
theorem read_exc {Q:Value->Shared->Prop} {d:Addr} {mA:Str->Option Value} {ex:Bool} (X:K.In h) (hC:h.get? C=some (excClassObj nm q C N bs (.ref B :: veM) true sn sub ab col dd k0 k1 k2 k3 k5 "ValueError.__new__")) (ga:findIn K (.ref C) "__getattribute__" = some (some (.builtin "BaseException.__getattribute__"))) (gh:findIn K (.ref C) "__getattr__" = some none) (be:mroIn K C (.type "BaseException")=some true) (na:findIn K (.ref C) name=some none)
  (hx:h.get? x=some o) (hc:o.cls = .ref C) (hnc:∀ c,o.data≠.cls c) (hd:o.dict=some d) (hn:h.Ns d mA) (hm:mA name=some v) (hv:handedIn v=true) (k:Q v ⟨h,g,dr,t+1,os⟩):wpAny (model prog w) A (getAttr (.ref x) name ex) Q E ⟨h,g,dr,t,os⟩:=by
 have t0:Looks (model prog w) h (typeOf (.ref x)) (.ref C):=hc ▸ (Looks.ld hx).andThen .now
 have t1:=looks_findIn (M:=model prog w) X ga
 have t3:=looks_findIn (M:=model prog w) X gh
 have t5:=looks_mroIn (M:=model prog w) X be
 have t6:=looks_findIn (M:=model prog w) X na
 have hx2:(onTheHeap (Value.ref C) && Value.builtin "BaseException.__getattribute__" == Value.builtin "object.__getattribute__")=false:=by
  have:(Value.builtin "BaseException.__getattribute__" == Value.builtin "object.__getattribute__")=false:=by decide +kernel
  rw [this,Bool.and_false]
 have hk:builtinKind "BaseException.__getattribute__" = some .slot:=by decide +kernel
 have hsplit:splitId "BaseException.__getattribute__" = some ("BaseException","__getattribute__"):=by decide +kernel
 unfold getAttr getAttrBy
 refine wpAny_bind (wpAny_mkText (wpAny_holding (wpAny_bind (t0.at (wpAny_bind (t1.at ?_))))))
 show wpAny _ _ (if (onTheHeap (Value.ref C) && Value.builtin "BaseException.__getattribute__" == Value.builtin "object.__getattribute__")=true then _ else getAttrByItsOwn _ _ _ _ _ _) _ _ _
 rw [hx2,if_neg (by decide)]
 unfold getAttrByItsOwn
 refine wpAny_bind ?_
 show wpAny _ _ (typeLookup (.ref C) "__getattr__") _ _ _
 refine t3.at (wpAny_bind (wpAny_attempt (wpAny_holding ?_)))
 unfold callGetattribute
 try rw [show (ex && onTheHeap (Value.builtin "BaseException.__getattribute__"))=false by cases ex<;>rfl]
 try simp only [Bool.false_eq_true,if_false]
 show wpAny _ _ (boundAndCalled _ _ _) _ _ _
 unfold boundAndCalled
 rw [F.excAttr_ValueError.ga.bind (.ref x)]
 refine wpAny_bind (wpAny_pure ?_)
 show wpAny _ _ (call (.builtin "BaseException.__getattribute__") [.ref x,_]) _ _ _
 refine wpAny_call (codeAny_call_builtin F.excAttr_ValueError.ga.plain F.entry_bexc_ga ?_)
 have ha:=F.args_bexc_ga (.ref x) (.str name t)
 simp only [checkBuiltinCall,hk,hsplit]
 unfold isInstance
 repeat lk
 split
 ·rename_i c z
  exact absurd z (hnc c)
 ·unfold instanceDict
  repeat (first | (with_reducible refine wpAny_loadPart_at hx ?_;rw [hc]) | with_reducible refine wpAny_loadPart_at hC ?_ | wp_step)
  rw [hd]
  refine wpAny_pure ?_
  show wpAny _ _ (nsGet d name) _ _ _
  refine wpAny_nsGet hn ?_
  rw [hm]
  refine wpAny_bind (wpAny_rule (wpAny_pure ?_))
  show wpAny _ _ (ret v) _ _ _
  refine wpAny_pure ?_
  show wpAny _ _ (handedOut v) _ _ _
  rw [handedOut_of hv]
  exact wpAny_pure k
theorem init_exc {y:Value} {ta:Addr} {vs:Array Value} {Q:Value->Shared->Prop} (T:OwnTail h veM (.ref B :: veM)) (hC:h.get? C=some (excClassObj nm q C N bs (.ref B :: veM) true sn sub ab col dd k0 k1 k2 k3 k5 "ValueError.__new__"))
  (hx:h.get? x=some o) (hc:o.cls = .ref C) (hd:o.data = .fields vs) (v0:vs[0]? = some (.ref ta)) (k:Q .none ⟨(h.push { cls:=.type "tuple",data:=.seq #[y] }).update x (Obj.mapFields (·.setIfInBounds 0 (.ref h.objs.size))),g,dr,t,os⟩) :
  wpAny (model prog w) A (call (.builtin "ValueError.__init__") [.ref x,y]) Q E ⟨h,g,dr,t,os⟩:=by
 have Fb:=F.excBase_ValueError
 refine wpAny_call (codeAny_call_builtin Fb.init.plain Fb.initEntry (wpAny_check_init_subT Fb T hC hx hc ?_))
 have x1:=Heap.get?_push_of_some { cls:=.type "tuple",data:=.seq #[y] } hx
 wp_walk
 rw [hd]
 refine wpAny_pure ?_
 dsimp only
 rw [v0]
 refine wpAny_pure (wpAny_bind (wpAny_setField x1 hd (Array.getElem?_eq_some_iff.mp v0).1 ?_))
 dsimp only
 wp_walk
 exact k
theorem tcall_own {mN:Str->Option Value} {rest:List Value} {fI:Addr} {oI:Obj} {Q:PySem.Fin->Shared->Prop} (T:OwnTail h veM (.ref B :: veM)) (hC:h.get? C=some (excClassObj nm q C N bs (.ref B :: veM) true sn sub ab col dd k0 k1 k2 k3 k5 "ValueError.__new__"))
  (hn:h.Ns N mN) (hi:mN "__init__" = some (.ref fI)) (gI:h.get? fI=some oI) (cI:oI.cls = .type "function")
  (k:∀ h' e,Heap.MadeExcOf h h' e (.ref C) rest->h.objs.size<=e->wpAny (model prog w) A (call (.ref fI) (.ref e :: rest)) (fun r s'=>r = .none/\Q (.done (.ret (.ref e))) s') E ⟨h',g,dr,t,os⟩) (hz:rest.length<=sizeLine) :
  wpAny (model prog w) A (Builtin.«type.__call__» ⟨.ref C :: rest,[]⟩) Q E ⟨h,g,dr,t,os⟩:=by
 have Fb:=F.excBase_ValueError
 repeat (first | with_reducible refine wpAny_loadPart_at hC ?_ | with_reducible refine wpAny_madeBy_exc hC ?_ | wp_step)
 refine codeAny_call_builtin_code (Code.quiet_builtin _ Fb.quiet) (wpAny_check_new_subT Fb T hC (codeAny_exc_new_subT Fb T hC ?_ hz))
 show wpAny _ _ _ _ _ _
 have kp:∀ b o,h.get? b=some o->((h.push { cls:=.type "tuple",data:=.seq rest.toArray }).push { cls:=.ref C,data:=.fields #[.ref h.objs.size,.none,.none,.none,.bool false,.none] }).get? b=some o:=fun b o e=>Heap.get?_push_of_some _ (Heap.get?_push_of_some _ e)
 have gx:((h.push { cls:=.type "tuple",data:=.seq rest.toArray }).push { cls:=.ref C,data:=.fields #[.ref h.objs.size,.none,.none,.none,.bool false,.none] }).get? (h.objs.size+1)=some { cls:=.ref C,data:=.fields #[.ref h.objs.size,.none,.none,.none,.bool false,.none] }:=by heap_get
 have cC:(Value.ref C :: .ref B :: veM).contains (.ref C)=true:=by simp
 have hC1:=kp _ _ hC
 have T1:=T.keeps kp
 unfold isInstance
 repeat (first | with_reducible refine wpAny_loadPart_at gx ?_ | (with_reducible refine wpAny_isSubtype_exc hC1 ?_;rw [cC]) | wp_step)
 show wpAny _ _ (typeLookup (.ref C) _) _ _ _
 refine wpAny_typeLookup_tail hC1 (hn.keeps kp) T1 Fb.mroIs Fb.init.lookup ?_
 rw [hi]
 refine wpAny_holding (wpAny_bind ?_)
 unfold bindSpecial
 refine wpAny_bind (wpAny_typeOf (T:= "function") ⟨_,kp _ _ gI,cI⟩ ?_)
 rw [if_pos (show (Value.type "function" == Value.type "function" || Value.type "function" == Value.type "method_descriptor" || Value.type "function" == Value.type "wrapper_descriptor")=true by decide)]
 refine wpAny_pure (wpAny_bind (wpAny_mono (k _ (h.objs.size+1) ⟨kp,Heap.get?_none_of_le (Nat.le_succ _),h.objs.size,gx,Heap.get?_none_of_le (Nat.le_refl _),Heap.get?_push_of_some _ (Heap.get?_push_at rfl rfl)⟩ (Nat.le_succ _)) (fun r s' hr=>?_) fun _ _ z=>z))
 obtain ⟨rfl,hQ⟩:=hr
 wp_walk
 exact hQ
theorem call_own {mN:Str->Option Value} {rest:List Value} {fI:Addr} {oI:Obj} {Q:Value->Shared->Prop} (T:OwnTail h veM (.ref B :: veM)) (hC:h.get? C=some (excClassObj nm q C N bs (.ref B :: veM) true sn sub ab col dd k0 k1 k2 k3 k5 "ValueError.__new__"))
  (hn:h.Ns N mN) (hi:mN "__init__" = some (.ref fI)) (gI:h.get? fI=some oI) (cI:oI.cls = .type "function")
  (k:∀ h' e,Heap.MadeExcOf h h' e (.ref C) rest->h.objs.size<=e->wpAny (model prog w) (A.under (.builtin "type.__call__" ⟨.ref C :: rest,[]⟩)) (call (.ref fI) (.ref e :: rest)) (fun r s'=>r = .none/\Q (.ref e) s') E ⟨h',g,dr,t,os⟩) (hz:rest.length<=sizeLine) :
  wpAny (model prog w) A (call (.ref C) rest) Q E ⟨h,g,dr,t,os⟩:=by
 have f1:=tc_lookup
 have f2:=tc_bind (.ref C)
 have hT:(⟨h,g,dr,t,os⟩ : Shared).TypeIs (.ref C) "type" := ⟨_,hC,rfl⟩
 refine wpAny_call (codeAny_of_tree ?_)
 show wpAny _ _ (callAny (.ref C) _) _ _ _
 repeat (any_goals (first | assumption | with_reducible refine wpAny_loadPart_at hC ?_ | wp_step))
 refine ⟨rfl,codeAny_call_builtin_at (Code.quiet_builtin _ (by decide +kernel)) entry_typeCall (wpAny_check_type_call_sub hC (tcall_own T hC hn hi gI cI (fun h' e hm le=>?_) hz))⟩
 exact k h' e hm le
theorem raise_made {M:Model} {env:Env} {s:Shared} {y:Sem Value} {Q:Flow->Shared->Prop} (hh:A.handled=none)
  (k:wpAny M A y (fun v s₁=>∃ (e ta:Addr) (dc:Option Addr) (sl:Array (Option Value)),v = .ref e/\s₁.heap.get? C=some (excClassObj nm q C N bs (.ref B :: veM) true sn sub ab col dd k0 k1 k2 k3 k5 "ValueError.__new__")/\s₁.heap.get? e=some { cls:=.ref C,dict:=dc,data:=.fields #[.ref ta,.none,.none,.none,.bool false,.none],slots:=sl }/\E (.ref e) s₁) E s):wpAny M A (raiseStmt env (some y) none) Q E s:=by
 have cB:(Value.ref C :: .ref B :: veM).contains (.type "BaseException")=true:=ve_has "BaseException" (by decide)
 unfold raiseStmt
 refine wpAny_bind (wpAny_mono k (fun v s₁ h₁=>?_) fun _ _ x=>x)
 obtain ⟨e,ta,dc,sl,rfl,hC,he,hE⟩:=h₁
 obtain ⟨hp,gg,dd',tk,oss⟩:=s₁
 repeat (first | with_reducible refine wpAny_loadPart_at he ?_ | with_reducible refine wpAny_loadPart_at hC ?_ | (with_reducible refine wpAny_isSubtype_exc hC ?_;rw [cB]) | wp_step)
 exact wpAny_raiseNew_none hh hE
end
end PySem.W
end
section
namespace L2
open PySem PySem.Spec PyProof.Rows PySem.W
theorem HOk.has {P:Program} {w:World} {H:Hp} {h:Heap} (x:HOk P w H h) {a:Addr} {u:HO} (e:H a=some u):∃ o,h.get? a=some o:=by
 have lt:=x.lt e
 cases q:h.get? a with
 | some o=>exact ⟨o,rfl⟩
 | none=>
  exfalso
  have y:=x a u e
  cases u with
  | lst xs=>obtain ⟨_,_,_,_,z⟩:=y;rw [q] at z;cases z
  | tup xs=>obtain ⟨_,_,_,ob,z,_⟩:=y;rw [q] at z;cases z
  | dK kvs=>obtain ⟨_,_,_,_,o,_,_,z,_⟩:=y;rw [q] at z;cases z
  | dT kvs=>obtain ⟨_,_,_,_,o,_,_,z,_⟩:=y;rw [q] at z;cases z
  | set S n=>obtain ⟨o,_,_,_,z,_⟩:=y;rw [q] at z;cases z
  | ins C dx fs=>obtain ⟨_,_,_,z,_⟩:=y;rw [q] at z;cases z
  | own y'=>obtain ⟨_,z⟩:=y;rw [q] at z;cases z
  | xd fs=>obtain ⟨_,⟨_,_,_,z,_⟩,_⟩:=y;rw [q] at z;cases z
  | rng lo hi=>obtain ⟨_,_,_,z⟩:=y;rw [q] at z;cases z
  | frz ob u=>obtain ⟨z,_⟩:=y;rw [q] at z;cases z
  | tbl ps=>have z:h.get? a=some _:=y;rw [q] at z;cases z
  | met f y'=>have z:h.get? a=some _:=y;rw [q] at z;cases z
  | ext φ=>obtain ⟨_,⟨_,z⟩,_⟩:=y;rw [q] at z;cases z
section
variable {P:Program} {w:World} {K:PySem.W.Frag} {mg:Str->Option Value} {base:Heap} {N:List Str} {qual:Str} {scope:Scope} {f:Addr} {cd:Value} {A:Around} {outer:List Env} {s:Shared} {H:Hp} {E:XK}
end
end L2
end
section
namespace L2
open PySem PySem.Spec PyProof.Rows PySem.W
abbrev veM:List Value:=[.type "ValueError",.type "Exception",.type "BaseException",.type "object"]
def ExnOk (K:PySem.W.Frag) (C:Addr):Prop:=∃ (nm q:Str) (N:Addr) (bs bm:List Value) (hdct:Bool) (sn:List Str) (sub:List Value) (ab:Bool) (col:Option Bool) (dd:Option Addr) (k0 k1 k2 k3 k5:Option Value) (mN:Str->Option Value),mN "__init__" = none ∧
 ∀ h:Heap,K.In h->h.get? C=some (excClassObj nm q C N bs bm hdct sn sub ab col dd k0 k1 k2 k3 k5 "ValueError.__new__")/\h.Ns N mN/\OwnTail h veM bm
def tRaise (E:XK) (C:Addr) (t:TA):TS:=fun _ σ H=>t σ H fun vs H1=>vs.length<=1000/\E (.ref C) none H1
section
variable {P:Program} {w:World} {K:PySem.W.Frag} {mg:Str->Option Value} {base:Heap} {N:List Str} {qual:Str} {scope:Scope} {f:Addr} {cd:Value} {A:Around} {outer:List Env} {s:Shared} {H:Hp} {E:XK}
end
section
variable {X:Cx} {x:Str} {p pos epos:Pos} {e:Expr} {es:List Expr} {t:TA} {k:Nat} {ps:List Str} {sp:Sp}
end
end L2
end
section
namespace L2
open PySem PySem.Spec PyProof.Rows PySem.W
abbrev Cx.held (X:Cx) (x:Addr):Cx:={ X with A:=X.A.mark (some (.ref x)),calm:=false,xe:=fun _ _=>False }
section
variable {X:Cx} {pins:List (Addr×Obj)} {σ:St} {H H':Hp} {s s':Shared}
theorem Cx.Ok.held {x:Addr} (ok:X.Ok):(X.held x).Ok:=
 ⟨ok.mod,ok.kind,ok.glob,ok.blt,ok.above,ok.inj,ok.has,ok.cab,fun z=>Bool.noConfusion z,ok.frames,ok.stk,ok.exf,ok.bs,ok.bsz,ok.noex,ok.exfs,ok.funs,ok.frf⟩
theorem Inv.held {x:Addr} (I:Inv X pins σ H s):Inv (X.held x) pins σ H s:=⟨I.ok.held,I.os,I.bare,I.base,I.loc,I.cell,I.free,I.freeC,I.pin,I.hok,I.len⟩
theorem Inv.unheld {x:Addr} (ok:X.Ok) (I:Inv (X.held x) pins σ H s):Inv X pins σ H s:=⟨ok,I.os,I.bare,I.base,I.loc,I.cell,I.free,I.freeC,I.pin,I.hok,I.len⟩
theorem name_goes {M:Model} {A:Around} {E:Value->Shared->Prop} {i:Nat} {x:Str} {pos:Pos} {Q:Unit->Shared->Prop} (I:Inv X pins σ H s) (hN:X.N.Nodup) (hi:X.N[i]? = some x) (hk:X.env.scope.names.lookup x=some .local)
  (h:∀ s',Inv X pins (σ.set i none) H s'->Q () s'):wpAny M A (do bindName X.env x .none;unbindBehindTheSuite X.env x pos) Q E s:=by
 obtain ⟨m,hn,hl⟩:=id I.loc
 have hcls:(X.env.scope.kind == .class || (X.env.scope.kind == .module && X.env.locals != X.env.globals))=false:=by rw [I.ok.kind];rfl
 have cne:=I.cne
 refine wpAny_nameGoes_keeps hk hn hcls fun h' v hn' hs=>?_
 obtain ⟨oL,_,_,hoL,_⟩:=id hn
 refine h _ ⟨I.ok,I.os,I.bare,⟨fun b o e n hb hx=>?_,fun b o e n hb hx=>?_,I.base.free,fun b o e hx=>?_,I.base.tups,I.base.frzs,I.base.tbls⟩,⟨_,hn',fun j y v' e1 e2 e3=>?_⟩,fun y c e=>?_,I.free,I.freeC,fun p hp=>?_,fun b ob e=>?_,by simpa using I.len⟩
 ·exact (hs.2 b (Nat.ne_of_lt (Nat.lt_of_lt_of_le (Heap.lt_size e) I.ok.above))).trans (I.base.keep b o e n hb hx)
 ·obtain ⟨sl,e1⟩:=I.base.slot b o e n hb hx
  exact ⟨sl,(hs.2 b (Nat.ne_of_lt (Nat.lt_of_lt_of_le (Heap.lt_size e) I.ok.above))).trans e1⟩
 ·obtain ⟨o',e1⟩:=I.base.there b o e hx
  exact ⟨o',(hs.2 b (Nat.ne_of_lt (Nat.lt_of_lt_of_le (Heap.lt_size e) I.ok.above))).trans e1⟩
 ·by_cases hj:j=i
  ·subst hj
   have hiσ:j < σ.length:=by rw [I.len];exact (List.getElem?_eq_some_iff.mp hi).1
   rw [List.getElem?_set_self hiσ] at e2
   cases e2
  ·rw [List.getElem?_set_ne (Ne.symm hj)] at e2
   obtain ⟨u',r',q⟩:=hl j y v' e1 e2 e3
   refine ⟨u',r',?_⟩
   rcases q with ⟨k,e⟩ | ⟨k,c,e,z⟩
   ·refine .inl ⟨k,?_⟩
    have:y≠x:=fun e=>hj (nodup_ix hN e1 (e ▸ hi))
    simp [this,e]
   ·exact .inr ⟨k,c,e,z.sameBut hs (cne y c e)⟩
 ·obtain ⟨w',z⟩:=I.cell y c e
  exact ⟨w',z.sameBut hs (cne y c e)⟩
 ·obtain ⟨e,n,ne,nf,d⟩:=I.pin p hp
  exact ⟨(hs.2 p.1 ne).trans e,n,ne,nf,d⟩
 ·refine (I.hok b ob e).stay (fun c w' hc q=>(hs.2 c ?_).trans q) (fun _ q=>q) fun _ _ q=>q
  rintro rfl
  rcases hc with rfl | hc
  ·rw [I.free] at e;cases e
  ·rw [I.free] at hc;cases hc
end
section
variable {X:Cx} {np hpos pos:Pos} {body suite:List Stmt} {b₀:Stmt} {tb:XK->TS} {ts:TS}
end
end L2
end
section
namespace PySem.W
open PySem PySem.Spec PySem.Calls PyProof.Rows Builtin Builtin.ObjectAttr Builtin.Getset_descriptor
section
variable {prog:Program} {w:World} {A:Around} {E:Value->Shared->Prop} {s:Shared} {K:Frag} {x C:Addr}
structure ExCls (K:Frag) (C:Addr):Prop where
 ga:findIn K (.ref C) "__getattribute__" = some (some (.builtin "BaseException.__getattribute__"))
 gh:findIn K (.ref C) "__getattr__" = some none
 be:mroIn K C (.type "BaseException")=some true
 cls:(clsIn K C).isSome=true
 at_:findIn K (.ref C) "__class__" = some (some (.builtin "object.__class__"))
 sp:specialIn K (.builtin "object.__class__") "__get__" = some (some (.builtin "getset_descriptor.__get__"))
 tk:takesIn K (.builtin "object.__class__")=some true
 ob:mroIn K C (.type "object")=some true
theorem exc_find {M:Model} {h:Heap} (Z:ExCls K C) (X:K.In h):Looks M h (find (.ref x) (.ref C) "__class__") (.bind (.builtin "getset_descriptor.__get__") (.builtin "object.__class__")):=
 (looks_findIn X Z.at_).andThen (Looks.andThen (looks_specialIn X Z.sp) (Looks.andThen (a:=some (Value.builtin "getset_descriptor.__get__",Value.builtin "object.__class__")) ((looks_takesIn X Z.tk).andThen .now) (Looks.tag .now)))
theorem exc_attr {Q:Option Value->Shared->Prop} (Z:ExCls K C) (X:K.In s.heap) (T:∀ M,Looks M s.heap (typeOf (.ref x)) (.ref C)) (q:Q (some (.ref C)) { s with toks:=s.toks+1 }):wpAny (model prog w) A (getAttr? (.ref x) "__class__") Q E s:=by
 obtain ⟨hh,gg,dd,tt,oo⟩:=s
 have t0:=T (model prog w)
 have t1:=looks_findIn (M:=model prog w) X Z.ga
 have t2:=exc_find (M:=model prog w) (x:=x) Z X
 have t3:=looks_findIn (M:=model prog w) X Z.gh
 have t4:=looks_mroIn (M:=model prog w) X Z.ob
 have t5:=looks_mroIn (M:=model prog w) X Z.be
 have hx2:(onTheHeap (Value.ref C) && Value.builtin "BaseException.__getattribute__" == Value.builtin "object.__getattribute__")=false:=by
  have:(Value.builtin "BaseException.__getattribute__" == Value.builtin "object.__getattribute__")=false:=by decide +kernel
  rw [this,Bool.and_false]
 have hk:builtinKind "BaseException.__getattribute__" = some .slot:=by decide +kernel
 have hsplit:splitId "BaseException.__getattribute__" = some ("BaseException","__getattribute__"):=by decide +kernel
 unfold getAttr? getAttrBy? getAttrBy
 refine wpAny_bind (wpAny_mkText (wpAny_bind (wpAny_attempt (wpAny_holding (wpAny_bind (t0.at (wpAny_bind (t1.at ?_))))))))
 show wpAny _ _ (if (onTheHeap (Value.ref C) && Value.builtin "BaseException.__getattribute__" == Value.builtin "object.__getattribute__")=true then _ else getAttrByItsOwn _ _ _ _ _ _) _ _ _
 rw [hx2,if_neg (by decide)]
 unfold getAttrByItsOwn
 refine wpAny_bind ?_
 show wpAny _ _ (typeLookup (.ref C) "__getattr__") _ _ _
 refine t3.at (wpAny_bind (wpAny_attempt (wpAny_holding ?_)))
 show wpAny _ _ (boundAndCalled _ _ _) _ _ _
 unfold boundAndCalled
 rw [F.excAttr_ValueError.ga.bind (.ref x)]
 refine wpAny_bind (wpAny_pure ?_)
 show wpAny _ _ (call (.builtin "BaseException.__getattribute__") [.ref x,_]) _ _ _
 refine wpAny_call (codeAny_call_builtin F.excAttr_ValueError.ga.plain F.entry_bexc_ga ?_)
 have ha:=F.args_bexc_ga (.ref x) (.str "__class__" tt)
 simp only [checkBuiltinCall,hk,hsplit]
 unfold isInstance
 repeat ((fail_if_success with_reducible refine wpAny_call ?_);lk)
 refine wpAny_call ?_
 refine codeAny_call_builtin KF.slot_gs.plain KF.entry_gs (KF.slot_gs.check _ _ _ _ _ _ _ _ KF.type_class (KF.args_gs _ _ _) ?_)
 unfold Builtin.«getset_descriptor.__get__» descrGet
 rw [dga_obj]
 refine wpAny_bind (wpAny_pure ?_)
 unfold descrGetter descrCheckInstance descrNameAndClass isInstance
 simp only [KF.owner_class]
 repeat lk
 refine ⟨Code.quiet_builtin _ (by decide +kernel),codeAny_builtin KF.entry_class ?_⟩
 unfold Builtin.«object.__class__» shownTypeOf
 repeat lk
 exact q
theorem kitx_exc (Z:ExCls K C):KitX K (.ref x) (.ref C) (fun h=>∃ o,h.get? x=some o/\o.cls = .ref C) where
 ty:=fun M h _ p=>by
  obtain ⟨o,e,c⟩:=p
  exact c ▸ (Looks.ld e).andThen .now
 it:=fun _ _ X _=>by
  obtain ⟨cd,hc⟩:=Option.isSome_iff_exists.mp Z.cls
  unfold clsIn at hc
  split at hc
  ·rename_i ho
   intro A' Q' E' s' k q
   unfold isType loadHead
   exact wpAny_bind (wpAny_loadPart (k _ _ (X _ _ ho)) (wpAny_pure q))
  ·cases hc
 ne:=fun h tp dd its n sl X htp=>by
  refine Bool.eq_false_iff.mpr fun q=>?_
  obtain rfl:C=tp:=Value.ref.inj (beq_iff_eq.mp q)
  obtain ⟨cd,hc⟩:=Option.isSome_iff_exists.mp Z.cls
  unfold clsIn at hc
  split at hc
  ·rename_i ho
   have z:=(X _ _ ho).symm.trans htp
   cases z
  ·cases hc
 ca:=fun X p k=>exc_attr Z X (fun M=>by obtain ⟨o,e,c⟩:=p;exact c ▸ (Looks.ld e).andThen .now) k
end
end PySem.W
namespace L2
open PySem PySem.Spec PyProof.Rows PySem.W
section
variable {X:Cx} {p pos:Pos} {e:Expr} {es:List Expr} {t:TA}
theorem e_clsX (x:Str) {a:Addr} {mg':Str->Option Value} (hm:mg' x=some (.ref a)) (hX:X.mg=mg') (hg:gB X x=true:=by kernel_rfl) (hd:(x == ("__debug__" : Str))=false:=by kernel_rfl):PE X (.Name x pos) (tC (.ref a)):=
 pe_glob (gl_of hg) (by rw [hX];exact hm) rfl hd
theorem e_tyVE {mg':Str->Option Value} (hm:mg' "ValueError" = none) (hX:X.mg=mg') (hg:gB X "ValueError" = true:=by kernel_rfl):PE X (.Name "ValueError" pos) (tC (.ty "ValueError")):=
 pe_bltn (gl_of hg) (by rw [hX];exact hm) (u:=.type "ValueError") (by first | rfl | kernel_rfl | exact PyProof.Rows.Boot.«ValueError») rfl
end
end L2
end
section
namespace L2
open PySem PySem.Spec PyProof.Rows PySem.W
def ExcD (a:Addr) (c:Value) (dd:Option Addr):HO:=.ext fun h=>∃ o,h.get? a=some o/\o.cls=c/\o.dict=dd/\∃ vs,o.data = .fields vs
theorem ExcD.mk {P:Program} {w:World} {H:Hp} {h:Heap} {a:Addr} {c:Value} {dd:Option Addr} {o:Obj} {vs:Array Value} (e:h.get? a=some o) (hc:o.cls=c) (hd:o.dict=dd) (hv:o.data = .fields vs):ObjOk P w H h a (ExcD a c dd):=
 ⟨⟨o,e,hc,hd,vs,hv⟩,⟨o,e⟩,fun h1 h2 ⟨o1,e1,c1⟩ k=>⟨o1,k o1 e1,c1⟩⟩
def CX2 (P:Program) (w:World):CXT:=fun outer H s E e s'=>∃ (x:Addr) (c a0:Value) (dd:Option Addr) (B:Heap) (H':Hp),e = .ref x/\s'.os=s.os/\AllBare s'.gens/\Un (frs outer) [] H H' s.heap s'.heap/\HOk P w H' s'.heap/\FlyD B outer x c a0 dd s'.heap ∧
 (∀ b o,s.heap.get? b=some o->H b=none->b ∉ frs outer->B.get? b=some o)/\(∀ b o,s.heap.get? b=some o->b ∉ frs outer->∃ o',B.get? b=some o')/\(∀ b u,H' b=some u->∀ o,s'.heap.get? b=some o->B.get? b=some o)/\E c dd H'
section
variable {P:Program} {w:World} {K:PySem.W.Frag} {mg:Str->Option Value} {base:Heap} {N:List Str} {qual:Str} {scope:Scope} {f:Addr} {cd:Value} {A:Around} {outer:List Env} {s:Shared} {H:Hp} {E:XK}
def ExcN (x C:Addr) (dd:Option Addr):HO:=.ext fun h=>∃ (ta:Addr) (sl:Array (Option Value)),h.get? x=some { cls:=.ref C,dict:=dd,data:=.fields #[.ref ta,.none,.none,.none,.bool false,.none],slots:=sl }
theorem ExcN.mk {P:Program} {w:World} {H:Hp} {h:Heap} {x C:Addr} {dd:Option Addr} {ta:Addr} {sl:Array (Option Value)} (e:h.get? x=some { cls:=.ref C,dict:=dd,data:=.fields #[.ref ta,.none,.none,.none,.bool false,.none],slots:=sl }):ObjOk P w H h x (ExcN x C dd):=
 ⟨⟨ta,sl,e⟩,⟨_,e⟩,fun h1 h2 ⟨t1,s1,e1⟩ k=>⟨t1,s1,k _ e1⟩⟩
theorem esc3 {pins:List (Addr×Obj)} {σ:St} {H3:Hp} {s3:Shared} {x C:Addr} {dd:Option Addr} (I:Inv (cxOf (CX2 P w) P w K mg base N qual scope f cd A outer s H E) pins σ H3 s3) (hx:H3 x=some (ExcN x C dd)) (nx:∀ b o,s.heap.get? b=some o->b≠x)
  (q:E (.ref C) dd (fun b=>if b=x then none else H3 b)):(cxOf (CX2 P w) P w K mg base N qual scope f cd A outer s H E).xe (.ref x) s3:=by
 obtain ⟨⟨ta,sl,gx⟩,_⟩:=I.hok x _ hx
 have fr:s3.heap.FunFrames base (envOfC qual scope s.heap.objs.size f cd :: outer):=I.stack
 have free:∀ b∈frs (envOfC qual scope s.heap.objs.size f cd :: outer),H3 b=none:=I.stkFree
 have un:Un (frs outer) [] H H3 s.heap s3.heap:=I.base
 have notL:∀ b o,s.heap.get? b=some o->b ∉ frs outer->b ∉ frs (envOfC qual scope s.heap.objs.size f cd :: outer):=fun b o e n hm=>by
  have hm':b∈s.heap.objs.size :: frs outer:=hm
  rcases List.mem_cons.mp hm' with z | z
  ·exact absurd (Heap.lt_size e) (by rw [z];exact Nat.lt_irrefl _)
  ·exact n z
 have wo:∀ b u,H3 b=some u->b≠x->(fun b=>if b=x then none else H3 b) b=some u:=fun b u e n=>by
  show (if b=x then none else H3 b)=some u
  rw [if_neg n];exact e
 have wo':∀ b u,(fun b=>if b=x then none else H3 b) b=some u->b≠x/\H3 b=some u:=fun b u e=>by
  have e:(if b=x then none else H3 b)=some u:=e
  by_cases z:b=x
  ·rw [if_pos z] at e;cases e
  ·rw [if_neg z] at e;exact ⟨z,e⟩
 have hid:∀ b o,s3.heap.get? b=some o->b≠x->b ∉ frs (envOfC qual scope s.heap.objs.size f cd :: outer)->(hideAll s3.heap (x :: frs (envOfC qual scope s.heap.objs.size f cd :: outer))).get? b=some o:=fun b o e n m=>hideAll_get _ e fun z=>(List.mem_cons.mp z).elim n m
 refine leave_new (base:=hideAll s3.heap (x :: frs (envOfC qual scope s.heap.objs.size f cd :: outer))) (L:=s.heap.objs.size) I.ok.frames (funFrames_hide fr fun env he b hb=>List.mem_cons_of_mem _ (List.mem_filterMap.mpr ⟨env,he,hb⟩)) rfl gx (fun b o z=>of_hideAll _ z) (hideAll_none _ (List.mem_cons_self ..)) rfl rfl rfl fun h3 fl up=>?_
 have stay:∀ b o,s3.heap.get? b=some o->b≠x->b ∉ frs (envOfC qual scope s.heap.objs.size f cd :: outer)->h3.get? b=some o:=fun b o e n m=>fl.1 b o (hid b o e n m)
 have trk:∀ b u,H3 b=some u->b ∉ frs (envOfC qual scope s.heap.objs.size f cd :: outer):=fun b u e hm=>by rw [free b hm] at e;cases e
 refine ⟨x,_,_,_,_,(fun b=>if b=x then none else H3 b),rfl,I.os,I.bare,⟨fun b o e n nf _=>?_,fun b o e n hf _=>?_,fun b o e n hb=>?_,fun b o e hb=>?_,fun b xs e=>?_,fun b o u e=>?_,fun b ps e=>?_⟩,fun b u e=>?_,fl,fun b o e n nf=>?_,fun b o e nf=>?_,fun b u e o ho=>?_,q⟩
 ·exact stay b o (un.keep b o e n nf (by simp)) (nx b o e) (notL b o e nf)
 ·obtain ⟨sl,e1⟩:=un.slot b o e n hf (by simp)
  have hm:b∈frs (envOfC qual scope s.heap.objs.size f cd :: outer):=List.mem_cons_of_mem _ hf
  obtain ⟨_,o',ho',nd⟩:=fr.mem hm
  rw [e1] at ho'
  cases ho'
  obtain ⟨sl2,e2⟩:=up b _ e1 nd
  exact ⟨sl2,e2⟩
 ·show (if b=x then none else H3 b)=none
  rw [un.free b o e n hb]
  split<;>rfl
 ·obtain ⟨o',e1⟩:=un.there b o e hb
  by_cases hm:b∈frs (envOfC qual scope s.heap.objs.size f cd :: outer)
  ·obtain ⟨_,o2,ho2,nd⟩:=fr.mem hm
   obtain ⟨sl2,e2⟩:=up b _ ho2 nd
   exact ⟨_,e2⟩
  ·exact ⟨o',stay b o' e1 (nx b o e) hm⟩
 ·have e':=un.tups b xs e
  exact wo b _ e' fun z=>by rw [z,hx] at e';cases e'
 ·have e':=un.frzs b o u e
  exact wo b _ e' fun z=>by rw [z,hx] at e';cases e'
 ·obtain ⟨m,e'⟩:=un.tbls b ps e
  exact ⟨m,wo b _ e' fun z=>by rw [z,hx] at e';cases e'⟩
 ·obtain ⟨nb,e⟩:=wo' b u e
  refine (I.hok b u e).stay (fun b' u' hb' e'=>?_) (fun b' z=>?_) fun b' xs z=>?_
  ·rcases hb' with rfl | z
   ·exact stay _ u' e' nb (trk _ _ e)
   ·exact stay _ u' e' (fun y=>by rw [y,hx] at z;cases z) (trk _ _ z)
  ·exact wo _ _ z fun y=>by rw [y,hx] at z;cases z
  ·exact wo _ _ z fun y=>by rw [y,hx] at z;cases z
 ·exact hid b o (un.keep b o e n nf (by simp)) (nx b o e) (notL b o e nf)
 ·obtain ⟨o',e1⟩:=un.there b o e (by simp)
  exact ⟨o',hid b o' e1 (nx b o e) (notL b o e nf)⟩
 ·obtain ⟨nb,e⟩:=wo' b u e
  obtain ⟨o1,e1⟩:=I.hok.has e
  have:=stay b o1 e1 nb (trk b u e)
  rw [ho] at this
  cases this
  exact hid b o e1 nb (trk b u e)
theorem pass2 {E':XK} (hE:∀ c dd H',E' c dd H'->E c dd H'):Passes (CX2 P w) (cxOf (CX2 P w) P w K mg base N qual scope f cd A outer s H E) E':=by
 rintro pins σ H1 s1 e s' I ⟨x,c,a0,dd,B,H',rfl,os,bare,un,ok',fl,k1,k3,k2,q⟩
 refine leave_on (L:=s.heap.objs.size) I.ok.frames rfl fl fun h3 fl3 up=>?_
 obtain ⟨f1,f2,f3,f4⟩:=id fl
 have nofr:x ∉ frs (envOfC qual scope s.heap.objs.size f cd :: outer):=fun hm=>by
  obtain ⟨_,o,ho,nd⟩:=f3.mem hm
  obtain ⟨oe,vs,_,_,_,he,_,_,_,hd,_⟩:=f4
  rw [he] at ho
  cases ho
  exact nd vs hd
 have unA:Un (frs outer) [] H H1 s.heap s1.heap:=I.base
 have unB:Un (frs (envOfC qual scope s.heap.objs.size f cd :: outer)) [] H1 H' s1.heap s'.heap:=un
 have notL:∀ b o,s.heap.get? b=some o->b ∉ frs outer->b ∉ frs (envOfC qual scope s.heap.objs.size f cd :: outer):=fun b o e n hm=>by
  have hm':b∈s.heap.objs.size :: frs outer:=hm
  rcases List.mem_cons.mp hm' with z | z
  ·exact absurd (Heap.lt_size e) (by rw [z];exact Nat.lt_irrefl _)
  ·exact n z
 have freeS:∀ b∈frs (envOfC qual scope s.heap.objs.size f cd :: outer),H1 b=none:=I.stkFree
 have inB:∀ b o,s.heap.get? b=some o->H b=none->b ∉ frs outer->B.get? b=some o:=fun b o e n nf=>k1 b o (unA.keep b o e n nf (by simp)) (unA.free b o e n (by simp)) (notL b o e nf)
 have inB3:∀ b o,s.heap.get? b=some o->b ∉ frs outer->∃ o',B.get? b=some o':=fun b o e nf=>by
  obtain ⟨o',e1⟩:=unA.there b o e (by simp)
  exact k3 b o' e1 (notL b o e nf)
 refine ⟨x,c,a0,dd,B,H',rfl,os.trans I.os,bare,⟨fun b o e n nf _=>fl3.1 b o (inB b o e n nf),fun b o e n hf _=>?_,fun b o e n hb=>?_,fun b o e hb=>?_,fun b xs e=>unB.tups b xs (unA.tups b xs e),fun b o u e=>unB.frzs b o u (unA.frzs b o u e),fun b ps e=>?_⟩,fun b u e=>?_,fl3,inB,inB3,fun b u e o ho=>?_,hE _ _ _ q⟩
 ·have hm:b∈frs (envOfC qual scope s.heap.objs.size f cd :: outer):=List.mem_cons_of_mem _ hf
  obtain ⟨sl,e1⟩:=unA.slot b o e n hf (by simp)
  obtain ⟨sl2,e2⟩:=unB.slot b _ e1 (freeS b hm) hm (by simp)
  obtain ⟨_,o',ho',nd⟩:=f3.mem hm
  rw [e2] at ho'
  cases ho'
  obtain ⟨sl3,e3⟩:=up b _ e2 nd
  exact ⟨sl3,e3⟩
 ·obtain ⟨o',e1⟩:=unA.there b o e hb
  exact unB.free b o' e1 (unA.free b o e n hb) (by simp)
 ·by_cases hm:b∈frs (envOfC qual scope s.heap.objs.size f cd :: outer)
  ·obtain ⟨_,o2,ho2,nd⟩:=f3.mem hm
   obtain ⟨sl2,e2⟩:=up b _ ho2 nd
   exact ⟨_,e2⟩
  ·obtain ⟨o',q'⟩:=inB3 b o e fun z=>hm (List.mem_cons_of_mem _ z)
   exact ⟨o',fl3.1 b o' q'⟩
 ·obtain ⟨m1,e1⟩:=unA.tbls b ps e
  obtain ⟨m2,e2⟩:=unB.tbls b _ e1
  exact ⟨m1++m2,by rw [e2,Array.append_assoc]⟩
 ·refine (ok' b u e).stay (fun b' u' hb' e'=>?_) (fun _ z=>z) fun _ _ z=>z
  rcases hb' with rfl | z
  ·exact fl3.1 _ u' (k2 _ _ e u' e')
  ·exact fl3.1 _ u' (k2 _ _ z u' e')
 ·obtain ⟨o1,e1⟩:=ok'.has e
  have b1:=k2 b u e o1 e1
  have:=fl3.1 b o1 b1
  rw [ho] at this
  cases this
  exact b1
end
end L2
end
section
namespace L2
open PySem PySem.Spec PyProof.Rows PySem.W
def ExnI (K:PySem.W.Frag) (C fI:Addr):Prop:=∃ (nm q:Str) (N B:Addr) (bs:List Value) (sn:List Str) (sub:List Value) (ab:Bool) (col:Option Bool) (dd:Option Addr) (k0 k1 k2 k3 k5:Option Value) (mN:Str->Option Value) (oI:Obj),mN "__init__" = some (.ref fI)/\oI.cls = .type "function" ∧
 ∀ h:Heap,K.In h->h.get? C=some (excClassObj nm q C N bs (.ref B :: PySem.W.veM) true sn sub ab col dd k0 k1 k2 k3 k5 "ValueError.__new__")/\h.Ns N mN/\OwnTail h PySem.W.veM (.ref B :: PySem.W.veM)/\h.get? fI=some oI
def spInit (C:Addr):Sp:=fun vs H Q _=>match vs with
 | [.ref x,.int n]=>(0<=n/\n < 2048)/\H x=some (ExcN x C none)/\∀ d,H d=none->d≠x->Q .non (upd (upd H x (ExcN x C (some d))) d (.xd [("at",.int n)]))
 | _=>False
section
variable {X:Cx} {pins:List (Addr×Obj)} {σ:St} {H:Hp} {s:Shared} {C fI:Addr} {fd:FuncData} {k:Nat}
theorem run_makeX {n:Int} {u:Value} {Q:Value->Shared->Prop} (Z:ExnI X.K C fI) (F:FnOk X.prog X.w X.K X.mg X.base CX0 k fI fd ["self","at"] (spInit C)) (hr:Room (k+1) X.A) (hb:Binds X.K fd ["self","at"] []) (I:Inv X pins σ H s) (ru:RelV (.int n) u) (hn:0<=n/\n < 2048)
  (q:∀ x d s',Inv X pins σ (upd (upd H x (ExcN x C (some d))) d (.xd [("at",.int n)])) s'->s.heap.get? x=none->H x=none->H d=none->d≠x->Q (.ref x) s'):wpAny (model X.prog X.w) X.A (call (.ref C) [u]) Q X.xe s:=by
 obtain ⟨nm,q',N,B,bs,sn,sub,ab,col,dd,k0,k1,k2,k3,k5,mN,oI,hi,cI,hK⟩:=Z
 obtain ⟨hC,hN,hT,gI⟩:=hK s.heap I.kIn
 obtain ⟨hp,gg,dr,tk,os⟩:=s
 refine call_own hT hC hN hi gI cI (fun h' e hm le=>?_) (by show 1<=sizeLine;decide)
 obtain ⟨ta,ge,_,_⟩:=hm.there
 have nH:H e=none:=I.hok.fresh le
 have I2:Inv X pins σ (upd H e (ExcN e C none)) ⟨h',gg,dr,tk,os⟩:=I.laid (a:=e) (o:=ExcN e C none) (t':=tk) hm.keeps le (ExcN.mk ge)
 have r2:Vals [V.ref e,V.int n] [Value.ref e,u]:=.cons rfl (.cons ru .nil)
 have sp:spInit C [V.ref e,V.int n] (upd H e (ExcN e C none)) (fun v H3=>v = .non/\∃ d,H d=none/\d≠e/\H3=upd (upd H e (ExcN e C (some d))) d (.xd [("at",.int n)])) E0:=⟨hn,upd_same,fun d hd ne=>⟨rfl,d,by rw [upd_ne ne] at hd;exact hd,ne,by rw [upd_upd]⟩⟩
 refine wpAny_call (codeAny_mono (F.run _ X.stack _ _ ⟨[Value.ref e,u],[]⟩ [Value.ref e,u] _ _ E0 (hr.make C [u] []) (I2.env0.make C [u] []) (hb _ [Value.ref e,u] I2.kIn rfl) r2 sp) fun r s' hq'=>?_)
 cases r with
 | error z=>exact False.elim hq'
 | ok fl=>
  cases fl with
  | ret v=>
   obtain ⟨v',H',I3,rv,ev,d,hd,ne,eH⟩:=I2.after hq'
   subst ev
   subst eH
   exact ⟨rv,q e d s' I3 hm.new nH hd ne⟩
  | next=>exact False.elim hq'
  | brk=>exact False.elim hq'
  | cont=>exact False.elim hq'
end
def tRaiseW (E:XK) (C:Addr) (t:TA):TS:=fun _ σ H=>t σ H fun vs H1=>∃ n:Int,vs=[.int n]/\(0<=n/\n < 2048)/\∀ d,H1 d=none->E (.ref C) (some d) (upd H1 d (.xd [("at",.int n)]))
section
variable {P:Program} {w:World} {K:PySem.W.Frag} {mg:Str->Option Value} {base:Heap} {N:List Str} {qual:Str} {scope:Scope} {f:Addr} {cd:Value} {A:Around} {outer:List Env} {s:Shared} {H:Hp} {E:XK}
theorem s_raiseW {x:Str} {C fI:Addr} {fd:FuncData} {k:Nat} {np cpos pos:Pos} {e:Expr} {t:TA} (Z:ExnI K C fI) (F:FnOk P w K mg base CX0 k fI fd ["self","at"] (spInit C)) (hb:Binds K fd ["self","at"] []) (hm:mg x=some (.ref C)) (hk:PySem.W.keepIn K (.ref C)=true)
  (hr:Room (k+1) (cxOf (CX2 P w) P w K mg base N qual scope f cd A outer s H E).A) (ha:PA (cxOf (CX2 P w) P w K mg base N qual scope f cd A outer s H E) [e] t)
  (hg:gB (cxOf (CX2 P w) P w K mg base N qual scope f cd A outer s H E) x=true:=by kernel_rfl) (hdb:(x == ("__debug__" : Str))=false:=by kernel_rfl)
  (he:starEach [e] (cxOf (CX2 P w) P w K mg base N qual scope f cd A outer s H E).env=(false,eval e (cxOf (CX2 P w) P w K mg base N qual scope f cd A outer s H E).env) :: starEach [] (cxOf (CX2 P w) P w K mg base N qual scope f cd A outer s H E).env:=by kernel_rfl)
  (hpl:(backTo cpos (starEach [] (cxOf (CX2 P w) P w K mg base N qual scope f cd A outer s H E).env)).any (·.1)=false:=by kernel_rfl) :
  PS (cxOf (CX2 P w) P w K mg base N qual scope f cd A outer s H E) (.Raise (some (.Call (.Name x np) [e] [] cpos)) none pos) (tRaiseW E C t):=by
 intro pins s1 σ H1 D I h
 obtain ⟨nm,q',Nn,B,bs,sn,sub,ab,col,dd,k0,k1,k2,k3,k5,mN,oI,hi,cI,hK⟩:=id Z
 rw [arm_exec_Raise]
 refine wpAny_bind (wpAny_standAt ?_)
 refine raise_made (C:=C) (nm:=nm) (q:=q') (N:=Nn) (B:=B) (bs:=bs) (sn:=sn) (sub:=sub) (ab:=ab) (col:=col) (dd:=dd) (k0:=k0) (k1:=k1) (k2:=k2) (k3:=k3) (k5:=k5) (I.ok.hd rfl) (wpAny_bind ?_)
 refine wpAny_Call_Name_kw (ld_glob I (gl_of hg) hm ?_ hdb)
 refine PySem.W.callWith_K (h₀:=base) I.ok.mod.kin hk (thn (ha cpos pins s1 σ H1 _ I h) fun us s2 z=>?_) he hpl
 obtain ⟨vs,H2,I2,r,n,rfl,hn,q⟩:=z
 refine ⟨I2.kIn,?_⟩
 obtain ⟨u,rfl,ru⟩:=vals1 r
 refine run_makeX Z F hr hb I2 ru hn fun y d s3 I3 ny Hy Hd ne=>wpAny_bind (wpAny_standAt (wpAny_pure ?_))
 have hy:upd (upd H2 y (ExcN y C (some d))) d (.xd [("at",.int n)]) y=some (ExcN y C (some d)):=by rw [upd_ne (Ne.symm ne),upd_same]
 obtain ⟨⟨ta,sl,gy⟩,_⟩:=I3.hok y _ hy
 refine ⟨y,ta,some d,sl,rfl,(hK s3.heap I3.kIn).1,gy,esc3 I3 hy (fun b o eb z=>?_) ?_⟩
 ·have un:Un (frs outer) [] H H2 s.heap s2.heap:=I2.base
  obtain ⟨o',e'⟩:=un.there b o eb (by simp)
  rw [z,ny] at e'
  cases e'
 ·have eH:(fun b=>if b=y then none else upd (upd H2 y (ExcN y C (some d))) d (.xd [("at",.int n)]) b)=upd H2 d (.xd [("at",.int n)]):=by
   funext b
   by_cases z:b=y
   ·rw [if_pos z,z,upd_ne (Ne.symm ne),Hy]
   ·rw [if_neg z]
    by_cases z2:b=d
    ·rw [z2,upd_same,upd_same]
    ·rw [upd_ne z2,upd_ne z2,upd_ne z]
  rw [eH]
  exact q d Hd
end
end L2
end
section
namespace L2
open PySem PySem.Spec PyProof.Rows PySem.W
structure ExnB (K:PySem.W.Frag) (B:Addr):Prop where
 ga:PySem.W.specialIn K (.ref B) "__getattribute__" = some (some (.builtin "type.__getattribute__"))
 rd:PySem.W.readsIn K B (.type "type")=true
 fc:PySem.W.findCls K (.ref B) (.type "type") "__init__" = some (.val (.builtin "ValueError.__init__"))
structure ExnS (K:PySem.W.Frag) (C:Addr):Prop where
 sa:PySem.W.findIn K (.ref C) "__setattr__" = some (some (.builtin "object.__setattr__"))
 na:PySem.W.findIn K (.ref C) "at" = some none
section
variable {X:Cx} {p pos apos epos:Pos} {b:Str} {B C fI:Addr} {e:Expr} {es:List Expr} {t:TA} {mg':Str->Option Value}
def tInit1 (C:Addr) (t:TA):TE:=fun σ H Q=>t σ H fun vs H1=>∃ x z,vs=[.ref x,.str z]/\H1 x=some (ExcN x C none)/\Q .non H1
theorem upd_self {H:Hp} {x:Addr} {o:HO} (h:H x=some o):upd H x o=H:=by
 funext b
 by_cases z:b=x
 ·rw [z,upd_same,h]
 ·rw [upd_ne z]
theorem e_init1 {pl:Sem Bool} (Z:ExnI X.K C fI) (W:ExnB X.K B) (hm:mg' b=some (.ref B)) (hX:X.mg=mg') (ha:PA X (e :: es) t)
  (hg:gB X b=true:=by kernel_rfl) (hdb:(b == ("__debug__" : Str))=false:=by kernel_rfl) (hst:starEach (e :: es) X.env=(false,eval e X.env) :: starEach es X.env:=by kernel_rfl) (hpl:(backTo pos (starEach es X.env)).any (·.1)=false:=by kernel_rfl)
  (ht:eval (.Call (.Attribute (.Name b p) "__init__" apos) (e :: es) [] pos) X.env=(do
   let ov <-eval (.Name b p) X.env
   standAt apos.atName
   let (f,first) <-holding [ov] (getMethod ov "__init__" pl)
   callWith pos f first (backTo pos (starEach (e :: es) X.env)) (backToKw pos (keywordEach [] X.env))):=by rfl) :
  PE X (.Call (.Attribute (.Name b p) "__init__" apos) (e :: es) [] pos) (tInit1 C t):=by
 obtain ⟨nm,q',Nn,B',bs,sn,sub,ab,col,dd,k0,k1,k2,k3,k5,mN,oI,hi,cI,hK⟩:=Z
 intro pins s σ H Q I h
 refine PySem.W.methodCall_KW (pl:=pl) (ld_glob I (gl_of hg) (by rw [hX];exact hm) ?_ hdb) ht
 refine PySem.W.method_cls I.kIn W.ga (PySem.W.cls_value I.kIn W.rd W.fc rfl ?_)
 refine PyProof.Rows.callWith_builtin1 (thn (ha pos pins _ σ H _ (I.tok _) h) fun us s2 z=>?_) hst hpl
 obtain ⟨vs,H1,I1,r,x,z,rfl,hx,q⟩:=z
 obtain ⟨u,v,rfl,r1,r2⟩:=vals2 r
 cases r1
 obtain ⟨⟨ta,sl,gx⟩,_⟩:=I1.hok x _ hx
 obtain ⟨hC,hN,hT,gI⟩:=hK s2.heap I1.kIn
 obtain ⟨hp,gg,dr,tk,os⟩:=s2
 show wpAny _ _ (call (.builtin "ValueError.__init__") [.ref x,v]) _ _ _
 refine init_exc hT hC gx rfl rfl rfl ?_
 have gx2:=Heap.get?_push_of_some { cls:=.type "tuple",data:=.seq #[v] } gx
 have I2:Inv X pins σ H1 ⟨hp.push { cls:=.type "tuple",data:=.seq #[v] },gg,dr,tk,os⟩:=I1.kept fun b o e=>Heap.get?_push_of_some _ e
 have gx3:=Heap.get?_update_self (Obj.mapFields (·.setIfInBounds 0 (.ref hp.objs.size))) gx2 rfl
 have I3:=I2.write (x:=x) (e:=x) (o:=ExcN x C none) (t':=tk) (by rw [hx];exact True.intro) (.inl rfl) (h':=(hp.push { cls:=.type "tuple",data:=.seq #[v] }).update x (Obj.mapFields (·.setIfInBounds 0 (.ref hp.objs.size)))) (fun b o n e=>(Heap.get?_update_other _ _ (Ne.symm n)).trans e) ⟨_,gx3⟩ (ExcN.mk (ta:=hp.objs.size) (sl:=sl) gx3)
 rw [upd_self hx] at I3
 exact ⟨.non,H1,I3,rfl,q⟩
end
section
variable {X:Cx} {pos pos':Pos} {C fI:Addr} {o value:Expr} {ta tv:TE}
def sAt (C:Addr) (ta tv:TE):TS:=fun D σ H=>tv σ H fun y H1=>ta σ H1 fun x H2=>∃ a,x = .ref a/\H2 a=some (ExcN a C none)/\∀ d,H2 d=none->d≠a->D.nx σ (upd (upd H2 a (ExcN a C (some d))) d (.xd [("at",y)]))
theorem s_at (Z:ExnI X.K C fI) (S:ExnS X.K C) (ha:PE X o ta) (hv:PE X value tv) (hs:swapsWith value (some (.Attribute o "at" pos')) pos.line X.env=pure false:=by kernel_rfl):PS X (.Assign [.Attribute o "at" pos'] value pos) (sAt C ta tv):=by
 obtain ⟨nm,q',Nn,B',bs,sn,sub,ab,col,dd,k0,k1,k2,k3,k5,mN,oI,hi,cI,hK⟩:=Z
 intro pins s σ H D I h
 refine plainObj_wpAny_Assign_Attribute (thn (hv pins s σ H _ I h) fun u s1 z=>?_) hs
 obtain ⟨y,H1,I1,ry,q⟩:=z
 refine thn (ha pins s1 σ H1 _ I1 q) fun ov s2 z=>?_
 obtain ⟨x,H2,I2,rx,a,rfl,hx,q2⟩:=z
 cases rx
 obtain ⟨⟨tt,sl,gx⟩,_⟩:=I2.hok a _ hx
 obtain ⟨hC,hN,hT,gI⟩:=hK s2.heap I2.kIn
 have kin:=I2.kIn
 obtain ⟨hp,gg,dr,tk,os⟩:=s2
 refine setAttr_exc kin hC S.sa S.na gx rfl rfl (fun c z=>nomatch z) fun h' d tk' nd ne ns gx' kp=>?_
 have Hd:H2 d=none:=by
  cases e:H2 d with
  | none=>rfl
  | some u'=>
   obtain ⟨o',e'⟩:=I2.hok.has e
   have e':hp.get? d=some o':=e'
   rw [nd] at e'
   cases e'
 have tn:∀ b u',H2 b=some u'->b≠a->upd (upd H2 a (ExcN a C (some d))) d (.xd [("at",y)]) b=some u':=fun b u' e n=>by
  rw [upd_ne (fun z=>by rw [z,Hd] at e;cases e),upd_ne n];exact e
 have un:Un (frs X.stack) [] H2 (upd (upd H2 a (ExcN a C (some d))) d (.xd [("at",y)])) hp h':=by
  have na:∀ b,H2 b=none->b≠a:=fun b n z=>by rw [z,hx] at n;cases n
  refine ⟨fun b o' e n _ _=>kp b o' (na b n) e,fun b o' e n _ _=>⟨o'.slots,kp b o' (na b n) e⟩,fun b o' e n _=>?_,fun b o' e _=>?_,fun b xs e=>?_,fun b o' u' e=>?_,fun b ps e=>?_⟩
  ·rw [upd_ne (fun z=>by rw [z,nd] at e;cases e),upd_ne (na b n)];exact n
  ·by_cases z:b=a
   ·rw [z];exact ⟨_,gx'⟩
   ·exact ⟨o',kp b o' z e⟩
  ·exact tn b _ e fun z=>by rw [z,hx] at e;cases e
  ·exact tn b _ e fun z=>by rw [z,hx] at e;cases e
  ·exact ⟨#[],by rw [Array.append_empty];exact tn b _ e fun z=>by rw [z,hx] at e;cases e⟩
 have ok:HOk X.prog X.w (upd (upd H2 a (ExcN a C (some d))) d (.xd [("at",y)])) h':=fun b u' e=>by
  by_cases z1:b=d
  ·subst z1
   rw [upd_same] at e
   cases e
   refine ⟨_,ns,fun f=>?_⟩
   show RelO (List.lookup f [("at",y)]) (if f=("at" : Str) then some u else none)
   by_cases z:f=("at" : Str)
   ·subst z
    rw [if_pos rfl]
    exact ry
   ·rw [if_neg z,List.lookup_cons,beq_false_of_ne z]
    exact True.intro
  ·rw [upd_ne z1] at e
   by_cases z2:b=a
   ·subst z2
    rw [upd_same] at e
    cases e
    exact ExcN.mk gx'
   ·rw [upd_ne z2] at e
    refine (I2.hok b u' e).stay (fun b' o' hb' e'=>?_) (fun b' z=>tn b' _ z fun y=>by rw [y,hx] at z;cases z) fun b' xs z=>tn b' _ z fun y=>by rw [y,hx] at z;cases z
    rcases hb' with rfl | z
    ·exact kp _ o' z2 e'
    ·exact kp _ o' (fun y=>by rw [y,hx] at z;cases z) e'
 exact ⟨σ,_,I2.call' (s':=⟨h',gg,dr,tk',os⟩) (ch:=[]) rfl un ok I2.bare (fun b z=>absurd z (by simp)),q2 d Hd ne⟩
end
end L2
end
section
namespace L2
open PySem PySem.Spec PyProof.Rows PySem.W
section
variable {X:Cx} {p pos:Pos} {e:Expr} {es:List Expr} {t:TA} {ta:TE}
def tAt (K:PySem.W.Frag) (ta:TE):TE:=fun σ H Q=>ta σ H fun x H1=>∃ a C fI d y,x = .ref a/\ExnI K C fI/\ExnS K C/\PySem.W.ExCls K C/\H1 a=some (ExcD a (.ref C) (some d))/\H1 d=some (.xd [("at",y)])/\Q y H1
theorem e_at (he:PE X e ta) (hb:attributeBase e "at" X.env (eval e X.env)=eval e X.env:=by kernel_rfl):PE X (.Attribute e "at" pos) (tAt X.K ta):=by
 intro pins s σ H Q I h
 refine attr_of hb (thn (he pins s σ H _ I h) fun o s1 z=>?_)
 obtain ⟨x,H1,I1,rx,a,C,fI,d,y,rfl,Z,S,Zc,hx,hd,q⟩:=z
 cases rx
 obtain ⟨nm,q',Nn,B',bs,sn,sub,ab,col,dd,k0,k1,k2,k3,k5,mN,oI,hi,cI,hK⟩:=Z
 obtain ⟨⟨o,gx,hc,hdd,vs,hv⟩,_⟩:=I1.hok a _ hx
 obtain ⟨mA,ns,rel⟩:=I1.hok d _ hd
 obtain ⟨u,hu,ru⟩:=RelO.some_of (v:=y) (o:=mA "at") (by
  have:=rel "at"
  have e1:List.lookup ("at" : Str) [("at",y)]=some y:=by rw [List.lookup_cons];simp
  rw [e1] at this
  exact this)
 obtain ⟨hC,hN,hT,gI⟩:=hK s1.heap I1.kIn
 have kin:=I1.kIn
 have I2:=I1.tok (s1.toks+1)
 obtain ⟨hp,gg,dr,tk,os⟩:=s1
 exact read_exc kin hC Zc.ga Zc.gh Zc.be S.na gx hc (fun c z=>by rw [hv] at z;cases z) hdd ns.ns hu (handed_of ru) ⟨y,H1,I2,ru,q⟩
def rIsY (K:PySem.W.Frag):List V->Hp->VK->Prop:=fun vs H Q=>match vs with
 | [.ref x,.ref D]=>∃ C dd b,PySem.W.ExCls K C/\H x=some (ExcD x (.ref C) dd)/\(PySem.W.kitOne K (.ref C) (.ref D)=some b\/∃ ds:List Addr,H D=some (.tup (ds.map V.ref))/\PySem.W.kitAny K (.ref C) (ds.map Value.ref)=some b)/\Q (.bl b) H
 | [.ref x,.ty T]=>∃ C dd b,PySem.W.ExCls K C/\H x=some (ExcD x (.ref C) dd)/\PySem.W.kitOne K (.ref C) (.type T)=some b/\Q (.bl b) H
 | _=>False
theorem vals_refs:∀ {ds:List Addr} {us:List Value},Vals (ds.map V.ref) us->us=ds.map Value.ref
 | [],_,r=>by cases r;rfl
 | d :: ds,_,r=>by
  cases r with
  | cons r1 r2=>
   cases r1
   rw [vals_refs r2];rfl
theorem call_isY:CallR X (.builtin "isinstance") (rIsY X.K):=by
 intro pins s σ H vs us Q I r h
 unfold rIsY at h
 split at h
 ·rename_i x D
  obtain ⟨C,dd,b,Z,hx,k,q⟩:=h
  obtain ⟨u,w',rfl,r1,r2⟩:=vals2 r
  cases r1
  cases r2
  obtain ⟨⟨o,gx,hc,_⟩,_⟩:=I.hok x _ hx
  rcases k with k | ⟨ds,hD,k⟩
  ·exact kia_one (kitx_exc Z) I.kIn ⟨o,gx,hc⟩ k (by intro z;cases z) fun tk=>⟨.bl b,H,I.tok _,rfl,q⟩
  ·obtain ⟨_,its,rv,o2,g2,c2,n2,d2⟩:=I.hok D _ hD
   have ei:=vals_refs rv
   subst ei
   obtain ⟨oc,od,odt,osl⟩:=o2
   dsimp only at c2 d2
   subst c2
   subst d2
   exact kia_tup (kitx_exc Z) I.kIn ⟨o,gx,hc⟩ g2 k (by intro z;cases z) fun tk=>⟨.bl b,H,I.tok _,rfl,q⟩
 ·rename_i x T
  obtain ⟨C,dd,b,Z,hx,k,q⟩:=h
  obtain ⟨u,w',rfl,r1,r2⟩:=vals2 r
  cases r1
  obtain rfl:w' = .type T:=r2
  obtain ⟨⟨o,gx,hc,_⟩,_⟩:=I.hok x _ hx
  exact kia_one (kitx_exc Z) I.kIn ⟨o,gx,hc⟩ k (by intro z;cases z) fun tk=>⟨.bl b,H,I.tok _,rfl,q⟩
 ·exact h.elim
theorem fn_isY {mg':Str->Option Value} (hm:mg' "isinstance" = none) (hX:X.mg=mg') (ha:PA X (e :: es) t) (hg:gB X "isinstance" = true:=by kernel_rfl) (he:starEach (e :: es) X.env=(false,eval e X.env) :: starEach es X.env:=by kernel_rfl) (hpl:(backTo pos (starEach es X.env)).any (·.1)=false:=by kernel_rfl) :
  PE X (.Call (.Name "isinstance" p) (e :: es) [] pos) (tCB (rIsY X.K) t):=pe_callB call_isY (gl_of hg) (by rw [hX];exact hm) PyProof.Rows.boot_isinstance ha (he:=he) (hpl:=hpl)
end
def CanY (P:Program) (w:World) (K:PySem.W.Frag) (mg:Str->Option Value) (base:Heap) (x:Str) (k:Nat) (ps:List Str) (sp:Sp):Prop:=
 ∃ f fd,FnOk P w K mg base (CX2 P w) k f fd ps sp/\mg x=some (.ref f)/\PySem.W.keepIn K (.ref f)=true/\Binds K fd ps []
section
variable {P:Program} {w:World} {K:PySem.W.Frag} {mg:Str->Option Value} {base:Heap} {N:List Str} {qual:Str} {scope:Scope} {f:Addr} {cd:Value} {A:Around} {outer:List Env} {s:Shared} {H:Hp} {E:XK}
theorem canY_fn {x:Str} {st:Stmt} {N ps:List Str} {k:Nat} {sp:Sp} (D:FnX K mg x st ps) (S:FnScope N ps (defScope st)) (len:∀ vs H Q E,sp vs H Q E->vs.length=ps.length)
  (hbody:∀ (f:Addr) (cdv:Value) (A:Around) (outer:List Env) (s:Shared) (H:Hp) (vs:List V) (Q:VK) (E:XK),Room k (A.deeper (envOfC x (defScope st) s.heap.objs.size f cdv))->sp vs H Q E →
   ∃ t,PSs (cxOf (CX2 P w) P w K mg base N x (defScope st) f cdv A outer s H E) (defBody st) t/\t { nx:=fun _ H'=>Q .non H',rt:=Q } (start N vs) H):CanY P w K mg base x (k+1) ps sp:=by
 obtain ⟨f,fd,F,hm,hb⟩:=D
 obtain ⟨oc,od,kV,doc,pm,an,cdv,ct,osl,rfl,lk,hcd⟩:=F.ex
 exact ⟨f,_,fn_of lk hcd S len fun A outer s H vs Q E hr hsp=>hbody f cdv A outer s H vs Q E hr hsp,hm,F.kp,hb⟩
theorem fn_canY (x:Str) {p pos:Pos} {e:Expr} {es:List Expr} {t:TA} {k:Nat} {ps:List Str} {sp:Sp} (C:CanY P w K mg base x k ps sp) (hr:Room k (cxOf (CX2 P w) P w K mg base N qual scope f cd A outer s H E).A) (ha:PA (cxOf (CX2 P w) P w K mg base N qual scope f cd A outer s H E) (e :: es) t)
  (hg:gB (cxOf (CX2 P w) P w K mg base N qual scope f cd A outer s H E) x=true:=by kernel_rfl) (hdb:(x == ("__debug__" : Str))=false:=by kernel_rfl)
  (he:starEach (e :: es) (cxOf (CX2 P w) P w K mg base N qual scope f cd A outer s H E).env=(false,eval e (cxOf (CX2 P w) P w K mg base N qual scope f cd A outer s H E).env) :: starEach es (cxOf (CX2 P w) P w K mg base N qual scope f cd A outer s H E).env:=by kernel_rfl)
  (hpl:(backTo pos (starEach es (cxOf (CX2 P w) P w K mg base N qual scope f cd A outer s H E).env)).any (·.1)=false:=by kernel_rfl) :
  PE (cxOf (CX2 P w) P w K mg base N qual scope f cd A outer s H E) (.Call (.Name x p) (e :: es) [] pos) (tCall sp [] E t):=by
 obtain ⟨g,fd,F,hm,hk,hb⟩:=C
 exact pe_call (X:=cxOf (CX2 P w) P w K mg base N qual scope f cd A outer s H E) F hr (gl_of hg) hm hk hb .nil (pass2 fun _ _ _ q=>q) ha hdb he hpl
end
end L2
end
section
namespace L2
open PySem PySem.Spec PyProof.Rows PySem.W
def PB2 (X:Cx) (st:List Stmt) (t:XK->TS):Prop:=
 ∀ (pins:List (Addr×Obj)) (s:Shared) (σ:St) (H:Hp) (D:Ends) (E:XK),Inv X pins σ H s->t E D σ H →
  wpAny (model X.prog X.w) X.A (execs st X.env) (SP X pins D) (fun e s'=>∃ H1 s1,Inv X pins σ H1 s1/\CX2 X.prog X.w X.stack H1 s1 E e s') s
section
variable {X:Cx} {x:Str} {p pos epos:Pos} {e:Expr} {es:List Expr} {t:TA} {k:Nat} {ps:List Str} {sp:Sp}
end
section
variable {X:Cx} {pins:List (Addr×Obj)} {σ:St} {H H':Hp} {s s':Shared}
theorem land2 {x:Addr} {c a0:Value} {dd:Option Addr} {B h6:Heap} (I:Inv X pins σ H s) (os:s'.os=s.os) (bare:AllBare s'.gens) (un:Un (frs X.stack) [] H H' s.heap s'.heap) (hok:HOk X.prog X.w H' s'.heap) (fl:FlyD B X.stack x c a0 dd s'.heap)
  (k1:∀ b o,s.heap.get? b=some o->H b=none->b ∉ frs X.stack->B.get? b=some o) (k3:∀ b o,s.heap.get? b=some o->b ∉ frs X.stack->∃ o',B.get? b=some o') (k2:∀ b u,H' b=some u->∀ o,s'.heap.get? b=some o->B.get? b=some o)
  (st:B.StaysIn h6) (up:s'.heap.UpToSlots h6) {ox:Obj} {vx:Array Value} (hx:h6.get? x=some ox) (hc:ox.cls=c) (hd:ox.dict=dd) (hv:ox.data = .fields vx):Inv X pins σ (upd H' x (ExcD x c dd)) { s' with heap:=h6 }:=by
 obtain ⟨f1,f2,f3,f4⟩:=fl
 have xH:H' x=none:=by
  cases q:H' x with
  | none=>rfl
  | some u=>
   obtain ⟨o,ho⟩:=hok.has q
   rw [k2 x u q o ho] at f2
   cases f2
 have nofr:x ∉ frs X.stack:=fun hm=>by
  obtain ⟨_,o,ho,nd⟩:=f3.mem hm
  obtain ⟨oe,vs,T,oT,ts,he,_,_,_,hd,_⟩:=f4
  rw [he] at ho
  cases ho
  exact nd vs hd
 have old:∀ b o,s.heap.get? b=some o->b≠x:=fun b o e z=>by
  by_cases hm:b∈frs X.stack
  ·exact nofr (z ▸ hm)
  ·obtain ⟨o',q⟩:=k3 b o e hm
   rw [z,f2] at q
   cases q
 have trk:∀ b u,H b=some u->b≠x:=fun b u e=>by
  obtain ⟨o,ho⟩:=I.hok.has e
  exact old b o ho
 have un':Un (frs X.stack) [] H (upd H' x (ExcD x c dd)) s.heap h6:=by
  refine ⟨fun b o e n nf _=>st b o (k1 b o e n nf),fun b o e n hf hb=>?_,fun b o e n hb=>?_,fun b o e hb=>?_,fun b xs e=>?_,fun b o u e=>?_,fun b ps e=>?_⟩
  ·obtain ⟨sl,e1⟩:=un.slot b o e n hf hb
   obtain ⟨_,o',ho',nd⟩:=f3.mem hf
   rw [e1] at ho'
   cases ho'
   obtain ⟨sl2,e2⟩:=up b _ e1 nd
   exact ⟨sl2,e2⟩
  ·rw [upd_ne (old b o e)]
   exact un.free b o e n hb
  ·by_cases hm:b∈frs X.stack
   ·obtain ⟨_,o2,ho2,nd⟩:=f3.mem hm
    obtain ⟨sl2,e2⟩:=up b _ ho2 nd
    exact ⟨_,e2⟩
   ·obtain ⟨o',q⟩:=k3 b o e hm
    exact ⟨o',st b o' q⟩
  ·rw [upd_ne (trk b _ e)];exact un.tups b xs e
  ·rw [upd_ne (trk b _ e)];exact un.frzs b o u e
  ·rw [upd_ne (trk b _ e)];exact un.tbls b ps e
 have hok':HOk X.prog X.w (upd H' x (ExcD x c dd)) h6:=fun b u e=>by
  by_cases hb:b=x
  ·subst hb
   rw [upd_same] at e
   cases e
   exact ExcD.mk hx hc hd hv
  ·rw [upd_ne hb] at e
   refine (hok b u e).stay (fun b' u' hb' e'=>?_) (fun b' z=>by rw [upd_ne (ne_of_none z xH)];exact z) fun b' xs z=>by rw [upd_ne (ne_of_none z xH)];exact z
   rcases hb' with rfl | z
   ·exact st b' u' (k2 b' u e u' e')
   ·exact st b' u' (k2 b' _ z u' e')
 exact I.call' (s':={ s' with heap:=h6 }) (ch:=[]) os un' hok' bare (fun b z=>absurd z (by simp))
end
section
variable {X:Cx} {np hpos pos:Pos} {body suite:List Stmt} {b₀:Stmt} {tb:XK->TS} {ts:TS}
def tTry2 (K:PySem.W.Frag) (B:Addr) (i:Nat) (tb:XK->TS) (ts:TS):TS:=fun D σ H=>tb (fun c dd H'=>exmOne K c (.ref B)=some true/\∀ x,H' x=none->ts { nx:=fun σ2 H2=>D.nx (σ2.set i none) H2,rt:=fun _ _=>False } (σ.set i (some (.ref x))) (upd H' x (ExcD x c dd))) D σ H
theorem s_try2 (x n:Str) (i:Nat) {B:Addr} {mg':Str->Option Value} (hm:mg' x=some (.ref B)) (hX:X.mg=mg') (hN:X.N.Nodup) (hb:PB2 X body tb) (hs:∀ a,PSs (X.held a) (b₀ :: suite) ts)
  (hst:X.stack=X.env :: X.outer/\X.env.frame=some X.env.locals:=by exact ⟨rfl,rfl⟩) (hi:X.N[i]? = some n:=by with_unfolding_all rfl) (hk:(X.env.scope.names.lookup n == some .local)=true:=by kernel_rfl) (hg:gB X x=true:=by kernel_rfl) (hdb:(x == ("__debug__" : Str))=false:=by kernel_rfl) :
  PS X (.Try body [.ExceptHandler (some (.Name x np)) (some n) (b₀ :: suite) hpos] [] [] pos) (tTry2 X.K B i tb ts):=by
 have hk:X.env.scope.names.lookup n=some .local:=eq_of_beq hk
 intro pins s σ H D I h
 refine wpAny_Try_except (wpAny_mono (hb pins s σ H D _ I h) (fun fl s1 z=>?_) fun e s1 z=>?_)
 ·cases fl with
  | next=>exact wpAny_execs_nil z
  | _=>exact z
 ·obtain ⟨H1,s1',I1,y,c,a0,dd,Bs,H2,rfl,os,bare,un,hok,fl,k1,k3,k2,hx,q⟩:=z
  have frm:X.A.frames=some (X.env :: X.outer):=by rw [I1.ok.frames,hst.1]
  have fl':FlyD Bs (X.env :: X.outer) y c a0 dd s1.heap:=by rw [<-hst.1];exact fl
  have xH:H2 y=none:=by
   cases z:H2 y with
   | none=>rfl
   | some u=>
    obtain ⟨o,ho⟩:=hok.has z
    have:=fl.2.1
    rw [k2 y u z o ho] at this
    cases this
  refine look_D frm hst.2 fl' fun h4 held4 up4=>?_
  refine land_D held4 fun h5 fl5 up5=>?_
  obtain ⟨o5,v5,_,_,_,hy5,hc5,hd5,_,hv5,_⟩:=id fl5.2.2.2
  have I5:=land2 I1 os bare un hok fl k1 k3 k2 fl5.1 (up4.trans up5) hy5 hc5 hd5 hv5
  refine wpAny_handleBy_cons (codeAny_handlers_test (wpAny_noRaise (ld_glob (I5.held (x:=y)) (gl_of (X:=X.held y) hg) (by show X.mg x=_;rw [hX];exact hm) ?_ hdb))) (by intro z;cases z)
  refine wpAny_noRaise ((exm_one (I5.kIn) (by have:=(Looks.ld (part:=none) hy5).andThen (f:=fun o=>pure o.cls) (M:=model X.prog X.w) Looks.now;rw [hc5] at this;exact this) hx).here ?_)
  refine codeAny_handlers_suite_as ?_
  refine land_D2 fl5 fun h6 fl6 up6=>?_
  obtain ⟨o6,v6,_,_,_,hy6,hc6,hd6,_,hv6,_⟩:=id fl6.2.2.2
  have I6:=land2 I1 os bare un hok fl k1 k3 k2 fl6.1 ((up4.trans up5).trans up6) hy6 hc6 hd6 hv6
  refine store_ok (X:=X.held y) (v:=.ref y) I6.held hN hi (.inl hk) rfl (fun s7 I7=>?_) (.inr hk)
  refine wpAny_mono (hs y pins s7 _ _ _ I7 (q y xH)) (fun fl8 s8 z8=>?_) fun _ _ z8=>z8.elim
  cases fl8 with
  | next=>
   obtain ⟨σ8,H8,I8,q8⟩:=z8
   exact name_goes (I8.unheld I1.ok) hN hi hk fun s9 I9=>⟨_,H8,I9,q8⟩
  | brk=>obtain ⟨_,_,_,q8⟩:=z8;exact q8.elim
  | cont=>obtain ⟨_,_,_,q8⟩:=z8;exact q8.elim
  | ret u=>obtain ⟨_,_,_,_,_,q8⟩:=z8;exact q8.elim
end
end L2
end
section
namespace L2
open PySem PySem.Spec PyProof.Rows PySem.W
section
variable {P:Program} {w:World} {K:PySem.W.Frag} {mg:Str->Option Value} {base:Heap}
end
section
variable {X:Cx} {y:Addr} {p pos:Pos} {e:Expr} {es:List Expr} {t:TA} {k:Nat} {ps:List Str} {sp:Sp}
end
end L2
end
section
namespace L2
open PySem PySem.Spec PyProof.Rows PySem.W
def clsStmt:Stmt->Nat->Stmt
 | .ClassDef _ _ _ body _ _ _ _ _ _ _,i=>body.getD i (.Pass ⟨0,0,0,0⟩)
 | s,_=>s
section
variable {X:Cx} {p pos:Pos} {e:Expr} {es:List Expr} {t:TA} {k:Nat} {ps:List Str} {sp:Sp}
end
end L2
namespace L2
open PySem PySem.Spec PyProof.Rows
theorem strI_short:∀ i,i < 2048->(strI ((i:Nat):Int)).length<=4:=by decide +kernel
end L2
end
section
namespace L2
open PySem PySem.Spec PyProof.Rows PySem.W
open PySem.Builtin PySem.Builtin.Str in
def PE1 (X:Cx) (e:Expr) (t:TE):Prop:=
 ∀ (pins:List (Addr×Obj)) (s:Shared) (σ:St) (H:Hp) (Q:VK),s.toks≠0->Inv X pins σ H s->t σ H Q->wpAny (model X.prog X.w) X.A (eval e X.env) (fun u s'=>EP X pins σ Q u s'/\s'.toks≠0) X.xe s
section
variable {X:Cx} {p pos apos cpos p1 p2:Pos} {e o:Expr} {es:List Expr} {t:TA} {to:TE} {y z:Str} {j1 j2:Nat}
theorem var1 {i:Nat} {x:Str} (hN:X.N[i]? = some x) (hv:Vis X.env.scope x) (hd:(x == ("__debug__" : Str))=false) (hcd:(x == ("__classdict__" : Str))=false) {pins:List (Addr×Obj)} {s:Shared} {σ:St} {H:Hp} {Q:VK} (I:Inv X pins σ H s) (h:tVar i σ H Q) :
  wpAny (model X.prog X.w) X.A (eval (.Name x pos) X.env) (fun u s'=>EP X pins σ Q u s'/\s'=s) X.xe s:=by
 obtain ⟨v,e,h⟩:=h
 obtain ⟨m,hn,hl⟩:=I.loc
 obtain ⟨u,r,l⟩:=hl i x v hN e hv
 have fin:EP X pins σ Q u s/\s=s:=⟨⟨v,H,I,r,h⟩,rfl⟩
 rcases l with ⟨hk,hm⟩ | ⟨hk,c,hc,hcell⟩
 ·exact wpAny_Name (wpAny_loadName_local I.ok.kind hk hn hm fin) hd
 ·rcases hk with hk | hk
  ·exact wpAny_Name (wpAny_loadName_cell I.ok.kind hk hc hcell fin) hd
  ·exact wpAny_Name (wpAny_loadName_free I.ok.kind hk hc hcell fin hcd) hd
theorem n1 (x:Str) (i:Nat) (hN:X.N[i]? = some x:=by with_unfolding_all rfl) (hv:visB X.env.scope x=true:=by kernel_rfl):PE1 X (.Name x pos) (tVar i):=by
 intro pins s σ H Q h0 I h
 exact thn (var1 hN (vis_of hv).1 (vis_of hv).2.1 (vis_of hv).2.2 I h) fun u s' ⟨e1,e2⟩=>⟨e1,by rw [e2];exact h0⟩
end
end L2
end
section
namespace L2
open PySem PySem.Spec PyProof.Rows
def mkS (l:List Nat):Str:=⟨l.toArray⟩
theorem mkS_len (l:List Nat):(mkS l).length=l.length:=by show l.toArray.size=_;simp
theorem mkS_cps (l:List Nat):(mkS l).cps.toList=l:=by show l.toArray.toList=l;simp
theorem bs_mkS (w:List Bool):bs w=mkS (w.map sg):=rfl
theorem slice_cut (xs:List Nat) {a n:Nat} (ha:a<=xs.length):Txt.slice (mkS xs) (some (a:Int)) (some ((a:Int)+(n:Int)))=mkS ((xs.drop a).take n):=by
 refine Eq.trans (show Txt.slice (mkS xs) (some (a:Int)) (some ((a:Int)+(n:Int)))=StrLaws.sliceText (mkS xs) (some (a:Int)) (some ((a:Int)+(n:Int))) from rfl) ?_
 have hl:=mkS_len xs
 by_cases h:a+n<=xs.length
 ·have:=StrLaws.sliceText_plain (x:=mkS xs) (i:=(a:Int)) (j:=(a:Int)+(n:Int)) ⟨by omega,by omega,by rw [mkS_cps];omega⟩
  rw [this,mkS_cps,Int.toNat_natCast,show ((a:Int)+(n:Int) - (a:Int)).toNat=n by omega]
  rfl
 ·have e:StrLaws.sliceText (mkS xs) (some (a:Int)) (some ((a:Int)+(n:Int)))=StrLaws.sliceText (mkS xs) (some (a:Int)) (some (xs.length:Int)):=by
   unfold StrLaws.sliceText
   have:Builtin.Str.strSliceIndices (some (a:Int)) (some ((a:Int)+(n:Int))) 1 (mkS xs).length=Builtin.Str.strSliceIndices (some (a:Int)) (some (xs.length:Int)) 1 (mkS xs).length:=by
    rw [hl]
    have h1:¬ ((a:Int)+(n:Int) < 0):=by omega
    have h2:¬ ((xs.length:Int) < 0):=by omega
    have h3:min ((a:Int)+(n:Int)) (xs.length:Int)=xs.length:=by omega
    simp [Builtin.Str.strSliceIndices,h1,h2,h3]
   rw [this]
  rw [e]
  have:=StrLaws.sliceText_plain (x:=mkS xs) (i:=(a:Int)) (j:=(xs.length:Int)) ⟨by omega,by omega,by rw [mkS_cps];omega⟩
  rw [this,mkS_cps,Int.toNat_natCast]
  unfold mkS
  rw [List.take_of_length_le (by rw [List.length_drop];omega),List.take_of_length_le (by rw [List.length_drop];omega)]
end L2
end
section
namespace L2
open PySem PySem.Spec PyProof.Rows
theorem slice_from (xs:List Nat) (j:Int) (h:0<=j):Txt.slice (mkS xs) (some j) none=mkS (xs.drop j.toNat):=by
 have hl:=mkS_len xs
 have e1:Txt.slice (mkS xs) (some j) none=StrLaws.sliceText (mkS xs) (some j) none:=rfl
 rw [e1]
 rcases Int.lt_or_le (xs.length:Int) j with h0 | h0
 ·have e:StrLaws.sliceText (mkS xs) (some j) none=StrLaws.sliceText (mkS xs) (some (xs.length:Int)) none:=by
   unfold StrLaws.sliceText
   have:Builtin.Str.strSliceIndices (some j) none 1 (mkS xs).length=Builtin.Str.strSliceIndices (some (xs.length:Int)) none 1 (mkS xs).length:=by
    rw [hl]
    have h2:¬ (j < 0):=by omega
    have h3:max 0 (min j (xs.length:Int))=(xs.length:Int):=by omega
    have h5:¬ ((xs.length:Int) < 0):=by omega
    simp [Builtin.Str.strSliceIndices,h2,h3,h5]
   rw [this]
  rw [e,StrLaws.sliceText_from ⟨by omega,by rw [mkS_cps];omega⟩,mkS_cps,Int.toNat_natCast,List.drop_length,List.take_nil,List.drop_of_length_le (by omega)]
  rfl
 ·rw [StrLaws.sliceText_from ⟨h,by rw [mkS_cps];exact h0⟩,mkS_cps,List.take_of_length_le (by rw [List.length_drop];omega)]
  rfl
end L2
end
section
namespace L2
open PySem PySem.Spec PyProof.Rows
section
variable {X:Cx} {a b:Expr} {p pos:Pos} {ta:TA}
end
end L2
end
section
namespace L2
open PySem PySem.Spec PyProof.Rows PySem.W
section
variable {X:Cx}
end
section
variable {X:Cx} {pins:List (Addr×Obj)} {σ:St} {H:Hp} {s:Shared} {h':Heap}
theorem Inv.laidN {a:Addr} {o:HO} (I:Inv X pins σ H s) (k:∀ b u,s.heap.get? b=some u->h'.get? b=some u) (hp:s.heap.get? a=none) (new:ObjOk X.prog X.w (upd H a o) h' a o):Inv X pins σ (upd H a o) { s with heap:=h' }:=by
 have Ha:H a=none:=by
  cases e:H a with
  | none=>rfl
  | some u=>
   obtain ⟨o',e'⟩:=I.hok.has e
   rw [hp] at e';cases e'
 have ne:∀ b u,H b=some u->upd H a o b=some u:=fun b u e=>by rw [upd_ne (fun z=>by rw [z,Ha] at e;cases e)];exact e
 have un:Un (frs X.stack) [] H (upd H a o) s.heap h':=by
  refine ⟨fun b u e n _ _=>k b u e,fun b u e n _ _=>⟨u.slots,k b u e⟩,fun b u e n _=>?_,fun b u e _=>⟨u,k b u e⟩,fun b xs e=>ne b _ e,fun b u v e=>ne b _ e,fun b ps e=>⟨#[],by rw [Array.append_empty];exact ne b _ e⟩⟩
  rw [upd_ne (fun z=>by rw [z,hp] at e;cases e)];exact n
 refine I.call' (s':={ s with heap:=h' }) (ch:=[]) rfl un (fun b u e=>?_) I.bare (fun b z=>absurd z (by simp))
 by_cases z:b=a
 ·subst z
  rw [upd_same] at e
  cases e
  exact new
 ·rw [upd_ne z] at e
  exact (I.hok b u e).stay (fun b' u' hb' e'=>k b' u' e') (fun b' z=>ne b' _ z) fun b' xs z=>ne b' _ z
end
section
variable {P:Program} {w:World} {K:PySem.W.Frag} {mg:Str->Option Value} {base:Heap} {N:List Str} {qual:Str} {scope:Scope} {f:Addr} {cd:Value} {A:Around} {outer:List Env} {s:Shared} {H:Hp} {E:XK}
theorem s_raiseP {x:Str} {C:Addr} {np cpos pos:Pos} {e:Expr} {es:List Expr} {t:TA} (hC:ExnOk K C) (hm:mg x=some (.ref C)) (ha:PA (cxOf (CX2 P w) P w K mg base N qual scope f cd A outer s H E) (e :: es) t)
  (hg:gB (cxOf (CX2 P w) P w K mg base N qual scope f cd A outer s H E) x=true:=by kernel_rfl) (hdb:(x == ("__debug__" : Str))=false:=by kernel_rfl)
  (he:starEach (e :: es) (cxOf (CX2 P w) P w K mg base N qual scope f cd A outer s H E).env=(false,eval e (cxOf (CX2 P w) P w K mg base N qual scope f cd A outer s H E).env) :: starEach es (cxOf (CX2 P w) P w K mg base N qual scope f cd A outer s H E).env:=by kernel_rfl)
  (hpl:(backTo cpos (starEach es (cxOf (CX2 P w) P w K mg base N qual scope f cd A outer s H E).env)).any (·.1)=false:=by kernel_rfl) :
  PS (cxOf (CX2 P w) P w K mg base N qual scope f cd A outer s H E) (.Raise (some (.Call (.Name x np) (e :: es) [] cpos)) none pos) (tRaise E C t):=by
 obtain ⟨nm,q,Nn,bs,bm,hdct,sn,sub,ab,col,dd,k0,k1,k2,k3,k5,mN,hni,hK⟩:=hC
 generalize hXX:cxOf (CX2 P w) P w K mg base N qual scope f cd A outer s H E=X at *
 intro pins s1 σ H1 D I h
 have hbase:bm.contains (.type "BaseException")=true:=(hK s1.heap (by have:=I.kIn;rw [<-hXX] at this;exact this)).2.2.hasType (by decide)
 have hpl2:(backTo cpos (starEach (e :: es) X.env)).any (·.1)=false:=by
  rw [he]
  show (false || (backTo cpos (starEach es X.env)).any (·.1))=false
  rw [hpl];rfl
 refine wpAny_Raise_call_subT (F:=PySem.F.excBase_ValueError) (mN:=mN) (nm:=nm) (q:=q) (C:=C) (N:=Nn) (bs:=bs) (bm:=bm) (hdct:=hdct) (sn:=sn) (sub:=sub) (ab:=ab) (col:=col) (dd:=dd) (k0:=k0) (k1:=k1) (k2:=k2) (k3:=k3) (k5:=k5) hbase (I.ok.hd (by rw [<-hXX];rfl)) hpl2 hni ?_
 refine ld_glob I (gl_of hg) (by rw [<-hXX];exact hm) ⟨rfl,?_⟩ hdb
 have hx:=ha cpos pins s1 σ H1 _ I h
 rw [he] at hx ⊢
 refine PySem.Calls.evalArgs_plain (thn hx fun us s2 z=>?_)
 obtain ⟨vs,H2,I2,r,q2⟩:=z
 have kin:K.In s2.heap:=by have:=I2.kIn;rw [<-hXX] at this;exact this
 obtain ⟨c1,c2,c3⟩:=hK s2.heap kin
 refine ⟨rfl,?_,c1,c2,c3,fun h' x' mx=>?_⟩
 ·show us.length<=sizeLine
  rw [<-r.length];exact le_line q2.1
 ·subst hXX
  obtain ⟨ta,ge,_,_⟩:=mx.there
  have nH:H2 x'=none:=by
   cases e:H2 x' with
   | none=>rfl
   | some u=>
    obtain ⟨o',e'⟩:=I2.hok.has e
    rw [mx.new] at e';cases e'
  obtain ⟨hp,gg,dr,tk,os⟩:=s2
  have I3:Inv (cxOf (CX2 P w) P w K mg base N qual scope f cd A outer s H E) pins σ (upd H2 x' (ExcN x' C none)) ⟨h',gg,dr,tk,os⟩:=I2.laidN (a:=x') (o:=ExcN x' C none) mx.keeps mx.new (ExcN.mk ge)
  refine esc3 I3 upd_same (fun b o eb z=>?_) ?_
  ·have un:Un (frs outer) [] H H2 s.heap hp:=I2.base
   obtain ⟨o',e'⟩:=un.there b o eb (by simp)
   have:=mx.new
   rw [z] at e'
   have this:hp.get? x'=none:=this
   rw [this] at e'
   cases e'
  ·have eH:(fun b=>if b=x' then none else upd H2 x' (ExcN x' C none) b)=H2:=by
    funext b
    by_cases z:b=x'
    ·rw [if_pos z,z,nH]
    ·rw [if_neg z,upd_ne z]
   rw [eH]
   exact q2.2
end
section
variable {X:Cx} {x:Str} {p pos apos npos:Pos} {e:Expr} {es:List Expr} {t:TA} {k:Nat} {ps:List Str} {sp:Sp}
end
end L2
end
section
namespace L2
open PySem PySem.Spec PyProof.Rows PySem.W
section
variable {X:Cx}
def isTru:Value->Bool
 | .bool b=>b
 | _=>false
theorem vals_bls:∀ {ws:List Bool} {us:List Value},Vals (ws.map V.bl) us->us=ws.map Value.bool
 | [],_,r=>by cases r;rfl
 | d :: ds,_,r=>by
  cases r with
  | cons r1 r2=>
   cases r1
   rw [vals_bls r2];rfl
theorem eq_tru {ws:List Bool} {A:Around} {s:Shared}:∀ y,y∈ws.map Value.bool->SeqAt.EqAt A s y (.bool true) (isTru y):=fun y hy=>by
 obtain ⟨b,_,rfl⟩:=List.mem_map.mp hy
 have:=SeqAt.EqAt.bool_bool (A:=A) (s:=s) b true
 cases b<;>exact this
def rCountB:V->List V->Hp->VK->Prop:=fun x vs H Q=>match x,vs with
 | .ref l,[.bl true]=>∃ ws:List Bool,H l=some (.lst (ws.map V.bl))/\Q (.int (ws.countP id:Nat)) H
 | _,_=>False
theorem countP_tru (ws:List Bool):(ws.map Value.bool).countP isTru=ws.countP id:=by
 rw [List.countP_map]
 rfl
theorem mt_countB:MtM X "list.count" rCountB:=by
 intro pins s σ H x vs v us Q I rx rv h
 unfold rCountB at h
 split at h
 ·rename_i l
  obtain ⟨ws,hH,q⟩:=h
  cases rx
  obtain ⟨u,rfl,ru⟩:=rv.one
  cases ru
  obtain ⟨z,its,n,r,e⟩:=I.hok _ _ hH
  have hi:=vals_bls r
  subst hi
  refine call_meets PySem.F.slot_list_count ⟨_,e,rfl⟩ PySem.F.entry_list_count (PySem.F.args_list_count_2 _ _)
   (PySem.SeqAt.list_countAt l (ws.map Value.bool).toArray n none #[] (.bool true) isTru) ⟨e,fun y hy=>eq_tru y (by simpa using hy),?_⟩
  rw [show ((ws.map Value.bool).toArray).toList=ws.map Value.bool from rfl,countP_tru]
  exact ⟨.int _,H,I.tok _,⟨_,rfl⟩,q⟩
 ·exact h.elim
theorem m_countB {o e:Expr} {es:List Expr} {to:TE} {t:TA} {apos cpos:Pos} (ho:PE X o to) (ha:PA X (e :: es) t)
  (hbase:attributeBase o "count" X.env (eval o X.env)=eval o X.env:=by kernel_rfl)
  (hfew:((backTo cpos (starEach (e :: es) X.env)).all (fun x=>!x.1) && (backToKw cpos (keywordEach [] X.env)).all (fun x=>x.1.isSome)
   && decide ((e :: es).length+([]:List Keyword).length+(if ([]:List Keyword).isEmpty then 0 else 1) < 30))=true:=by kernel_rfl)
  (hline:(apos.endLine == cpos.line)=true:=by kernel_rfl) (hs:starEach (e :: es) X.env=(false,eval e X.env) :: starEach es X.env:=by kernel_rfl) (hplain:(backTo cpos (starEach es X.env)).any (·.1)=false:=by kernel_rfl) :
  PE X (.Call (.Attribute o "count" apos) (e :: es) [] cpos) (tMt "list" rCountB to t):=pe_mt PySem.F.plainAttrs_list PySem.F.slot_list_count PySem.F.type_list_count mt_countB ho ha hbase hfew hline hs hplain
def rIndexB:V->List V->Hp->VK->Prop:=fun x vs H Q=>match x,vs with
 | .ref l,[.bl true]=>∃ ws:List Bool,H l=some (.lst (ws.map V.bl))/\true∈ws/\Q (.int (ws.idxOf true:Nat)) H
 | _,_=>False
theorem idx_ne:∀ {ws:List Bool} {j:Nat},j < ws.idxOf true->∀ (h2:j < ws.length),ws[j]=false
 | [],j,_,h2=>absurd h2 (Nat.not_lt_zero _)
 | true :: ws,j,h,_=>by rw [List.idxOf_cons] at h;exact absurd h (Nat.not_lt_zero _)
 | false :: ws,0,h,_=>rfl
 | false :: ws,j+1,h,h2=>by
  rw [List.idxOf_cons] at h
  have h':j+1 < ws.idxOf true+1:=h
  exact idx_ne (Nat.lt_of_succ_lt_succ h') (Nat.lt_of_succ_lt_succ h2)
theorem mt_indexB:MtM X "list.index" rIndexB:=by
 intro pins s σ H x vs v us Q I rx rv h
 unfold rIndexB at h
 split at h
 ·rename_i l
  obtain ⟨ns,hH,hk,q⟩:=h
  cases rx
  obtain ⟨u,rfl,ru⟩:=rv.one
  cases ru
  obtain ⟨z,its,n,r,e⟩:=I.hok _ _ hH
  have hi:=vals_bls r
  subst hi
  have hj:ns.idxOf true < ns.length:=List.idxOf_lt_length_iff.mpr hk
  have hb:ns.length<=sizeLine:=by rw [List.length_map] at z;exact z
  rw [sizeLine_eq] at hb
  refine call_meets PySem.F.slot_list_index ⟨_,e,rfl⟩ PySem.F.entry_list_index (PySem.F.args_list_index_2 _ _)
   (PySem.SeqAt.list_indexAt l (ns.map Value.bool).toArray n none #[] (.bool true) isTru (ns.idxOf true) (by simpa using hj) (by omega) ?_ ?_) ⟨e,fun y hy=>eq_tru y (by simpa using hy),?_⟩
  ·show isTru ((ns.map Value.bool)[ns.idxOf true]'(by simpa using hj))=true
   rw [List.getElem_map]
   show ns[ns.idxOf true]=true
   exact List.getElem_idxOf hj
  ·intro j hjs hlt
   show isTru ((ns.map Value.bool)[j]'(by simpa using hjs))=false
   rw [List.getElem_map]
   exact idx_ne hlt _
  ·exact ⟨.int _,H,I.tok _,⟨_,rfl⟩,q⟩
 ·exact h.elim
theorem m_indexB {o e:Expr} {es:List Expr} {to:TE} {t:TA} {apos cpos:Pos} (ho:PE X o to) (ha:PA X (e :: es) t)
  (hbase:attributeBase o "index" X.env (eval o X.env)=eval o X.env:=by kernel_rfl)
  (hfew:((backTo cpos (starEach (e :: es) X.env)).all (fun x=>!x.1) && (backToKw cpos (keywordEach [] X.env)).all (fun x=>x.1.isSome)
   && decide ((e :: es).length+([]:List Keyword).length+(if ([]:List Keyword).isEmpty then 0 else 1) < 30))=true:=by kernel_rfl)
  (hline:(apos.endLine == cpos.line)=true:=by kernel_rfl) (hs:starEach (e :: es) X.env=(false,eval e X.env) :: starEach es X.env:=by kernel_rfl) (hplain:(backTo cpos (starEach es X.env)).any (·.1)=false:=by kernel_rfl) :
  PE X (.Call (.Attribute o "index" apos) (e :: es) [] cpos) (tMt "list" rIndexB to t):=pe_mt PySem.F.plainAttrs_list PySem.F.slot_list_index PySem.F.type_list_index mt_indexB ho ha hbase hfew hline hs hplain
end
section
variable {X:Cx} {p pos apos npos:Pos} {e:Expr} {es:List Expr} {t:TA} {k:Nat} {ps1 ps2:List Str} {sp1 sp2:Sp}
def tSetF (j:Nat) (f1 f2:Addr) (sp1 sp2:Sp) (t:TA) (i:Nat):XK->TS:=fun E D σ H=>
 (σ[j]? = some (some (.ref f1))/\t σ H fun vs H1=>sp1 vs H1 (fun v H2=>D.nx (σ.set i (some v)) H2) E) ∨
 (σ[j]? = some (some (.ref f2))/\t σ H fun vs H1=>sp2 vs H1 (fun v H2=>D.nx (σ.set i (some v)) H2) E)
theorem pb_setF (y n:Str) (j i:Nat) {x1 x2:Str} {f1 f2:Addr} {P':Program} {w':World} {K':PySem.W.Frag} {mg':Str->Option Value} {base':Heap} (C1:CanY P' w' K' mg' base' x1 k ps1 sp1) (C2:CanY P' w' K' mg' base' x2 k ps2 sp2)
  (m1:mg' x1=some (.ref f1)) (m2:mg' x2=some (.ref f2)) (hX:X.prog=P'/\X.w=w'/\X.K=K'/\X.mg=mg'/\X.base=base') (hr:Room k X.A) (hN:X.N.Nodup) (ha:PA X.nox (e :: es) t)
  (hj:X.N[j]? = some y:=by with_unfolding_all rfl) (hv:visB X.env.scope y=true:=by kernel_rfl)
  (hi:X.N[i]? = some n:=by with_unfolding_all rfl) (hl:(X.env.scope.names.lookup n == some .local)=true:=by kernel_rfl)
  (he:starEach (e :: es) X.env=(false,eval e X.env) :: starEach es X.env:=by kernel_rfl) (hpl:(backTo pos (starEach es X.env)).any (·.1)=false:=by kernel_rfl)
  (hs:swapsWith (.Call (.Name y p) (e :: es) [] pos) (some (.Name n npos)) apos.line X.env=pure false:=by kernel_rfl):PB2 X [.Assign [.Name n npos] (.Call (.Name y p) (e :: es) [] pos) apos] (tSetF j f1 f2 sp1 sp2 t i):=by
 have hl:X.env.scope.names.lookup n=some .local:=eq_of_beq hl
 obtain ⟨rfl,rfl,rfl,rfl,rfl⟩:=hX
 have one:∀ {x:Str} {f:Addr} {ps:List Str} {sp:Sp},CanY X.prog X.w X.K X.mg X.base x k ps sp->X.mg x=some (.ref f)->∀ (pins:List (Addr×Obj)) (s:Shared) (σ:St) (H:Hp) (D:Ends) (E:XK),Inv X pins σ H s →
   (σ[j]? = some (some (.ref f))/\t σ H fun vs H1=>sp vs H1 (fun v H2=>D.nx (σ.set i (some v)) H2) E) →
   wpAny (model X.prog X.w) X.A (execs [.Assign [.Name n npos] (.Call (.Name y p) (e :: es) [] pos) apos] X.env) (SP X pins D) (fun e s'=>∃ H1 s1,Inv X pins σ H1 s1/\CX2 X.prog X.w X.stack H1 s1 E e s') s:=by
  intro x f0 ps sp C m0 pins s σ H D E I h
  obtain ⟨f,fd,F,hm,hk,hb⟩:=C
  rw [m0] at hm
  cases hm
  obtain ⟨ef,h⟩:=h
  refine wpAny_execs_cons (wpAny_Assign_Name ?_ hs)
  refine wpAny_Call_Name_kw (wpAny_mono ((vn (X:=X.nox) (pos:=p) y j hj hv) pins s σ H (fun v H'=>v = .ref f0/\H'=H) (I.wish _) ?_) (fun u s1 z=>?_) fun _ _ z=>z.elim)
  ·unfold tV
   rw [ef]
   exact ⟨rfl,rfl⟩
  obtain ⟨v,H1,I1,r1,q1,q2⟩:=z
  subst q1
  subst q2
  cases r1
  have I1:=I1.unwish
  refine PySem.W.callWith_K (h₀:=X.base) I1.ok.mod.kin hk (wpAny_mono (ha pos pins s1 σ H1 _ (I1.wish _) h) (fun us s1 z=>?_) fun _ _ z=>z.elim) he hpl
  obtain ⟨vs,H1,I1,r,q⟩:=z
  have I1:=I1.unwish
  refine ⟨I1.kIn,?_⟩
  have hl':us.length=ps.length:=by rw [<-r.length];exact F.len _ _ _ _ q
  have hbs:BindsTo s1 fd ⟨us,[]⟩ (ps.zip us):=by have:=hb s1 us I1.kIn (by rw [List.append_nil];exact hl');rw [List.append_nil] at this;exact this
  refine wpAny_call (codeAny_mono (F.run X.A X.stack s1 H1 ⟨us,[]⟩ us vs _ E hr I1.env0 hbs r q) fun rr s' hq=>?_)
  cases rr with
  | error e=>exact ⟨H1,s1,I1,hq⟩
  | ok fl=>
   cases fl with
   | ret u=>
    obtain ⟨v,H2,I2,rv,q2⟩:=I1.after hq
    exact store_ok I2 hN hi (.inl hl) rv (fun s3 I3=>wpAny_execs_nil ⟨_,H2,I3,q2⟩) (.inr hl)
   | next=>exact False.elim hq
   | brk=>exact False.elim hq
   | cont=>exact False.elim hq
 intro pins s σ H D E I h
 rcases h with h | h
 ·exact one C1 m1 pins s σ H D E I h
 ·exact one C2 m2 pins s σ H D E I h
end
end L2
end
section
namespace K41
open PySem L2
def top (i:Nat):Stmt:=PySem.Challenge.pw_ownbeat_k41_framed_and_apart.main.body.getD i (.Pass ⟨0,0,0,0⟩)
end K41
end
section
open PySem L2
local macro_rules | `(tactic| walk_at "T.n")=>`(tactic| with_reducible first | exact vn _ 0 | exact vn _ 1 | exact vn _ 2 | exact vn _ 3 | exact vn _ 4 | exact vn _ 5 | exact vn _ 6 | exact vn _ 7 | exact vn _ 8 | exact vn _ 9 | exact vn _ 10 | exact vn _ 11 | exact vn _ 12 | exact vn _ 13 | exact vn _ 14 | exact vn _ 15 | exact vn _ 16 | exact vn _ 17 | exact vn _ 18 | exact vn _ 19)
local macro_rules | `(tactic| walk_at "T.a")=>`(tactic| first | (with_reducible exact pa_nil) | ((with_reducible refine' a_cons ?a1 ?a2);(case a1=>walk_at "T.e");(case a2=>walk_at "T.a")))
local macro_rules | `(tactic| walk_at "T.o")=>`(tactic| first | (with_reducible exact po_none) | ((with_reducible refine' po_someU ?a1);(case a1=>walk_at "T.e")))
local macro_rules | `(tactic| walk_at "T.cmp")=>`(tactic| first | (with_reducible exact op_inL) | (with_reducible exact op_notInL) | (with_reducible exact op_isU) | (with_reducible exact op_lt.n0) | (with_reducible exact op_le.n0) | (with_reducible exact op_gt.n0) | (with_reducible exact op_ge.n0) | ((with_reducible refine' op_eqU ?a1);(case a1=>exact Room.units (by assumption))) | ((with_reducible refine' op_neU ?a1);(case a1=>exact Room.units (by assumption))))
local macro_rules | `(tactic| walk_at "T.op")=>`(tactic| first | (with_reducible exact op_addU) | (with_reducible exact op_sub.n0) | (with_reducible exact op_mulU) | (with_reducible exact op_mod.n) | (with_reducible exact op_fdiv.n) | (with_reducible exact op_pow.n) | (with_reducible exact op_shl.n) | (with_reducible exact op_shr.n) | (with_reducible exact op_and.n0) | (with_reducible exact op_xor.n0) | (with_reducible exact op_or.n0))
local macro_rules | `(tactic| walk_at "T.ty")=>`(tactic| first | ((with_reducible refine' ty_int ?a1 ?a9);(case a1=>with_reducible assumption);(case a9=>rfl)) | ((with_reducible refine' ty_bool ?a1 ?a9);(case a1=>with_reducible assumption);(case a9=>rfl)) | ((with_reducible refine' ty_list ?a1 ?a9);(case a1=>with_reducible assumption);(case a9=>rfl)) | ((with_reducible refine' ty_str ?a1 ?a9);(case a1=>with_reducible assumption);(case a9=>rfl)))
local macro_rules | `(tactic| walk_at "T.f")=>`(tactic| ((with_reducible refine' fn_can _ ?a0 ?a9 ?a1 ?a2);(case a0=>with_reducible assumption);(case a9=>exact ⟨rfl,rfl,rfl,rfl,rfl⟩);(case a1=>exact Room.mono (by assumption) (by first | decide | exact Nat.le_refl _));(case a2=>walk_at "T.a")))
local macro_rules | `(tactic| walk_at "T.b")=>`(tactic| first | walk_at "T.f" | ((with_reducible refine' fn_len ?a0 ?a9 ?a1);(case a0=>with_reducible assumption);(case a9=>rfl);(case a1=>walk_at "T.a")) | ((with_reducible refine' fn_isinst ?a0 ?a9 ?a1);(case a0=>with_reducible assumption);(case a9=>rfl);(case a1=>walk_at "T.a")) | ((with_reducible refine' fn_all ?a0 ?a9 ?a1);(case a0=>with_reducible assumption);(case a9=>rfl);(case a1=>walk_at "T.a")) | ((with_reducible refine' fn_max ?a0 ?a9 ?a1);(case a0=>with_reducible assumption);(case a9=>rfl);(case a1=>walk_at "T.a")) | ((with_reducible refine' fn_min ?a0 ?a9 ?a1);(case a0=>with_reducible assumption);(case a9=>rfl);(case a1=>walk_at "T.a")) | ((with_reducible refine' fn_int ?a0 ?a9 ?a1);(case a0=>with_reducible assumption);(case a9=>rfl);(case a1=>walk_at "T.a")) | ((with_reducible refine' fn_list ?a0 ?a9 ?a1);(case a0=>with_reducible assumption);(case a9=>rfl);(case a1=>walk_at "T.a")) )
local macro_rules | `(tactic| walk_at "T.m")=>`(tactic| first | ((with_reducible refine' m_append ?a1 ?a2);(case a1=>walk_at "T.e");(case a2=>walk_at "T.a")) | ((with_reducible refine' m_join ?a1 ?a2);(case a1=>walk_at "T.e");(case a2=>walk_at "T.a")) | ((with_reducible refine' m_strip ?a1 ?a2);(case a1=>walk_at "T.e");(case a2=>walk_at "T.a")) | ((with_reducible refine' m_count ?a1 ?a2);(case a1=>walk_at "T.e");(case a2=>walk_at "T.a")) | ((with_reducible refine' m_bits ?a1);(case a1=>walk_at "T.e")))
local macro_rules | `(tactic| walk_at "T.c")=>`(tactic| fail "no comprehension's names")
local macro_rules | `(tactic| walk_at "T.e")=>`(tactic| first | (with_reducible exact pe_int) | (with_reducible exact pe_str) | (with_reducible exact pe_bl) | (with_reducible exact pe_non) | walk_at "T.n" | walk_at "T.ty" | ((with_reducible refine' pe_op ?a1 ?a2 ?a3);(case a1=>walk_at "T.op");(case a2=>walk_at "T.e");(case a3=>walk_at "T.e")) | ((with_reducible refine' e_cmp ?a1 ?a2 ?a3);(case a1=>walk_at "T.cmp");(case a2=>walk_at "T.e");(case a3=>walk_at "T.e")) | ((with_reducible refine' e_chain ?a1 ?a2 ?a3 ?a4 ?a5);(case a1=>walk_at "T.cmp");(case a2=>walk_at "T.cmp");(case a3=>walk_at "T.e");(case a4=>walk_at "T.e");(case a5=>walk_at "T.e")) | ((with_reducible refine' pe_slice slU ?a1 ?a2 ?a3);(case a1=>walk_at "T.e");(case a2=>walk_at "T.o");(case a3=>walk_at "T.o")) | ((with_reducible refine' ix_at ?a1 ?a2);(case a1=>walk_at "T.e");(case a2=>walk_at "T.e")) | ((with_reducible refine' pe_tup ?a1);(case a1=>walk_at "T.a")) | ((with_reducible refine' pe_lst ?a1);(case a1=>walk_at "T.a")) | ((with_reducible refine' pe_andU ?a1 ?a2);(case a1=>walk_at "T.e");(case a2=>walk_at "T.e")) | ((with_reducible refine' pe_one ?a1);(case a1=>walk_at "T.e")) | ((with_reducible refine' pe_notU ?a1);(case a1=>walk_at "T.e")) | ((with_reducible refine' e_neg ?a1);(case a1=>walk_at "T.e")) | walk_at "T.b" | walk_at "T.m" | ((with_reducible refine' e_fmt ?a1);(case a1=>walk_at "T.e")) | ((with_reducible refine' e_fstr ?a1);(case a1=>walk_at "T.j")) | walk_at "T.c")
local macro_rules | `(tactic| walk_at "T.j")=>`(tactic| first | (with_reducible exact pj_nil) | ((with_reducible refine' pj_cons ?a1 ?a2);(case a1=>walk_at "T.e");(case a2=>walk_at "T.j")))
local macro_rules | `(tactic| walk_at "T.t")=>`(tactic| first | ((with_reducible refine' t_chain ?a1 ?a2 ?a3 ?a4 ?a5);(case a1=>walk_at "T.cmp");(case a2=>walk_at "T.cmp");(case a3=>walk_at "T.e");(case a4=>walk_at "T.e");(case a5=>walk_at "T.e")) | ((with_reducible refine' t_cmp ?a1 ?a2 ?a3);(case a1=>walk_at "T.cmp");(case a2=>walk_at "T.e");(case a3=>walk_at "T.e")) | ((with_reducible refine' pt_not ?a1);(case a1=>walk_at "T.t")) | ((with_reducible refine' PW.pt ?a1);(case a1=>walk_at "T.w")) | ((with_reducible refine' t_tru ?a1);(case a1=>walk_at "T.e")))
local macro_rules | `(tactic| walk_at "T.w")=>`(tactic| first | ((with_reducible refine' pw_and ?a1 ?a2);(case a1=>walk_at "T.t");(case a2=>walk_at "T.w")) | ((with_reducible refine' pw_or ?a1 ?a2);(case a1=>walk_at "T.t");(case a2=>walk_at "T.w")) | ((with_reducible refine' pw_and1 ?a1);(case a1=>walk_at "T.t")) | ((with_reducible refine' pw_or1 ?a1);(case a1=>walk_at "T.t")))
local macro_rules | `(tactic| walk_at "T.i")=>`(tactic| first | ((with_reducible refine' it_r1 ?a0 ?a9 ?a1);(case a0=>with_reducible assumption);(case a9=>rfl);(case a1=>walk_at "T.a")) | ((with_reducible refine' it_r2 ?a0 ?a9 ?a1);(case a0=>with_reducible assumption);(case a9=>rfl);(case a1=>walk_at "T.a")) | ((with_reducible refine' it_enum ?a0 ?a9 ?a1);(case a0=>with_reducible assumption);(case a9=>rfl);(case a1=>walk_at "T.a")) | ((with_reducible refine' pi_lst ?a1);(case a1=>walk_at "T.e")))
local macro_rules | `(tactic| walk_at "T.gn")=>`(tactic| with_reducible first | exact gn _ 0 (by with_unfolding_all assumption) | exact gn _ 1 (by with_unfolding_all assumption) | exact gn _ 2 (by with_unfolding_all assumption) | exact gn _ 3 (by with_unfolding_all assumption) | exact gn _ 4 (by with_unfolding_all assumption) | exact gn _ 5 (by with_unfolding_all assumption) | exact gn _ 6 (by with_unfolding_all assumption) | exact gn _ 7 (by with_unfolding_all assumption) | exact gn _ 8 (by with_unfolding_all assumption) | exact gn _ 9 (by with_unfolding_all assumption) | exact gn _ 10 (by with_unfolding_all assumption) | exact gn _ 11 (by with_unfolding_all assumption) | exact gn _ 12 (by with_unfolding_all assumption) | exact gn _ 13 (by with_unfolding_all assumption) | exact gn _ 14 (by with_unfolding_all assumption) | exact gn _ 15 (by with_unfolding_all assumption) | exact gn _ 16 (by with_unfolding_all assumption) | exact gn _ 17 (by with_unfolding_all assumption) | exact gn _ 18 (by with_unfolding_all assumption) | exact gn _ 19 (by with_unfolding_all assumption))
local macro_rules | `(tactic| walk_at "T.g")=>`(tactic| first | walk_at "T.gn" | ((with_reducible refine' g_tupL ?a1);(case a1=>walk_at "T.gs")) )
local macro_rules | `(tactic| walk_at "T.gs")=>`(tactic| first | (with_reducible exact pgs_nil) | ((with_reducible refine' gs_cons ?a1 ?a2);(case a1=>walk_at "T.g");(case a2=>walk_at "T.gs")))
local macro_rules | `(tactic| walk_at "T.sc")=>`(tactic| fail "no comprehension's names")
local macro_rules | `(tactic| walk_at "T.st")=>`(tactic| first | ((with_reducible refine' ps_ret ?a1);(case a1=>walk_at "T.e")) | walk_at "T.sc" | ((with_reducible refine' s_asg ?a1 ?a2);(case a1=>walk_at "T.e");(case a2=>walk_at "T.g")) | ((with_reducible refine' s_expr ?a1);(case a1=>walk_at "T.e")) | ((with_reducible refine' ps_if ?a1 ?a2 ?a3);(case a1=>walk_at "T.t");(case a2=>walk_at "T.s");(case a3=>walk_at "T.s")) | ((with_reducible refine' s_for ?a1 ?a2 ?a3);(case a1=>walk_at "T.i");(case a2=>walk_at "T.g");(case a3=>walk_at "T.s")) | ((with_reducible refine' s_while ?a1 ?a2);(case a1=>walk_at "T.t");(case a2=>walk_at "T.s")) | (with_reducible exact s_raise))
local macro_rules | `(tactic| walk_at "T.s")=>`(tactic| first | (with_reducible exact pss_nil) | ((with_reducible refine' pss_one ?a1);(case a1=>walk_at "T.st")) | ((with_reducible refine' pss_cons ?a1 ?a2);(case a1=>walk_at "T.st");(case a2=>walk_at "T.s")))
local macro_rules | `(tactic| walk_at "T.pf")=>`(tactic| first | (with_reducible exact pf_nil) | ((with_reducible refine' pf_one ?a1);(case a1=>walk_at "T.t")))
local macro_rules | `(tactic| walk_at "T.top1")=>`(tactic| ((refine' pss_one ?a1);(case a1=>walk_at "T.st")))
local macro_rules | `(tactic| walk_at "T.top")=>`(tactic| ((refine' pss_cons ?a1 ?a2);(case a1=>walk_at "T.st");(case a2=>walk_at "T.s")))
section
namespace K41
open PySem L2
section
variable {P:Program} {w:World} {K:PySem.W.Frag} {mg:Str->Option Value} {base:Heap}
abbrev sTexts:Stmt:=top 15
def spTextsT (f:Addr) (spF:Sp):Sp:=fun vs H Q _=>match vs with
 | [.ref n0,.ref f']=>f'=f/\∃ (nx:List Bool×Nat->List (List Bool×Nat)) (x0:List Bool×Nat) (U:List Bool×Nat->Prop) (W:Hp->Prop),H n0=some (.tup [.str (bs x0.1),.int (x0.2:Nat)])/\(∀ H H',W H->Same H H'->W H')/\W H/\U x0/\(∀ x,U x->x.1.length<=7/\x.2 < 8/\(nx x).length<=8/\∀ y∈nx x,U y) ∧
   (∀ x b H Q,U x->H b=some (.tup [.str (bs x.1),.int (x.2:Nat)])->W H->(∀ l ps H',Same H H'->H l=none->H' l=some (.lst ps)->StpsT H' ps (nx x)->Q (.ref l) H')->spF [.ref b] H Q E0) ∧
   ∀ d o (kvs:List (List Key×V)) (xs:List (List Bool×Nat)) H',Same H H'->H d=none->H' d=some (.frz o (.dT kvs))->KS nkey kvs xs->(∀ x,x∈xs↔Om.RchG nx x0 x)->xs.length<=2048->Q (.ref d) H'
 | _=>False
theorem scTexts:FnScope ["start","steps","texts","queue","place","node","letter","to"] ["start","steps"] (defScope sTexts):=⟨rfl,rfl,rfl,by decide +kernel,rfl,by decide +kernel,by decide +kernel⟩
local macro_rules | `(tactic| walk_at "T.e")=>`(tactic| first | ((with_reducible refine' pe_dispT ?a0 ?a1 ?a2);(case a0=>exact Room.units (by assumption));(case a1=>walk_at "T.e");(case a2=>walk_at "T.e")) | ((with_reducible refine' ix_atD ?a0 ?a1 ?a2);(case a0=>exact Room.units (by assumption));(case a1=>walk_at "T.e");(case a2=>walk_at "T.e")))
local macro_rules | `(tactic| walk_at "T.cmp")=>`(tactic| ((with_reducible refine' op_notInDict ?a0);(case a0=>exact Room.units (by assumption))))
local macro_rules | `(tactic| walk_at "T.b")=>`(tactic| ((with_reducible refine' e_callF "steps" 1 ?a0 ?a9 ?a1 ?a2);(case a0=>with_reducible assumption);(case a9=>exact ⟨rfl,rfl,rfl,rfl,rfl⟩);(case a1=>exact Room.mono (by assumption) (Nat.le_refl _));(case a2=>walk_at "T.a")))
local macro_rules | `(tactic| walk_at "T.g")=>`(tactic| ((with_reducible refine' g_subD ?a0 ?a1 ?a2);(case a0=>exact Room.units (by assumption));(case a1=>walk_at "T.e");(case a2=>walk_at "T.e")))
local macro_rules | `(tactic| walk_at "T.st")=>`(tactic| first | ((with_reducible refine' s_retF ?a1);(case a1=>walk_at "T.e")) | ((with_reducible refine' s_aug "place" 4 ?b0 ?a1);(case b0=>with_unfolding_all assumption);(case a1=>walk_at "T.e")))
theorem ok_texts {f:Addr} {k:Nat} {p:Str} {spF:Sp} (D:FnX K mg "texts_from" sTexts ["start","steps"]) (g1:mg "len" = none) (c1:CanL P w K mg base f k p spF):Can P w K mg base "texts_from" (k+1) ["start","steps"] (spTextsT f spF):=by
 refine can_fn (k:=k) D scTexts (fun vs H Q E h=>?_) (fun f0 cdv A outer s H vs Q E hr h=>?_)
 all_goals
  unfold spTextsT at h
  split at h
 ·rfl
 ·exact h.elim
 ·rename_i n0 f'
  obtain ⟨rfl,nx,x0,U,W,hn0,Wm,hW,hU0,hU,hF,q⟩:=h
  have nd:=scTexts.nd
  refine ⟨_,(by walk_at "T.top"),?_⟩
  refine fun D hD=>⟨Nat.zero_le _,fun Z hZ=>⟨by rw [upd_ne (Ne.symm (upd_nn hZ).1)];exact upd_same,n0,nkey x0,rfl,?_,?_⟩⟩
  ·rw [upd_ne (ne_of_none hn0 (upd_nn hZ).2),upd_ne (ne_of_none hn0 hD)]
   exact hn0
  refine ⟨le_line (Nat.le_of_ble_eq_true rfl),fun Qa hQ=>?_⟩
  have G0:=Tt.start hD hZ hn0 hQ
  refine ⟨fun mm σ H2=>∃ (v5 v6 v7:Option V) (kvs:List (List Key×V)) (xs:List (List Bool×Nat)) (bz:List Addr) (c:Nat),σ=[some (.ref n0),some (.ref f'),some (.ref D),some (.ref Qa),some (.int (c:Nat)),v5,v6,v7]/\mm+c=2048/\Tt H H2 D Qa kvs xs bz/\(∀ x∈xs,U x)/\x0∈xs/\(∀ x∈xs,Om.RchG nx x0 x)/\c<=xs.length/\∀ (i:Nat) x,i < c->xs[i]? = some x->∀ y∈nx x,y∈xs,
   ⟨2048,none,none,none,_,[x0],[n0],0,rfl,rfl,G0,(fun x hx=>by rw [List.mem_singleton.mp hx];exact hU0),by simp,(fun s hs=>by rw [List.mem_singleton.mp hs];exact .z),Nat.zero_le _,fun i s h=>absurd h (Nat.not_lt_zero _)⟩,?_⟩
  rintro mm σ H2 ⟨v5,v6,v7,kvs,xs,bz,c,rfl,hmm,G,hlt,h0,hrc,cl,hdone⟩
  have few:∀ {zs:List (List Bool×Nat)},zs.Nodup->(∀ x∈zs,U x)->zs.length<=2048:=fun {zs} n h=>Om.few_nodes (m:=7) n fun x hx=>⟨(hU x (h x hx)).1,(hU x (h x hx)).2.1⟩
  have ql:=few G.kz.nd hlt
  refine ⟨_,lenL G.hQ,?_⟩
  dsimp only [rN0]
  rw [List.length_map,G.ql]
  refine ite2 (fun lt=>?_) (fun ge=>?_)
  ·have lt:c < xs.length:=by simpa using lt
   obtain ⟨x,hx⟩ : ∃ x,xs[c]? = some x:=⟨_,List.getElem?_eq_getElem lt⟩
   have xm:=List.mem_of_getElem? hx
   have xU:=hlt x xm
   obtain ⟨_,_,n8,nU⟩:=hU x xU
   obtain ⟨b,b1,b2⟩:=G.qt c x hx
   refine ⟨fun σ' H'=>∃ (v6 v7:Option V) (kvs:List (List Key×V)) (more:List (List Bool×Nat)) (bz:List Addr),σ'=[some (.ref n0),some (.ref f'),some (.ref D),some (.ref Qa),some (.int ((c:Nat)+1)),some (.ref b),v6,v7]/\Tt H H' D Qa kvs (xs++more) bz/\(∀ y∈more,U y/\Om.RchG nx x0 y)/\∀ y∈nx x,y∈xs++more,?_,?_⟩
   ·rintro σ' H' ⟨v6,v7,kvs,more,bz,rfl,G',hm',hd'⟩
    refine ⟨mm - 1,by omega,_,v6,v7,kvs,xs++more,bz,c+1,rfl,by omega,G',fun y hy=>?_,List.mem_append_left _ h0,fun y hy=>?_,by rw [List.length_append];omega,fun i y hi hy t ht=>?_⟩
    ·exact (List.mem_append.mp hy).elim (hlt y) fun z=>(hm' y z).1
    ·exact (List.mem_append.mp hy).elim (hrc y) fun z=>(hm' y z).2
    ·rw [List.getElem?_append_left (by omega)] at hy
     by_cases e:i=c
     ·subst e
      rw [hx] at hy
      cases hy
      exact hd' t ht
     ·exact List.mem_append_left _ (hdone i y (by omega) hy t ht)
   ·refine .inl ⟨.ref b,gl G.hQ (by omega) (by rw [List.getElem?_map,show ((c:Nat):Int).toNat=c by omega,b1];rfl),?_⟩
    refine ⟨rfl,hF x b _ _ xU b2 (Wm _ _ hW G.s) fun l ps H3 s3 nl hl st=>?_⟩
    have lD:l≠D:=Ne.symm (ne_of_none G.hD nl)
    have lQ:l≠Qa:=Ne.symm (ne_of_none G.hQ nl)
    refine ⟨⟨_,SqL.of hl⟩,for_by (it_list _ l ps) (fun i σ H4=>∃ (v6 v7:Option V) (kvs:List (List Key×V)) (more:List (List Bool×Nat)) (bz:List Addr),σ=[some (.ref n0),some (.ref f'),some (.ref D),some (.ref Qa),some (.int ((c:Nat)+1)),some (.ref b),v6,v7]/\Tt H H4 D Qa kvs (xs++more) bz/\(∀ y∈more,U y/\Om.RchG nx x0 y)/\H4 l=some (.lst ps)/\StpsT H4 ps (nx x)/\H4 b=some (.tup [.str (bs x.1),.int (x.2:Nat)])/\∀ (j:Nat) y,j < i->(nx x)[j]? = some y->y∈xs++more)
     ⟨v6,v7,kvs,[],bz,rfl,by rw [List.append_nil];exact G.mono s3,by simp,hl,st,s3 _ _ b2,fun j t h=>absurd h (Nat.not_lt_zero _)⟩ (fun i σ H4 _ ⟨_,_,_,_,_,_,_,_,h,_⟩=>SqL.of h) ?_ ?_⟩
    ·rintro i z σ H4 hi hz ⟨v6,v7,kvs,more,bz,rfl,G4,hm4,hl4,st4,b4,hd4⟩
     have hi':i < (nx x).length:=by rw [<-st4.1];exact hi
     obtain ⟨qa,za,e1,e2,e3⟩:=st4.2 i (nx x)[i] (List.getElem?_eq_getElem hi')
     rw [e1] at hz
     cases hz
     have ym:(nx x)[i]∈nx x:=List.getElem_mem hi'
     have yU:=nU _ ym
     generalize et:(nx x)[i]=y at e3 ym yU
     have ei:(nx x)[i]? = some y:=by rw [List.getElem?_eq_getElem hi',et]
     refine ⟨_,.inl e2,rfl,rfl,?_⟩
     refine ⟨D,_,rfl,DGet.t (k:=nkey y) G4.hD e3,?_⟩
     rw [G4.kz.has nkey_inj y]
     have l4:(xs++more).length<=2048:=few G4.kz.nd fun u hu=>(List.mem_append.mp hu).elim (hlt u) fun z=>(hm4 u z).1
     refine ite2 (fun c1=>?_) (fun c1=>?_)
     ·have nt:y ∉ xs++more:=by simpa using c1
      obtain ⟨t0,zs,w1,w2,w3,w4⟩:=G4.vl x (List.mem_append_left _ xm)
      refine .inr ⟨D,.ref t0,rfl,w1 ▸ DGet.t (k:=nkey x) G4.hD b4,?_⟩
      refine ⟨le_line (Nat.le_of_ble_eq_true rfl),fun B hB=>?_⟩
      have s5:Same H4 (upd H4 B (.lst [.int (i:Nat)])):=Same.upd hB
      refine ⟨zs,[.int (i:Nat)],s5 _ _ w2,upd_same,le_lineB (by simp;omega),fun Un hU=>?_⟩
      have s6:=s5.trans (Same.upd (o:=.lst (zs++[.int (i:Nat)])) hU)
      have G6:=G4.mono s6
      have UQ:Un≠Qa:=Ne.symm (ne_of_none (s5 _ _ G4.hQ) hU)
      have kl:=G6.kz.len
      refine .inr ⟨D,_,rfl,DPut.t (k:=nkey y) G6.hD (s6 _ _ e3) (lt_lineB (by omega)),?_⟩
      have DQ:D≠Qa:=ne_of G6.hD G6.hQ (fun z=>nomatch z)
      refine ⟨⟨_,rfl,by rw [upd_ne (Ne.symm DQ)];exact G6.hQ⟩,_,by rw [upd_ne (Ne.symm DQ)];exact G6.hQ,lt_lineB (by rw [List.length_map,G6.ql];omega),?_⟩
      have G7:=G6.put (u:=Un) (z:=za) (zs:=zs++[.int (i:Nat)]) nt upd_same UQ (by rw [List.length_append];exact Nat.add_le_add_right w3 1) (s6 _ _ e3)
      rw [List.append_assoc] at G7
      refine ⟨_,_,_,more++[y],_,rfl,G7,fun u hu=>?_,Tt.put_at (s6 _ _ hl4) lD lQ,⟨st4.1,fun j t' hj=>?_⟩,?_,fun j t' hj ht'=>?_⟩
      ·rcases List.mem_append.mp hu with z | z
       ·exact hm4 u z
       ·have:u=y:=by simpa using z
        subst this
        exact ⟨yU,.s (hrc x xm) ym⟩
      ·obtain ⟨qb,zb,a1,a2,a3⟩:=st4.2 j t' hj
       exact ⟨qb,zb,a1,Tt.put_at (s6 _ _ a2) (ne_of (s6 _ _ a2) G6.hD (fun z=>nomatch z)) (ne_of (s6 _ _ a2) G6.hQ (fun z=>nomatch z)),Tt.put_at (s6 _ _ a3) (ne_of (s6 _ _ a3) G6.hD (fun z=>nomatch z)) (ne_of (s6 _ _ a3) G6.hQ (fun z=>nomatch z))⟩
      ·exact Tt.put_at (s6 _ _ b4) (ne_of (s6 _ _ b4) G6.hD (fun z=>nomatch z)) (ne_of (s6 _ _ b4) G6.hQ (fun z=>nomatch z))
      ·rw [<-List.append_assoc]
       by_cases e:j=i
       ·subst e
        rw [ei] at ht'
        cases ht'
        exact List.mem_append_right _ (by simp)
       ·exact List.mem_append_left _ (hd4 j t' (by omega) ht')
     ·have nt:y∈xs++more:=by
       by_cases z:y∈xs++more
       ·exact z
       ·exact absurd (by simpa using z) c1
      refine ⟨_,_,kvs,more,bz,rfl,G4,hm4,hl4,st4,b4,fun j t' hj ht'=>?_⟩
      by_cases e:j=i
      ·subst e
       rw [ei] at ht'
       cases ht'
       exact nt
      ·exact hd4 j t' (by omega) ht'
    ·rintro σ H4 ⟨v6,v7,kvs,more,bz,rfl,G4,hm4,hl4,st4,b4,hd4⟩
     refine ⟨v6,v7,kvs,more,bz,rfl,G4,hm4,fun t ht=>?_⟩
     obtain ⟨j,hj⟩:=List.mem_iff_getElem?.mp ht
     have lj:=(List.getElem?_eq_some_iff.mp hj).1
     exact hd4 j t (by rw [st4.1];exact lj) hj
  ·have ge:xs.length<=c:=by
    by_cases z:c < xs.length
    ·exact absurd (by simpa using z) ge
    ·omega
   refine .inl ⟨_,G.hD,trivial,fun o=>?_⟩
   refine q D o kvs xs _ (fun b u e=>?_) hD upd_same G.kz (fun s=>⟨hrc s,Om.rchG_in h0 (fun a ha b hb=>?_) s⟩) ql
   ·rw [upd_ne (ne_of_none e hD)]
    exact G.s _ _ e
   ·obtain ⟨i,hi⟩:=List.mem_iff_getElem?.mp ha
    have li:=(List.getElem?_eq_some_iff.mp hi).1
    exact hdone i a (by omega) hi b hb
 ·exact h.elim
end
end K41
end
section
namespace K41
open PySem L2
section
variable {P:Program} {w:World} {K:PySem.W.Frag} {mg:Str->Option Value} {base:Heap}
abbrev sTailS:Stmt:=top 24
def spTailS:Sp:=fun vs H Q _=>match vs with
 | [cv,.ref nd,.int keep]=>∃ (k n:Nat) (rows:Om.Rows) (x:List Bool×Nat) (m:Nat),DV H cv (codeD k n rows)/\Om.CodeOk k n rows/\H nd=some (.tup [.str (bs x.1),.int (x.2:Nat)])/\x.2 < rows.length/\x.1.length<=7/\keep=(m:Nat) ∧
   ∀ l ps H',Same H H'->H l=none->H' l=some (.lst ps)->StpsT H' ps (Om.stepT rows m x)->Q (.ref l) H'
 | _=>False
theorem scTailS:FnScope ["code","node","keep","steps","letter","row","signs"] ["code","node","keep"] (defScope sTailS):=⟨rfl,rfl,rfl,by decide +kernel,rfl,by decide +kernel,by decide +kernel⟩
theorem ok_tailS (D:FnX K mg "tail_steps" sTailS ["code","node","keep"]) (g1:mg "enumerate" = none) (g2:mg "max" = none) (g3:mg "len" = none):Can P w K mg base "tail_steps" 1 ["code","node","keep"] spTailS:=by
 refine can_fn (k:=0) D scTailS (fun vs H Q E h=>?_) (fun f0 cdv A outer s H vs Q E hr h=>?_)
 all_goals
  unfold spTailS at h
  split at h
 ·rfl
 ·exact h.elim
 ·rename_i cv nda keep
  obtain ⟨k,n,rows,x,m,hc,ok,hn,hs,x7,rfl,q⟩:=h
  obtain ⟨a,b,ss,rfl,ha,hb,hss⟩:=code_inv hc
  obtain ⟨qx,rx,e1,e2,e3⟩:=state_at hss (s:=x.2) (st:=rows[x.2]) (List.getElem?_eq_getElem hs)
  have rl:rx.length=rows[x.2].length:=by rw [e3.length,List.length_map]
  have r8:rows[x.2].length<=8:=by rw [ok.len _ (List.getElem_mem hs)];exact Om.pow8 ok.k3
  have gx:Om.stepT rows m x=rows[x.2].map fun r=>(Om.lastN m (x.1++r.1),r.2):=by unfold Om.stepT;rw [List.getD_eq_getElem?_getD,List.getElem?_eq_getElem hs];rfl
  have nd:=scTailS.nd
  refine ⟨_,(by walk_at "T.top"),?_⟩
  refine ⟨Nat.zero_le _,fun L hL=>?_⟩
  have s0:Same H (upd H L (.lst [])):=Same.upd hL
  refine ⟨_,gt (s0 _ _ ha) (by decide) rfl,_,gt (s0 _ _ hn) (by decide) rfl,.ref qx,gl (s0 _ _ hb) (by omega) (by simpa using e1),⟨_,SqL.of (s0 _ _ e2)⟩,?_⟩
  refine for_pr (it_enumP _ qx rx) (fun i σ H2=>∃ (v4 v5 v6:Option V) (ps:List V),σ=[some (.ref a),some (.ref nda),some (.int (m:Nat)),some (.ref L),v4,v5,v6]/\Same H H2/\H2 L=some (.lst ps)/\StpsT H2 ps ((Om.stepT rows m x).take i))
   ⟨none,none,none,[],rfl,s0,upd_same,rfl,fun i t h=>by simp at h⟩ (fun i σ H2 _ ⟨_,_,_,_,_,s2,_⟩=>s2 _ _ e2) ?_ ?_
  ·rintro i t σ H2 hi ⟨v4,v5,v6,ps,rfl,s2,h2,st2⟩ ht
   have hi':i < rows[x.2].length:=by omega
   obtain ⟨r,r1,r2⟩:=row_at e3 (l:=i) (r:=rows[x.2][i]) (List.getElem?_eq_getElem hi')
   have er:rx.getD i .non = .ref r:=by rw [List.getD_eq_getElem?_getD,r1];rfl
   have okr:=ok.row _ (List.getElem_mem hs) _ (List.getElem_mem hi')
   have n6:=ok.n6
   rw [er]
   have s3:=s2.trans (Same.upd (o:=.tup [.int (i:Nat),.ref r]) ht)
   refine ⟨_,.inl upd_same,rfl,rfl,?_⟩
   refine ⟨_,gt (s3 _ _ hn) (by decide) rfl,_,gt (s3 _ _ r2) (by decide) rfl,by rw [bs_len,bs_len];exact le_line (by omega),?_⟩
   rw [bs_app]
   have wl:(x.1++rows[x.2][i].1).length=x.1.length+n:=by rw [List.length_append,okr.1]
   generalize hwd:x.1++rows[x.2][i].1=wd at wl ⊢
   have h3:upd H2 t (.tup [.int (i:Nat),.ref r]) L=some (.lst ps):=Same.upd ht _ _ h2
   refine ⟨⟨_,rfl,h3⟩,_,lenS (le_line (by omega)),?_⟩
   have z0:(if (0:Int) < (wd.length:Int) - (m:Nat) then (wd.length:Int) - (m:Nat) else 0)=((wd.length - m:Nat):Int):=by
    split<;>omega
   have z1:Txt.slice (bs wd) (some ((wd.length - m:Nat):Int)) none=bs (Om.lastN m wd):=by
    rw [bs_fromZ (by omega) (by omega)]
    rfl
   refine ⟨by rw [bs_len];exact le_line (by omega),_,gt (s3 _ _ r2) (by decide) rfl,le_line (Nat.le_of_ble_eq_true rfl),fun z hz=>?_⟩
   have z2:Txt.slice (bs wd) (some (if (wd.length:Int) - (m:Nat) > 0 then (wd.length:Int) - (m:Nat) else 0)) none=bs (Om.lastN m wd):=by
    rw [<-z1,<-z0]
   rw [z2]
   have s4:=s3.trans (Same.upd (o:=.tup [.str (bs (Om.lastN m wd)),.int (rows[x.2][i].2:Nat)]) hz)
   refine ⟨le_line (Nat.le_of_ble_eq_true rfl),fun p hp=>?_⟩
   have s5:=s4.trans (Same.upd (o:=.tup [.int (i:Nat),.ref z]) hp)
   have h5:upd (upd (upd H2 t (.tup [.int (i:Nat),.ref r])) z (.tup [.str (bs (Om.lastN m wd)),.int (rows[x.2][i].2:Nat)])) p (.tup [.int (i:Nat),.ref z]) L=some (.lst ps):=Same.upd hp _ _ (Same.upd hz _ _ h3)
   have il:ps.length=i:=by rw [st2.1,List.length_take,gx,List.length_map];omega
   refine ⟨_,h5,lt_line (by omega),?_⟩
   refine ⟨_,_,_,ps++[.ref p],rfl,s5.own hL,upd_same,?_,fun j y hj=>?_⟩
   ·rw [List.length_append,il,List.length_take,gx,List.length_map]
    simp
    omega
   ·have jl:j < i+1:=by
     have:=(List.getElem?_eq_some_iff.mp hj).1
     rw [List.length_take] at this
     omega
    rw [List.getElem?_take_of_lt jl] at hj
    have off:∀ {b:Addr} {ys:List V},upd (upd (upd H2 t (.tup [.int (i:Nat),.ref r])) z (.tup [.str (bs (Om.lastN m wd)),.int (rows[x.2][i].2:Nat)])) p (.tup [.int (i:Nat),.ref z]) b=some (.tup ys)->upd (upd (upd (upd H2 t (.tup [.int (i:Nat),.ref r])) z (.tup [.str (bs (Om.lastN m wd)),.int (rows[x.2][i].2:Nat)])) p (.tup [.int (i:Nat),.ref z])) L (.lst (ps++[.ref p])) b=some (.tup ys):=fun {b ys} e=>by
     rw [upd_ne (ne_of e h5 (fun z=>nomatch z))]
     exact e
    by_cases e:j=i
    ·subst e
     have ey:y=(Om.lastN m wd,rows[x.2][j].2):=by
      rw [gx,List.getElem?_map,List.getElem?_eq_getElem hi'] at hj
      rw [<-hwd]
      exact (Option.some.inj hj).symm
     subst ey
     exact ⟨p,z,by rw [List.getElem?_append_right (by omega),il];simp,off upd_same,off (by rw [upd_ne (ne_of_none upd_same hp)];exact upd_same)⟩
    ·obtain ⟨q',z',a1,a2,a3⟩:=st2.2 j y (by rw [List.getElem?_take_of_lt (by omega)];exact hj)
     exact ⟨q',z',by rw [List.getElem?_append_left (by omega)];exact a1,off (Same.upd hp _ _ (Same.upd hz _ _ (Same.upd ht _ _ a2))),off (Same.upd hp _ _ (Same.upd hz _ _ (Same.upd ht _ _ a3)))⟩
  ·rintro σ H2 ⟨v4,v5,v6,ps,rfl,s2,h2,st2⟩
   rw [List.take_of_length_le (by rw [gx,List.length_map];omega)] at st2
   exact q L ps _ s2 hL h2 st2
 ·exact h.elim
end
end K41
end
section
namespace K41
open PySem L2
section
variable {P:Program} {w:World} {K:PySem.W.Frag} {mg:Str->Option Value} {base:Heap}
abbrev sTails:Stmt:=top 23
abbrev lamTb:Expr:=callArg 1 (callArg 0 (retE (.Name "" ⟨0,0,0,0⟩) ((defBody sTails).getD 0 (.Pass ⟨0,0,0,0⟩))))
abbrev qTb:Str:=("tails_behind"++".<locals>." : Str)++"<lambda>"
def spLamTb (c:Addr) (fvs:List V):Sp:=fun vs H Q _=>match vs with
 | [.ref nd]=>∃ (k n:Nat) (rows:Om.Rows) (cv:V) (m:Nat) (x:List Bool×Nat),fvs=[cv,.int (m:Nat)]/\DV H cv (codeD k n rows)/\Om.CodeOk k n rows/\H nd=some (.tup [.str (bs x.1),.int (x.2:Nat)])/\x.2 < rows.length/\x.1.length<=7/\H c=some (CodeO c qTb) ∧
   ∀ l ps H',Same H H'->H l=none->H' l=some (.lst ps)->StpsT H' ps (Om.stepT rows m x)->Q (.ref l) H'
 | _=>False
theorem lam_tb {f c:Addr} {fvs:List V} (L:LamIn base f (lamArgs lamTb) (lamBody lamTb) (lamScope lamTb) qTb c ["code","keep"] fvs) (hl:["code","keep"].length=fvs.length) (c1:Can P w K mg base "tail_steps" 1 ["code","node","keep"] spTailS):CanL P w K mg base f 2 "node" (spLamTb c fvs):=by
 refine lam_ok (k:=1) L ⟨rfl,rfl,rfl,rfl,by decide +kernel,by decide +kernel⟩ hl (fun _ _ _ _=>rfl) (fun vs H Q E h=>?_) (fun clos A outer s H v Q E hr h=>?_)
 ·unfold spLamTb at h
  split at h
  ·rfl
  ·exact h.elim
 ·unfold spLamTb at h
  split at h
  ·rename_i nda hv
   cases hv
   obtain ⟨k,n,rows,cv,m,x,rfl,hc,ok,hn,hx,x7,hcd,q⟩:=h
   refine ⟨hcd,_,(by (refine' fn_can "tail_steps" ?a0 ?a9 ?a1 ?a2);(case a0=>with_reducible assumption);(case a9=>exact ⟨rfl,rfl,rfl,rfl,rfl⟩);(case a1=>exact Room.mono (by assumption) (Nat.le_refl _));(case a2=>walk_at "T.a")),?_⟩
   exact ⟨k,n,rows,x,m,hc,ok,hn,hx,x7,rfl,q⟩
  ·rename_i hv
   exact h.elim
end
section
variable {P:Program} {w:World} {K:PySem.W.Frag} {mg:Str->Option Value} {base:Heap}
def spTails (P0:Addr):Sp:=fun vs H Q _=>match vs with
 | [cv,.str st,.int keep]=>∃ (k n:Nat) (rows:Om.Rows) (m:Nat) (s0:List Bool),st=bs s0/\s0.length<=m/\keep=(m:Nat)/\m<=7/\DV H cv (codeD k n rows)/\Om.CodeOk k n rows/\Tab P0 (lamPos lamTb) qTb H ∧
   ∀ l (xs:List (List Bool×Nat)) (bz:List Addr) H',SameT P0 H H'->Tab P0 (lamPos lamTb) qTb H'->H l=none->H' l=some (.lst (bz.map V.ref))->bz.length=xs.length->(∀ (i:Nat) x,xs[i]? = some x->∃ b,bz[i]? = some b/\H' b=some (.tup [.str (bs x.1),.int (x.2:Nat)])) →
    (∀ x,x∈xs↔Om.RchG (Om.stepT rows m) (s0,0) x)->xs.length<=2048->Q (.ref l) H'
 | _=>False
theorem scTails:FnScope ["code","start","keep"] ["code","start","keep"] (defScope sTails):=⟨rfl,rfl,rfl,by decide +kernel,rfl,by decide +kernel,by decide +kernel⟩
theorem ok_tails {c P0:Addr} (D:FnC K mg "tails_behind" sTails ["code","start","keep"] c) (D2:FnX K mg "texts_from" sTexts ["start","steps"]) (g1:mg "len" = none) (g2:mg "list" = none) (c1:∀ base,Can P w K mg base "tail_steps" 1 ["code","node","keep"] spTailS) (M:Maker mg base c P0) :
  Can P w K mg base "tails_behind" 4 ["code","start","keep"] (spTails P0):=by
 refine can_fnC (k:=3) D scTails (fun vs H Q E h=>?_) (fun f A outer s H vs Q E hr h=>?_)
 all_goals
  unfold spTails at h
  split at h
 ·rfl
 ·exact h.elim
 ·rename_i cv st0 keep
  obtain ⟨k,n,rows,m,sb,rfl,sb7,rfl,m7,hc,ok,tb,q⟩:=h
  have hm:∃ f,mg "texts_from" = some (.ref f)/\PySem.W.keepIn K (.ref f)=true:=by
   obtain ⟨f,fd,F,hm,_⟩:=D2
   exact ⟨f,hm,F.kp⟩
  have hf0:∀ y∈(lamScope lamTb).names,y.2 = .free->(defScope sTails).names.lookup y.1=some .cell:=by decide +kernel
  have nd:=scTails.nd
  refine ⟨_,(by
   refine' pss_one ?a1
   case a1=>
    refine' ps_ret ?a2
    case a2=>
     refine' fn_listD ?b0 ?b9 ?b1
     case b0=>with_reducible assumption
     case b9=>rfl
     case b1=>
      refine' a_cons ?c1 ?c2
      case c2=>exact pa_nil
      case c1=>
       refine' e_lamcall "texts_from" (F:=["code","keep"]) (js:=[0,2]) (k:=3) (ps:=["start","steps"]) (sp:=fun f c fvs=>spTextsT f (spLamTb c fvs)) hm M rfl ?hF rfl ?hFs (fun _=>rfl) ?hfree ?hC hr ?ha ?hg rfl rfl ?he
       case hF=>
        intro i y h
        match i,h with
        | 0,h=>cases h;exact ⟨0,rfl,rfl,by kernel_rfl⟩
        | 1,h=>cases h;exact ⟨2,rfl,rfl,by kernel_rfl⟩
        | i+2,h=>simp at h
       case hFs=>decide +kernel
       case hfree=>exact hf0
       case hC=>exact fun B f c' fvs m0 kb hl L=>ok_texts D2 g1 (lam_tb L hl (c1 B))
       case ha=>
        refine' pe_tup ?d1
        case d1=>walk_at "T.a"
       case hg=>kernel_rfl
       case he=>kernel_rfl),?_⟩
  refine ⟨le_line (Nat.le_of_ble_eq_true rfl),fun n0 hn0=>?_⟩
  have s0:Same H (upd H n0 (.tup [.str (bs sb),.int 0])):=Same.upd hn0
  refine ⟨tb.mono s0,[cv,.int (m:Nat)],rfl,fun f' c' H2 sm e1 e2 nf=>?_⟩
  have nP:n0≠P0:=fun z=>by obtain ⟨ps,e⟩:=tb.tbl;rw [z,e] at hn0;cases hn0
  refine ⟨rfl,Om.stepT rows m,(sb,0),fun x=>x.1.length<=m/\x.2 < rows.length,fun H=>DV H cv (codeD k n rows)/\H c'=some (CodeO c' qTb),sm _ _ nP upd_same,fun H H' ⟨a,b⟩ s=>⟨a.mono s,s _ _ b⟩,⟨(hc.mono s0).monoT (tb.mono s0) sm,e2⟩,⟨sb7,ok.s1⟩,fun x hx=>?_,
   fun x b H Q hx hb ⟨a,e⟩ h=>⟨k,n,rows,cv,m,x,rfl,a,ok,hb,hx.2,by have:=hx.1;omega,e,h⟩,fun d o kvs xs H' s' nd hd ks hr8 l8=>?_⟩
  ·obtain ⟨h1,h2⟩:=hx
   have r8:=ok.s8
   have e:rows.getD x.2 []=rows[x.2]:=by rw [List.getD_eq_getElem?_getD,List.getElem?_eq_getElem h2];rfl
   refine ⟨by omega,by omega,?_,fun y hy=>?_⟩
   ·unfold Om.stepT
    rw [List.length_map,e,ok.len _ (List.getElem_mem h2)]
    exact Om.pow8 ok.k3
   ·obtain ⟨r,hr,rfl⟩:=List.mem_map.mp hy
    exact ⟨Om.lastN_le _ _,(Om.row_in ok hr).2.1⟩
  ·refine .inr (.inl ⟨o,kvs,hd,fun bz l kb hl=>?_⟩)
   have t':Tab P0 (lamPos lamTb) qTb H':=.inr ⟨c',s' _ _ e1,s' _ _ e2⟩
   have st:SameT P0 H (upd H' l (.lst (bz.map V.ref))):=(s0.t.trans sm).trans (s'.t.trans (Same.upd hl).t)
   have kl:bz.length=kvs.length:=(Paired.length kb).symm
   refine q l xs bz _ st (t'.mono (Same.upd hl)) (((s0.t.trans sm).trans s'.t).free hl fun z=>by obtain ⟨ps,e⟩:=t'.tbl;rw [z,e] at hl;cases hl) upd_same (by rw [kl,ks.len]) (fun i x hx=>?_) hr8 l8
   obtain ⟨b,b1,b2⟩:=keys_get kb ks hx
   exact ⟨b,b1,Same.upd hl _ _ b2⟩
 ·exact h.elim
end
end K41
end
section
namespace K41
open PySem L2
section
variable {P:Program} {w:World} {K:PySem.W.Frag} {mg:Str->Option Value} {base:Heap}
abbrev sStand:Stmt:=top 22
def spStand (P0:Addr):Sp:=fun vs H Q _=>match vs with
 | [cv,.int len]=>∃ (k n:Nat) (rows:Om.Rows) (L:Nat),len=(L:Nat)/\1<=L/\L<=8/\DV H cv (codeD k n rows)/\Om.CodeOk k n rows/\Tab P0 (lamPos lamTb) qTb H ∧
   ∀ d o (kvs:List (Key×V)) (us:List (List Bool)) H',SameT P0 H H'->Tab P0 (lamPos lamTb) qTb H'->H d=none->H' d=some (.frz o (.dK kvs))->KS tk kvs us->(∀ u,u∈us↔u.length=L/\Om.Fac rows u)->Q (.ref d) H'
 | _=>False
theorem scStand:FnScope ["code","length","found","tail","state","row","signs","place"] ["code","length"] (defScope sStand):=⟨rfl,rfl,rfl,by decide +kernel,rfl,by decide +kernel,by decide +kernel⟩
local macro_rules | `(tactic| walk_at "T.e")=>`(tactic| (with_reducible exact pe_dnewK))
local macro_rules | `(tactic| walk_at "T.g")=>`(tactic| ((with_reducible refine' g_subD ?a0 ?a1 ?a2);(case a0=>exact Room.units (by assumption));(case a1=>walk_at "T.e");(case a2=>walk_at "T.e")))
local macro_rules | `(tactic| walk_at "T.st")=>`(tactic| ((with_reducible refine' s_retF ?a1);(case a1=>walk_at "T.e")))
theorem ok_stand {P0:Addr} (D:FnX K mg "standing" sStand ["code","length"]) (g1:mg "len" = none) (g2:mg "range" = none) (c1:Can P w K mg base "tails_behind" 4 ["code","start","keep"] (spTails P0)):Can P w K mg base "standing" 5 ["code","length"] (spStand P0):=by
 refine can_fn (k:=4) D scStand (fun vs H Q E h=>?_) (fun f0 cdv A outer s H vs Q E hr h=>?_)
 all_goals
  unfold spStand at h
  split at h
 ·rfl
 ·exact h.elim
 ·rename_i cv len
  obtain ⟨k,n,rows,L,rfl,l1,l8,hc,ok,tb,q⟩:=h
  have nd:=scStand.nd
  refine ⟨_,(by walk_at "T.top"),?_⟩
  intro D hD
  have s0:Same H (upd H D (.dK [])):=Same.upd hD
  have DP:D≠P0:=fun z=>by obtain ⟨ps,e⟩:=tb.tbl;rw [z,e] at hD;cases hD
  have e1:((L:Nat):Int) - 1=((L - 1:Nat):Int):=by omega
  refine ⟨k,n,rows,L - 1,[],rfl,Nat.zero_le _,e1,by omega,hc.mono s0,ok,tb.mono s0,fun l xs bz H2 s2 t2 nl hl bl hb hx x2=>?_⟩
  have hc2:=(hc.mono s0).monoT (tb.mono s0) s2
  obtain ⟨a,b,ss,rfl,ha,hbb,hss⟩:=code_inv hc2
  have D2:H2 D=some (.dK []):=s2 _ _ DP upd_same
  have G0:Ds H2 H2 D [] [] L (fun _=>False):=⟨SameT.refl _ _,D2,KS.nil,(fun u hu=>nomatch hu),fun u=>by simp⟩
  have lD:l≠D:=ne_of hl D2 (fun z=>nomatch z)
  have tn:∀ {c:Addr} {ys:List V},H2 c=some (.tup ys)->c≠D:=fun {c ys} h=>ne_of h D2 (fun z=>nomatch z)
  have ln:∀ {c:Addr} {ys:List V},H2 c=some (.lst ys)->c≠D:=fun {c ys} h=>ne_of h D2 (fun z=>nomatch z)
  refine ⟨⟨_,SqL.of hl⟩,for_by (it_list _ l (bz.map V.ref)) (fun i σ H3=>∃ (v3 v4 v5 v6 v7:Option V) (kvs:List (Key×V)) (us:List (List Bool)),σ=[some (.ref a),some (.int (L:Nat)),some (.ref D),v3,v4,v5,v6,v7]/\Ds H2 H3 D kvs us L (fun u=>∃ (j:Nat) (x r:List Bool×Nat),j < i/\xs[j]? = some x/\r∈rows.getD x.2 []/\∃ p q,x.1++r.1=p++u++q/\u.length=L))
   ⟨none,none,none,none,none,[],[],rfl,G0.cong fun u=>⟨fun z=>z.elim,fun ⟨j,_,_,h,_⟩=>absurd h (Nat.not_lt_zero _)⟩⟩ (fun i σ H3 _ ⟨_,_,_,_,_,_,_,_,g⟩=>SqL.of (g.at hl lD)) ?_ ?_⟩
  ·rintro i z σ H3 hi hz ⟨v3,v4,v5,v6,v7,kvs,us,rfl,G⟩
   rw [List.length_map] at hi
   have hi':i < xs.length:=by omega
   obtain ⟨bb,b1,b2⟩:=hb i xs[i] (List.getElem?_eq_getElem hi')
   rw [List.getElem?_map,b1] at hz
   cases hz
   have xr:=(hx _).mp (List.getElem_mem hi')
   have exi:xs[i]? = some xs[i]:=List.getElem?_eq_getElem hi'
   generalize ex:xs[i]=x at b2 xr exi
   obtain ⟨w0,hw0,ew0⟩:=Om.rchT_iff.mp xr
   have xl:x.2 < rows.length:=hw0.lt ok ok.s1
   have x7:x.1.length<=7:=by rw [ew0];exact Nat.le_trans (Om.lastN_le _ _) (by omega)
   obtain ⟨qx,rx,f1,f2,f3⟩:=state_at hss (s:=x.2) (st:=rows[x.2]) (List.getElem?_eq_getElem xl)
   have rl:rx.length=rows[x.2].length:=by rw [f3.length,List.length_map]
   have r8:rows[x.2].length<=8:=by rw [ok.len _ (List.getElem_mem xl)];exact Om.pow8 ok.k3
   have eg:rows.getD x.2 []=rows[x.2]:=by rw [List.getD_eq_getElem?_getD,List.getElem?_eq_getElem xl];rfl
   refine ⟨_,.inl (G.at b2 (tn b2)),rfl,rfl,?_⟩
   refine ⟨_,gt (G.at ha (tn ha)) (by decide) rfl,.ref qx,gl (G.at hbb (ln hbb)) (by omega) (by simpa using f1),⟨_,SqL.of (G.at f2 (ln f2))⟩,?_⟩
   refine for_by (it_list _ qx rx) (fun j σ H4=>∃ (v5 v6 v7:Option V) (kvs:List (Key×V)) (us:List (List Bool)),σ=[some (.ref a),some (.int (L:Nat)),some (.ref D),some (.str (bs x.1)),some (.int (x.2:Nat)),v5,v6,v7] ∧
     Ds H2 H4 D kvs us L (fun u=>(∃ (j:Nat) (x r:List Bool×Nat),j < i/\xs[j]? = some x/\r∈rows.getD x.2 []/\∃ p q,x.1++r.1=p++u++q/\u.length=L)\/∃ j' r,j' < j/\rows[x.2][j']? = some r/\∃ p q,x.1++r.1=p++u++q/\u.length=L))
    ⟨v5,v6,v7,kvs,us,rfl,G.cong fun u=>⟨.inl,fun z=>z.elim id fun ⟨_,_,h,_⟩=>absurd h (Nat.not_lt_zero _)⟩⟩ (fun j σ H4 _ ⟨_,_,_,_,_,_,g⟩=>SqL.of (g.at f2 (ln f2))) ?_ ?_
   ·rintro j y σ H4 hj hy ⟨v5,v6,v7,kvs,us,rfl,G4⟩
    have hj':j < rows[x.2].length:=by omega
    obtain ⟨r,r1,r2⟩:=row_at f3 (l:=j) (r:=rows[x.2][j]) (List.getElem?_eq_getElem hj')
    rw [hy] at r1
    cases r1
    have okr:=ok.row _ (List.getElem_mem xl) _ (List.getElem_mem hj')
    have n6:=ok.n6
    refine ⟨_,gt (G4.at r2 (tn r2)) (by decide) rfl,by rw [bs_len,bs_len];exact le_line (by omega),?_⟩
    rw [bs_app]
    have wl:(x.1++rows[x.2][j].1).length=x.1.length+n:=by rw [List.length_append,okr.1]
    have er:rows[x.2][j]? = some rows[x.2][j]:=List.getElem?_eq_getElem hj'
    generalize hwd:x.1++rows[x.2][j].1=wd at wl ⊢
    refine ⟨_,lenS (le_line (by omega)),by omega,by omega,?_⟩
    have cnt:((wd.length:Int) - (L:Nat)+1).toNat=wd.length+1 - L:=by omega
    rw [cnt]
    refine for_by (it_range 0 _) (fun m σ H5=>∃ (v7:Option V) (kvs:List (Key×V)) (us:List (List Bool)),σ=[some (.ref a),some (.int (L:Nat)),some (.ref D),some (.str (bs x.1)),some (.int (x.2:Nat)),some (.ref r),some (.str (bs wd)),v7] ∧
     Ds H2 H5 D kvs us L (fun u=>((∃ (j:Nat) (x r:List Bool×Nat),j < i/\xs[j]? = some x/\r∈rows.getD x.2 []/\∃ p q,x.1++r.1=p++u++q/\u.length=L)\/∃ j' r,j' < j/\rows[x.2][j']? = some r/\∃ p q,x.1++r.1=p++u++q/\u.length=L)\/∃ m',m' < m/\u=(wd.drop m').take L))
     ⟨v7,kvs,us,rfl,G4.cong fun u=>⟨.inl,fun z=>z.elim id fun ⟨_,h,_⟩=>absurd h (Nat.not_lt_zero _)⟩⟩ (fun _ _ _ _ _=>trivial) ?_ ?_
    ·rintro m z σ H5 hm hz ⟨v7,kvs,us,rfl,G5⟩
     rw [List.length_map,List.length_range] at hm
     have ez:z=V.int (m:Nat):=by
      rw [List.getElem?_map,List.getElem?_range hm] at hz
      have:=Option.some.inj hz
      rw [<-this];simp
     subst ez
     have z2:Txt.slice (bs wd) (some (m:Int)) (some ((m:Int)+(L:Nat)))=bs ((wd.drop m).take L):=by
      rw [bs_mid (by omega) (by omega) (by omega)]
      congr 2
      omega
     have kl:=G5.few (m:=8) l8
     refine ⟨by rw [bs_len];exact le_line (by omega),.inr ⟨D,upd H5 D (.dK (putK kvs (tk ((wd.drop m).take L)) (.bl true))),rfl,by rw [z2];exact DPut.k (k:=tk ((wd.drop m).take L)) G5.hD (lt_line (Nat.le_trans kl (by decide))),?_⟩⟩
     refine ⟨_,_,_,rfl,(G5.put (by rw [List.length_take,List.length_drop];omega)).cong fun u=>?_⟩
     rw [or_assoc]
     refine or_congr Iff.rfl ⟨?_,?_⟩
     ·rintro (⟨m',h,e⟩ | e)
      ·exact ⟨m',by omega,e⟩
      ·exact ⟨m,by omega,e⟩
     ·rintro ⟨m',h,e⟩
      by_cases em:m'=m
      ·subst em;exact .inr e
      ·exact .inl ⟨m',by omega,e⟩
    ·rintro σ H5 ⟨v7,kvs,us,rfl,G5⟩
     rw [List.length_map,List.length_range] at G5
     refine ⟨_,_,_,kvs,us,rfl,G5.cong fun u=>?_⟩
     rw [or_assoc]
     refine or_congr Iff.rfl ⟨?_,?_⟩
     ·rintro (⟨j',r',h,e⟩ | ⟨m',h,e⟩)
      ·exact ⟨j',r',by omega,e⟩
      ·obtain ⟨p,q',e1,e2⟩:=Om.fac_idx.mp ⟨m',by omega,e⟩
       exact ⟨j,_,by omega,er,p,q',hwd.trans e1,e2⟩
     ·rintro ⟨j',r',h,e,p,q',e1,e2⟩
      by_cases ej:j'=j
      ·subst ej
       rw [er] at e
       cases e
       obtain ⟨m',h1,h2⟩:=Om.fac_idx.mpr ⟨p,q',hwd.symm.trans e1,e2⟩
       exact .inr ⟨m',by omega,h2⟩
      ·exact .inl ⟨j',r',by omega,e,p,q',e1,e2⟩
   ·rintro σ H4 ⟨v5,v6,v7,kvs,us,rfl,G4⟩
    refine ⟨_,_,_,_,_,kvs,us,rfl,G4.cong fun u=>⟨?_,?_⟩⟩
    ·rintro (⟨j',x',r',h,e⟩ | ⟨j',r',h,e,e'⟩)
     ·exact ⟨j',x',r',by omega,e⟩
     ·exact ⟨i,x,r',by omega,exi,by rw [eg];exact List.mem_of_getElem? e,e'⟩
    ·rintro ⟨j',x',r',h,e,e',e''⟩
     by_cases ej:j'=i
     ·subst ej
      rw [exi] at e
      cases e
      rw [eg] at e'
      obtain ⟨j2,hj2⟩:=List.mem_iff_getElem?.mp e'
      exact .inr ⟨j2,r',by rw [rl];exact (List.getElem?_eq_some_iff.mp hj2).1,hj2,e''⟩
     ·exact .inl ⟨j',x',r',by omega,e,e',e''⟩
  ·rintro σ H3 ⟨v3,v4,v5,v6,v7,kvs,us,rfl,G⟩
   refine .inl ⟨_,G.hD,trivial,fun o=>?_⟩
   rw [List.length_map] at G
   have t3:Tab P0 (lamPos lamTb) qTb (upd H3 D (.frz o (.dK kvs))):=by
    rcases t2 with e | ⟨c',e1,e2⟩
    ·exact .inl (by rw [upd_ne (Ne.symm DP)];exact G.at e (Ne.symm DP))
    ·have cD:c'≠D:=ne_of e2 D2 (fun z=>nomatch z)
     exact .inr ⟨c',by rw [upd_ne (Ne.symm DP)];exact G.at e1 (Ne.symm DP),by rw [upd_ne cD];exact G.at e2 cD⟩
   refine q D o kvs us _ (fun c u n e=>?_) t3 hD upd_same G.kz fun u=>?_
   ·have cD:=ne_of_none e hD
    rw [upd_ne cD]
    exact G.at (s2 _ _ n (s0 _ _ e)) cD
   ·rw [G.iff,<-Om.stand_iff l1]
    unfold Om.Stand
    constructor
    ·rintro ⟨j,x,r,h,e,hr',p,q',e1,e2⟩
     exact ⟨x.1,x.2,r,p,q',(hx x).mp (List.mem_of_getElem? e),hr',e1,e2⟩
    ·rintro ⟨t,s,r,p,q',h,hr',e1,e2⟩
     obtain ⟨j,hj⟩:=List.mem_iff_getElem?.mp ((hx (t,s)).mpr h)
     exact ⟨j,(t,s),r,by rw [bl];exact (List.getElem?_eq_some_iff.mp hj).1,hj,hr',p,q',e1,e2⟩
 ·exact h.elim
end
end K41
end
section
namespace K41
open PySem L2
section
variable {P:Program} {w:World} {K:PySem.W.Frag} {mg:Str->Option Value} {base:Heap}
abbrev sMark:Stmt:=top 20
def spMark (P0:Addr):Sp:=fun vs H Q _=>match vs with
 | [cv,t]=>(∃ (k n:Nat) (rows:Om.Rows) (u:List Bool),t = .str (bs u)/\1<=u.length/\u.length<=8/\DV H cv (codeD k n rows)/\Om.CodeOk k n rows/\Tab P0 (lamPos lamTb) qTb H ∧
   ∀ (b:Bool) H',SameT P0 H H'->Tab P0 (lamPos lamTb) qTb H'->(b=true↔¬ Om.Fac rows u)->Q (.bl b) H') ∨
  (∃ Tx,tyN H t=some Tx/\Tx≠"str"/\Q (.bl false) H)\/∃ z:Str,t = .str z/\z.length<=100/\(z.length=0\/8 < z.length\/Txt.stripChars z ("01" : Str)≠("" : Str))/\Q (.bl false) H
 | _=>False
theorem scMark:FnScope ["code","thing"] ["code","thing"] (defScope sMark):=⟨rfl,rfl,rfl,by decide +kernel,rfl,by decide +kernel,by decide +kernel⟩
local macro_rules | `(tactic| walk_at "T.e")=>`(tactic| ((with_reducible refine' e_gint ?a0 ?a9);(case a0=>assumption);(case a9=>rfl)))
local macro_rules | `(tactic| walk_at "T.cmp")=>`(tactic| ((with_reducible refine' op_notInDict ?a0);(case a0=>exact Room.units (by assumption))))
theorem ok_mark {P0:Addr} (D:FnX K mg "is_mark" sMark ["code","thing"]) (g1:mg "len" = none) (g2:mg "isinstance" = none) (g3:mg "str" = none) (g4:∃ tk,mg "LONGEST" = some (.int 8 tk)) (c1:Can P w K mg base "standing" 5 ["code","length"] (spStand P0)):Can P w K mg base "is_mark" 6 ["code","thing"] (spMark P0):=by
 refine can_fn (k:=5) D scMark (fun vs H Q E h=>?_) (fun f0 cdv A outer s H vs Q E hr h=>?_)
 all_goals
  unfold spMark at h
  split at h
 ·rfl
 ·exact h.elim
 ·rename_i cv t
  have nd:=scMark.nd
  refine ⟨_,(by walk_at "T.top"),?_⟩
  rcases h with ⟨k,n,rows,u,rfl,u1,u8,hc,ok,tb,q⟩ | ⟨Tx,ht,ns,q⟩ | ⟨z,rfl,z100,hz,q⟩
  ·refine ⟨"str",rfl,by decide,?_⟩
   refine ite2 (fun z=>absurd z (by decide)) (fun _=>?_)
   refine ⟨_,lenS (le_line (by omega)),?_⟩
   refine ite2 (fun _=>?_) (fun z=>absurd (decide_eq_true (by omega)) z)
   refine ite2 (fun z=>absurd z (by rw [decide_eq_true (by omega)];decide)) (fun _=>?_)
   refine ⟨rfl,by rw [bs_len];exact le_line (by omega),?_⟩
   refine ite2 (fun z=>absurd z (by rw [decide_eq_true (show Txt.stripChars (bs u) ("01" : Str)=("" : Str) by rw [strip01,bs_nil])];decide)) (fun _=>?_)
   refine ⟨_,lenS (le_line (by omega)),k,n,rows,u.length,rfl,u1,u8,hc,ok,tb,fun d o kvs us H' s1 t1 nd hd ks iff=>?_⟩
   refine ⟨d,_,rfl,.inl ⟨kvs,tk u,.inr ⟨o,hd⟩,rfl,rfl⟩,?_⟩
   rw [ks.has tk_inj u]
   refine q _ _ s1 t1 ?_
   rw [Bool.not_eq_true',decide_eq_false_iff_not,iff u]
   exact ⟨fun h z=>h ⟨rfl,z⟩,fun h z=>h z.2⟩
  ·refine ⟨Tx,ht,by decide,?_⟩
   have e:(!(Tx == "str" || (Tx == "bool" && "str" == "int")))=true:=by simp [ns]
   refine ite2 (fun _=>?_) (fun z=>absurd e z)
   exact ite2 (fun _=>q) (fun z=>absurd rfl z)
  ·have hl:lenV H (.str z)=some z.length:=by
    unfold lenV
    simp only []
    rw [if_pos (le_line (by omega))]
   refine ⟨"str",rfl,by decide,?_⟩
   refine ite2 (fun z=>absurd z (by decide)) (fun _=>?_)
   refine ⟨_,hl,?_⟩
   refine ite2 (fun h1=>?_) (fun h1=>?_)
   ·have h1:1<=z.length:=by
     have:=of_decide_eq_true h1
     omega
    refine ite2 (fun h2=>?_) (fun h2=>?_)
    ·exact ite2 (fun _=>q) (fun z=>absurd rfl z)
    ·have h2:z.length<=8:=by
      by_cases y:z.length<=8
      ·exact y
      ·exact absurd (by rw [decide_eq_false (by omega)];rfl) h2
     refine ⟨rfl,le_line (by omega),?_⟩
     have hs:Txt.stripChars z ("01" : Str)≠("" : Str):=by
      rcases hz with y | y | y
      ·omega
      ·omega
      ·exact y
     exact ite2 (fun _=>q) (fun y=>absurd (by rw [decide_eq_false hs];rfl) y)
   ·refine ite2 (fun _=>?_) (fun y=>absurd rfl y)
    exact ite2 (fun _=>q) (fun z=>absurd rfl z)
 ·exact h.elim
end
end K41
end
section
namespace K41
open PySem L2
section
variable {P:Program} {w:World} {K:PySem.W.Frag} {mg:Str->Option Value} {base:Heap}
abbrev sAll:Stmt:=top 14
def spAll:Sp:=fun vs H Q _=>match vs with
 | [.int len]=>∃ L:Nat,len=(L:Nat)/\L<=8/\∀ l H',Same H H'->H l=none->H' l=some (WS (allS L))->Q (.ref l) H'
 | _=>False
theorem scAll:FnScope ["length","found","place"] ["length"] (defScope sAll):=⟨rfl,rfl,rfl,by decide +kernel,rfl,by decide +kernel,by decide +kernel⟩
local macro_rules | `(tactic| walk_at "T.c")=>`(tactic| (have ndc:(["signs"]:List Str).Nodup:=(by decide +kernel));((with_reducible refine' c_comp ["signs"] [] ?b1 ?b2 (fun cl C s H fp=>?b3) (fun cl C s H fp=>?b4) (fun cl C s H fp=>?b5));(case b1=>exact ndc);(case b2=>walk_at "T.i");(case b3=>walk_at "T.g");(case b4=>walk_at "T.pf");(case b5=>walk_at "T.e")))
theorem ok_all (D:FnX K mg "all_signs" sAll ["length"]) (g1:mg "range" = none):Can P w K mg base "all_signs" 1 ["length"] spAll:=by
 refine can_fn (k:=0) D scAll (fun vs H Q E h=>?_) (fun f cdv A outer s H vs Q E hr h=>?_)
 all_goals
  unfold spAll at h
  split at h
 ·rfl
 ·exact h.elim
 ·rename_i len
  obtain ⟨L,rfl,l8,q⟩:=h
  have nd:=scAll.nd
  refine ⟨_,(by walk_at "T.top"),?_⟩
  refine ⟨le_line (Nat.le_of_ble_eq_true rfl),fun ev0 hev0=>?_⟩
  try dsimp only [gName,tNext]
  refine ⟨by omega,by omega,for_by (it_range 0 _) (fun i σ H2=>∃ v2 ev,σ=[some (.int (L:Nat)),some (.ref ev),v2]/\Same H H2/\H ev=none/\H2 ev=some (WS (allS i))/\i<=L)
   ⟨none,ev0,rfl,Same.upd hev0,hev0,by rw [upd_same,bs_nil];rfl,Nat.zero_le _⟩ (fun _ _ _ _ _=>trivial) ?_ ?_⟩
  ·rintro i x σ H2 hi hx ⟨v2,ev,rfl,s2,nev,hev,him⟩
   have hi':i < L:=by simpa using hi
   have evw:∀ w∈allS i,w.length=i:=fun w hw=>(allS_mem i w).mp hw
   have p256:(allS i).length<=256:=by
    rw [allS_len]
    calc 2 ^ i<=2 ^ 8:=Nat.pow_le_pow_right (by decide) (by omega)
     _<=256:=by decide
   have e1:allS (i+1)=(allS i).map (fun w=>[false]++w)++(allS i).map (fun w=>[true]++w):=rfl
   generalize allS i=evs at hev evw p256 e1
   have step:∀ (b:Bool) (sgn:Str),sgn=bs [b]->∀ (H3:Hp) (D1:Addr) (ys:List V) (i':Nat) (x:V),(evs.map fun w=>V.str (bs w))[i']? = some x->∀ C:VK,C ((fun x=>match x with | V.str z=>V.str (sgn++z) | _=>x) x) (upd H3 D1 (.lst ys))->rAddU (.str sgn) x (upd H3 D1 (.lst ys)) C:=by
    intro b sgn hb H3 D1 ys i' x hx C c
    rw [List.getElem?_map] at hx
    obtain ⟨w0,hw0,rfl⟩:=Option.map_eq_some_iff.mp hx
    refine ⟨?_,c⟩
    rw [hb,bs_len,bs_len,evw _ (List.mem_of_getElem? hw0)]
    exact le_line (by simp;omega)
   have outl:∀ (b:Bool) (sgn:Str),sgn=bs [b]->(evs.map fun w=>V.str (bs w)).map (fun x=>match x with | V.str z=>V.str (sgn++z) | _=>x)=(evs.map fun w=>[b]++w).map fun w=>V.str (bs w):=by
    intro b sgn hb
    rw [List.map_map,List.map_map]
    apply List.map_congr_left
    intro w0 _
    show V.str (sgn++bs w0)=V.str (bs ([b]++w0))
    rw [hb,bs_app]
   refine ⟨⟨_,SqL.of hev⟩,fun D1 hD1=>?_⟩
   refine comp_map1 (it_list _ ev (evs.map fun w=>V.str (bs w))) (fun x=>match x with | V.str z=>V.str (("0" : Str)++z) | _=>x) (by rw [ws_len];exact le_line (by omega)) (fun o=>SqL.upd hev hD1) (fun i' x ys hx C c=>step false _ bs_0 _ _ _ _ _ hx C c) ?_
   have hev1:∀ o,upd H2 D1 o ev=some (WS evs):=fun o=>Same.upd hD1 _ _ hev
   refine ⟨⟨_,SqL.of (hev1 _)⟩,fun D2 hD2=>?_⟩
   refine comp_map1 (it_list _ ev (evs.map fun w=>V.str (bs w))) (fun x=>match x with | V.str z=>V.str (("1" : Str)++z) | _=>x) (by rw [ws_len];exact le_line (by omega)) (fun o=>SqL.upd (hev1 _) hD2) (fun i' x ys hx C c=>step true _ bs_1 _ _ _ _ _ hx C c) ?_
   rw [outl false _ bs_0,outl true _ bs_1]
   have xD:D1≠D2:=ne_of_none (H:=upd H2 D1 (HO.lst ((evs.map fun w=>[false]++w).map fun w=>V.str (bs w)))) upd_same (by rw [outl false _ bs_0] at hD2;exact hD2)
   refine ⟨_,_,by rw [upd_ne xD,upd_same],upd_same,?_,fun ev2 hev2=>?_⟩
   ·rw [ws_len,ws_len,List.length_map,List.length_map];exact le_line (by omega)
   ·rw [outl false _ bs_0] at hD2
    have sx:Same H (upd (upd H2 D1 (HO.lst ((evs.map fun w=>[false]++w).map fun w=>V.str (bs w)))) D2 (HO.lst ((evs.map fun w=>[true]++w).map fun w=>V.str (bs w)))):=s2.trans ((Same.upd hD1).trans (Same.upd hD2))
    exact ⟨some x,ev2,rfl,sx.trans (Same.upd hev2),sx.free hev2,by rw [upd_same,e1];unfold WS;rw [List.map_append],hi'⟩
  ·rintro σ H2 ⟨v2,ev,rfl,s2,nev,hev,him⟩
   have hn:((List.range ((L:Int)).toNat).map fun i:Nat=>V.int (0+(i:Nat))).length=L:=by simp
   rw [hn] at hev
   exact q ev H2 s2 nev hev
 ·exact h.elim
end
end K41
end
section
namespace K41
open PySem L2
noncomputable def markS (rows:Om.Rows) (L:Nat):List (List Bool):=(allS L).filter fun u=>@decide (¬ Om.Fac rows u) (Classical.propDecidable _)
theorem markS_of {rows:Om.Rows} {L:Nat} {kvs:List (Key×V)} {us:List (List Bool)} (ks:KS tk kvs us) (iff:∀ u,u∈us↔u.length=L/\Om.Fac rows u):(allS L).filter (fun u=>!(valV kvs (tk u)).isSome)=markS rows L:=by
 refine List.filter_congr fun u hu=>?_
 have ul:=(allS_mem L u).mp hu
 rw [ks.has tk_inj u,Bool.eq_iff_iff,Bool.not_eq_true',decide_eq_false_iff_not,iff u]
 exact ⟨fun h=>@decide_eq_true _ (Classical.propDecidable _) fun z=>h ⟨ul,z⟩,fun h z=>@of_decide_eq_true _ (Classical.propDecidable _) h z.2⟩
theorem markS_mem {rows:Om.Rows} {L:Nat} {u:List Bool}:u∈markS rows L↔u.length=L/\¬ Om.Fac rows u:=by
 unfold markS
 rw [List.mem_filter,allS_mem]
 exact ⟨fun h=>⟨h.1,@of_decide_eq_true _ (Classical.propDecidable _) h.2⟩,fun h=>⟨h.1,@decide_eq_true _ (Classical.propDecidable _) h.2⟩⟩
theorem markS_le {rows:Om.Rows} {L:Nat} (l8:L<=8):(markS rows L).length<=256:=by
 refine Nat.le_trans (List.length_filter_le _ _) ?_
 rw [allS_len]
 calc 2 ^ L<=2 ^ 8:=Nat.pow_le_pow_right (by decide) l8
  _<=256:=by decide
def pkS (kvs:List (Key×V)):V->Bool:=fun v=>match v with
 | .str z=>!(valV kvs (.inr z)).isSome
 | _=>false
theorem pickS {kvs:List (Key×V)} (ws:List (List Bool)):(ws.map fun w=>V.str (bs w)).filter (pkS kvs)=(ws.filter fun u=>!(valV kvs (tk u)).isSome).map fun w=>V.str (bs w):=by
 rw [List.filter_map];rfl
section
variable {P:Program} {w:World} {K:PySem.W.Frag} {mg:Str->Option Value} {base:Heap}
abbrev sMarks:Stmt:=top 21
def spMarks (P0:Addr):Sp:=fun vs H Q _=>match vs with
 | [cv,.int len]=>∃ (k n:Nat) (rows:Om.Rows) (L:Nat),len=(L:Nat)/\1<=L/\L<=8/\DV H cv (codeD k n rows)/\Om.CodeOk k n rows/\Tab P0 (lamPos lamTb) qTb H ∧
   ∀ l H',SameT P0 H H'->Tab P0 (lamPos lamTb) qTb H'->H l=none->H' l=some (WS (markS rows L))->Q (.ref l) H'
 | _=>False
theorem scMarks:FnScope ["code","length","found"] ["code","length"] (defScope sMarks):=⟨rfl,rfl,rfl,by decide +kernel,rfl,by decide +kernel,by decide +kernel⟩
local macro_rules | `(tactic| walk_at "T.c")=>`(tactic| (have ndc:(["signs","found"]:List Str).Nodup:=(by decide +kernel));((with_reducible refine' c_comp ["signs","found"] [2] ?b1 ?b2 (fun cl C s H fp=>?b3) (fun cl C s H fp=>?b4) (fun cl C s H fp=>?b5));(case b1=>exact ndc);(case b2=>walk_at "T.i");(case b3=>walk_at "T.g");(case b4=>walk_at "T.pf");(case b5=>walk_at "T.e")))
local macro_rules | `(tactic| walk_at "T.e")=>`(tactic| ((with_reducible refine' e_gint ?a0 ?a9);(case a0=>assumption);(case a9=>rfl)))
local macro_rules | `(tactic| walk_at "T.cmp")=>`(tactic| ((with_reducible refine' op_notInDict ?a0);(case a0=>exact Room.units (by assumption))))
theorem ok_marks {P0:Addr} (D:FnX K mg "marks" sMarks ["code","length"]) (g4:∃ tk,mg "LONGEST" = some (.int 8 tk)) (c1:Can P w K mg base "standing" 5 ["code","length"] (spStand P0)) (c2:Can P w K mg base "all_signs" 1 ["length"] spAll):Can P w K mg base "marks" 6 ["code","length"] (spMarks P0):=by
 refine can_fn (k:=5) D scMarks (fun vs H Q E h=>?_) (fun f0 cdv A outer s H vs Q E hr h=>?_)
 all_goals
  unfold spMarks at h
  split at h
 ·rfl
 ·exact h.elim
 ·rename_i cv len
  obtain ⟨k,n,rows,L,rfl,l1,l8,hc,ok,tb,q⟩:=h
  have nd:=scMarks.nd
  refine ⟨_,(by walk_at "T.top"),?_⟩
  refine ite2 (fun _=>?_) (fun z=>absurd (decide_eq_true (by omega)) z)
  refine ite2 (fun z=>absurd z (by rw [decide_eq_true (by omega)];decide)) (fun _=>?_)
  refine ⟨k,n,rows,L,rfl,l1,l8,hc,ok,tb,fun d o kvs us H2 s2 t2 nd2 hd ks iff=>?_⟩
  refine ⟨L,rfl,l8,fun l H3 s3 nl hl=>?_⟩
  have hd3:=s3 _ _ hd
  have p256:(allS L).length<=256:=by
   rw [allS_len]
   calc 2 ^ L<=2 ^ 8:=Nat.pow_le_pow_right (by decide) l8
    _<=256:=by decide
  refine ⟨⟨_,SqL.of hl⟩,fun D hD=>?_⟩
  refine comp_pick (it_list _ l _) (pkS kvs) (by rw [ws_len];exact le_line (by omega)) (fun o=>SqL.upd hl hD) (fun i x ys hx C c=>?_) (fun i x ys hx C c=>c) ?_
  ·rw [List.getElem?_map] at hx
   obtain ⟨u,_,rfl⟩:=Option.map_eq_some_iff.mp hx
   exact ⟨d,_,rfl,.inl ⟨kvs,tk u,.inr ⟨o,Same.upd hD _ _ hd3⟩,rfl,rfl⟩,c⟩
  ·rw [pickS,markS_of ks iff]
   have D2:H2 D=none:=s3.free hD
   have DP:D≠P0:=fun z=>by obtain ⟨ps,e⟩:=t2.tbl;rw [<-z,D2] at e;cases e
   exact q D _ (s2.trans (s3.trans (Same.upd hD)).t) (t2.mono (s3.trans (Same.upd hD))) (s2.free D2 DP) upd_same
 ·exact h.elim
end
end K41
end
section
namespace K41
open PySem L2
section
variable {P:Program} {w:World} {K:PySem.W.Frag} {mg:Str->Option Value} {base:Heap}
abbrev sCopy:Stmt:=top 35
def spCopyF:Sp:=fun vs H Q _=>match vs with
 | [cv]=>∃ (k n:Nat) (rows:Om.Rows),DV H cv (codeD k n rows)/\rows.length<=8/\∀ a b (qs:List Addr) H',Same H H'->H a=none->CopyOf H H' a b qs k n rows->Q (.ref a) H'
 | _=>False
theorem scCopy:FnScope ["code"] ["code"] (defScope sCopy):=⟨rfl,rfl,rfl,by decide +kernel,rfl,by decide +kernel,by decide +kernel⟩
local macro_rules | `(tactic| walk_at "T.c")=>`(tactic| (have ndc:(["state"]:List Str).Nodup:=(by decide +kernel));((with_reducible refine' c_comp ["state"] [] ?b1 ?b2 (fun cl C s H fp=>?b3) (fun cl C s H fp=>?b4) (fun cl C s H fp=>?b5));(case b1=>exact ndc);(case b2=>walk_at "T.i");(case b3=>walk_at "T.g");(case b4=>walk_at "T.pf");(case b5=>walk_at "T.e")))
theorem ok_copy (D:FnX K mg "_law_copy" sCopy ["code"]) (g2:mg "list" = none):Can P w K mg base "_law_copy" 1 ["code"] spCopyF:=by
 refine can_fn (k:=0) D scCopy (fun vs H Q E h=>?_) (fun f cdv A outer s H vs Q E hr h=>?_)
 all_goals
  unfold spCopyF at h
  split at h
 ·rfl
 ·exact h.elim
 ·rename_i cv
  obtain ⟨k,n,rows,hc,rl,q⟩:=h
  have nd:=scCopy.nd
  obtain ⟨a,b,ss,rfl,ha,hb,hss⟩:=code_inv hc
  have sl:ss.length=rows.length:=by rw [hss.length,List.length_map]
  refine ⟨_,(by walk_at "T.top1"),?_⟩
  refine ⟨_,gt ha (by decide) rfl,_,gt ha (by decide) rfl,_,gt ha (by decide) rfl,⟨_,SqL.of hb⟩,fun D1 hD1=>?_⟩
  refine comp_by (it_list _ b ss) (fun i τ H2 ys=>(∃ v,τ=[v])/\Same H H2/\H2 D1=some (.lst ys)/\∃ qs:List Addr,ys=qs.map V.ref/\qs.length=i/\qs.Nodup/\(∀ q∈qs,H q=none/\q≠D1)/\∀ (j:Nat) (st:List (List Bool×Nat)),j < i->rows[j]? = some st->∃ q rs,qs[j]? = some q/\H2 q=some (.lst rs)/\DVs H rs (st.map rowD))
   (by rw [sl];exact le_line (by omega)) ⟨⟨none,rfl⟩,Same.upd hD1,upd_same,[],rfl,rfl,List.nodup_nil,(fun q hq=>nomatch hq),fun j st h=>absurd h (Nat.not_lt_zero _)⟩ ?_ ?_ ?_
  ·rintro i τ H2 ys hi ⟨_,s2,h2,qs,rfl,ql,_⟩
   exact ⟨SqL.of (s2 _ _ hb),h2,by rw [List.length_map];omega⟩
  ·rintro i x τ H2 ys hi hx ⟨⟨v,rfl⟩,s2,h2,qs,rfl,ql,qn,qf,hst⟩
   have hi':i < rows.length:=by rw [<-sl];exact hi
   obtain ⟨p,rs,e1,e2,e3⟩:=state_at hss (s:=i) (st:=rows[i]) (List.getElem?_eq_getElem hi')
   rw [hx] at e1
   cases e1
   refine ⟨rs,.inl (s2 _ _ e2),fun l hl'=>?_⟩
   have dl:D1≠l:=ne_of_none h2 hl'
   have lq:l ∉ qs:=fun z=>by
    obtain ⟨j,hj⟩:=List.mem_iff_getElem?.mp z
    have jl:=(List.getElem?_eq_some_iff.mp hj).1
    have jr:j < rows.length:=by omega
    obtain ⟨q',rs',a1,a2,_⟩:=hst j rows[j] (by omega) (List.getElem?_eq_getElem jr)
    rw [hj] at a1
    cases a1
    rw [hl'] at a2;cases a2
   have s3:=s2.trans (Same.upd (o:=.lst rs) hl')
   have il:qs.length=i:=ql
   refine ⟨by rw [upd_ne dl];exact h2,⟨_,rfl⟩,s3.own hD1,upd_same,qs++[l],by rw [List.map_append];rfl,by simp [ql],?_,fun q' hq'=>?_,fun j st hj hr=>?_⟩
   ·rw [List.nodup_append]
    refine ⟨qn,by simp,fun x hx y hy z=>?_⟩
    have:y=l:=by simpa using hy
    subst this
    subst z
    exact lq hx
   ·rcases List.mem_append.mp hq' with z | z
    ·exact qf q' z
    ·have:q'=l:=by simpa using z
     subst this
     exact ⟨s2.free hl',Ne.symm dl⟩
   ·by_cases e:j=i
    ·subst e
     rw [List.getElem?_eq_getElem hi'] at hr
     cases hr
     exact ⟨l,rs,by rw [List.getElem?_append_right (by omega),il];simp,by rw [upd_ne (Ne.symm dl),upd_same],e3⟩
    ·obtain ⟨q',rs',a1,a2,a3⟩:=hst j st (by omega) hr
     refine ⟨q',rs',by rw [List.getElem?_append_left (by omega)];exact a1,?_,a3⟩
     rw [upd_ne (qf q' (List.mem_of_getElem? a1)).2,upd_ne (ne_of_none a2 hl')]
     exact a2
  ·rintro τ H2 ys ⟨_,s2,h2,qs,rfl,ql,qn,qf,hst⟩
   rw [sl] at ql hst
   refine ⟨le_line (Nat.le_of_ble_eq_true rfl),fun p hp=>?_⟩
   have s3:=s2.trans (Same.upd (o:=.tup [.int (k:Nat),.int (n:Nat),.ref D1]) hp)
   refine q p D1 qs _ s3 (s2.free hp) ⟨upd_same,hD1,by rw [upd_ne (ne_of_none h2 hp)];exact h2,qn,qf,ql,fun j st hr=>?_⟩
   obtain ⟨q',rs',a1,a2,a3⟩:=hst j st (List.getElem?_eq_some_iff.mp hr).1 hr
   exact ⟨q',rs',a1,by rw [upd_ne (ne_of_none a2 hp)];exact a2,a3.mono s3⟩
 ·exact h.elim
end
end K41
end
section
namespace K41
open PySem L2
section
variable {P:Program} {w:World} {K:PySem.W.Frag} {mg:Str->Option Value} {base:Heap}
abbrev sCell:Stmt:=top 30
def spCell (K:PySem.W.Frag):Sp:=fun vs H Q _=>match vs with
 | [.ref a,.int k]=>∃ ns:List Int,SqL K H a (ns.map V.int)/\0<=k/\k<=1000/\∀ c,Q (.int c) H
 | _=>False
theorem scCell:FnScope ["script","k"] ["script","k"] (defScope sCell):=⟨rfl,rfl,rfl,by decide +kernel,rfl,by decide +kernel,by decide +kernel⟩
local macro_rules | `(tactic| walk_at "T.b")=>`(tactic| ((with_reducible refine' fn_lenS ?a0 ?a9 ?a1);(case a0=>with_reducible assumption);(case a9=>rfl);(case a1=>walk_at "T.a")))
local macro_rules | `(tactic| walk_at "T.ty")=>`(tactic| ((with_reducible refine' ix_atS ?a1 ?a2);(case a1=>walk_at "T.e");(case a2=>walk_at "T.e")))
theorem ok_cell (D:FnX K mg "_law_cell" sCell ["script","k"]) (g1:mg "len" = none):Can P w K mg base "_law_cell" 1 ["script","k"] (spCell K):=by
 refine can_fn (k:=0) D scCell (fun vs H Q E h=>?_) (fun f cdv A outer s H vs Q E hr h=>?_)
 all_goals
  unfold spCell at h
  split at h
 ·rfl
 ·exact h.elim
 ·rename_i a k
  obtain ⟨ns,hS,h0,h1,q⟩:=h
  have nd:=scCell.nd
  refine ⟨_,(by walk_at "T.top"),?_⟩
  refine ⟨_,hS,ite2 (fun h2=>?_) (fun h2=>?_)⟩
  ·have h2':k < ((ns.map V.int).length:Int):=of_decide_eq_true h2
   rw [List.length_map] at h2'
   have h3:k.toNat < ns.length:=by omega
   exact ⟨_,.int ns[k.toNat],hS,atI_int h0 (by rw [List.getElem?_map,List.getElem?_eq_getElem h3];rfl),q _⟩
  ·exact ⟨.inl ⟨by decide,by decide⟩,.inr ⟨by omega,by omega⟩,.inl ⟨by decide,by decide⟩,q _⟩
 ·exact h.elim
end
end K41
end
section
namespace K41
open PySem L2
section
variable {P:Program} {w:World} {K:PySem.W.Frag} {mg:Str->Option Value} {base:Heap}
abbrev sMixed:Stmt:=top 31
def spMixed:Sp:=fun vs H Q _=>match vs with
 | [.int _,.int k]=>0<=k/\k<=1000/\∀ c,Q (.int c) H
 | _=>False
theorem scMixed:FnScope ["cell","k","number"] ["cell","k"] (defScope sMixed):=⟨rfl,rfl,rfl,by decide +kernel,rfl,by decide +kernel,by decide +kernel⟩
theorem ok_mixed (D:FnX K mg "_law_mixed" sMixed ["cell","k"]):Can P w K mg base "_law_mixed" 1 ["cell","k"] spMixed:=by
 refine can_fn (k:=0) D scMixed (fun vs H Q E h=>?_) (fun f cdv A outer s H vs Q E hr h=>?_)
 all_goals
  unfold spMixed at h
  split at h
 ·rfl
 ·exact h.elim
 ·rename_i c k
  obtain ⟨h0,h1,q⟩:=h
  have nd:=scMixed.nd
  refine ⟨_,(by walk_at "T.top"),?_⟩
  refine ⟨.inr ⟨by decide,by decide⟩,.inl ⟨by decide,by decide⟩,.inr ⟨by omega,by omega⟩,.inl ⟨by decide,by decide⟩,(by decide:(0:Int) < 2147483647),?_⟩
  have b1:=Int.emod_nonneg (c * 48271+7919 * k * k+104729 * k+11) (show (2147483647:Int)≠0 by decide)
  have b2:=Int.emod_lt_of_pos (c * 48271+7919 * k * k+104729 * k+11) (show (0:Int) < 2147483647 by decide)
  generalize (c * 48271+7919 * k * k+104729 * k+11) % 2147483647=x1 at b1 b2 ⊢
  refine ⟨.inl ⟨by omega,by omega⟩,(by decide:(0:Int) < 2147483629),?_⟩
  refine ⟨.inr ⟨by decide,by decide⟩,(by decide:(0:Int) < 5),q _⟩
 ·exact h.elim
end
section
variable {P:Program} {w:World} {K:PySem.W.Frag} {mg:Str->Option Value} {base:Heap}
abbrev sKnown:Stmt:=top 32
def GoodD (d:PyData):Prop:=∃ (k n:Nat) (rows:Om.Rows),d=codeD k n rows/\Om.CodeOk k n rows
theorem good_mk {d:PyData} (k n:Nat) (rows:Om.Rows) (h:d=codeD k n rows) (h1:1<=k/\k<=3/\1<=n/\n<=6/\1<=rows.length/\rows.length<=8/\(∀ st∈rows,st.length=2 ^ k)/\∀ st∈rows,∀ r∈st,r.1.length=n/\r.2 < rows.length):GoodD d:=
 ⟨k,n,rows,h,h1.1,h1.2.1,h1.2.2.1,h1.2.2.2.1,h1.2.2.2.2.1,h1.2.2.2.2.2.1,h1.2.2.2.2.2.2.1,h1.2.2.2.2.2.2.2⟩
def GV (H:Hp) (L:Addr) (v:V):Prop:=∃ (G:Hp) (d:PyData),Same G H/\G L=none/\GoodD d/\DV G v d
theorem GV.mono {H H':Hp} {L:Addr} {v:V} (h:GV H L v) (s:Same H H'):GV H' L v:=let ⟨G,d,a,b,c⟩:=h;⟨G,d,a.trans s,b,c⟩
theorem GV.own {H:Hp} {L:Addr} {v:V} {o:HO} (h:GV H L v):GV (upd H L o) L v:=let ⟨G,d,a,b,c⟩:=h;⟨G,d,a.own b,b,c⟩
theorem GV.app {H H':Hp} {L:Addr} {vs xs:List V} {v:V} {d:PyData} {o:HO} (h:∀ x∈vs,GV H L x) (hL:H L=some (.lst xs)) (s:Same H H') (g:GoodD d) (dv:DV (nw H H') v d):∀ x∈vs++[v],GV (upd H' L o) L x:=fun x hx=>by
 rcases List.mem_append.mp hx with z | z
 ·exact ((h x z).mono s).own
 ·have:x=v:=by simpa using z
  subst this
  exact GV.own ⟨_,d,nw.same,nw.old hL,g,dv⟩
def spKnown:Sp:=fun vs H Q _=>match vs with
 | [.int _]=>∀ v (k n:Nat) (rows:Om.Rows) H',Same H H'->DV H' v (codeD k n rows)->Om.CodeOk k n rows->Q v H'
 | _=>False
theorem scKnown:FnScope ["cell","codes"] ["cell"] (defScope sKnown):=⟨rfl,rfl,rfl,by decide +kernel,rfl,by decide +kernel,by decide +kernel⟩
local macro_rules | `(tactic| walk_at "T.li")=>`(tactic| first | (with_reducible exact li_int) | (with_reducible exact li_str) | ((with_reducible refine' li_tup ?a1 ?a2);(case a1=>walk_at "T.las");(case a2=>exact Nat.le_of_ble_eq_true rfl)) | ((with_reducible refine' li_lst ?a1 ?a2);(case a1=>walk_at "T.las");(case a2=>exact Nat.le_of_ble_eq_true rfl)))
local macro_rules | `(tactic| walk_at "T.las")=>`(tactic| first | (with_reducible exact li_nil) | ((with_reducible refine' li_cons ?a1 ?a2);(case a1=>walk_at "T.li");(case a2=>walk_at "T.las")))
local macro_rules | `(tactic| walk_at "T.e")=>`(tactic| ((with_reducible refine' li_tup ?a1 ?a2);(case a1=>walk_at "T.las");(case a2=>exact Nat.le_of_ble_eq_true rfl)))
theorem ok_known (D:FnX K mg "_law_known" sKnown ["cell"]) (g1:mg "len" = none):Can P w K mg base "_law_known" 1 ["cell"] spKnown:=by
 refine can_fn (k:=0) D scKnown (fun vs H Q E h=>?_) (fun f cdv A outer s H vs Q E hr h=>?_)
 all_goals
  unfold spKnown at h
  split at h
 ·rfl
 ·exact h.elim
 ·rename_i c
  have nd:=scKnown.nd
  refine ⟨_,(by walk_at "T.top"),?_⟩
  intro w1 H1 s1 d1 w2 H2 s2 d2
  refine ⟨le_line (Nat.le_of_ble_eq_true rfl),fun L hL=>?_⟩
  have f1:nw H H1 L=none:=by
   cases e:nw H H1 L with
   | none=>rfl
   | some o=>rw [s2 _ _ (nw.same _ _ e)] at hL;cases hL
  have f2:nw H1 H2 L=none:=by
   cases e:nw H1 H2 L with
   | none=>rfl
   | some o=>rw [nw.same _ _ e] at hL;cases hL
  have g2:∀ x∈[w1,w2],GV (upd H2 L (.lst [w1,w2])) L x:=fun x hx=>by
   rcases List.mem_cons.mp hx with rfl | hx
   ·exact GV.own ⟨_,_,(nw.same (H:=H)).trans s2,f1,good_mk 1 2 [[([false,true],0),([true,false],0)]] (by kernel_rfl) (by decide +kernel),d1⟩
   ·have:x=w2:=by simpa using hx
    subst this
    exact GV.own ⟨_,_,nw.same,f2,good_mk 1 1 [[([false],0),([true],1)],[([true],1),([false],0)]] (by kernel_rfl) (by decide +kernel),d2⟩
  have t2:Same H (upd H2 L (.lst [w1,w2])):=(s1.trans s2).trans (Same.upd hL)
  have hL0:H L=none:=(s1.trans s2).free hL
  have h3:upd H2 L (.lst [w1,w2]) L=some (.lst [w1,w2]):=upd_same
  generalize upd H2 L (.lst [w1,w2])=H3 at g2 t2 h3
  refine ⟨⟨_,rfl,h3⟩,fun w3 H4 s4 d4=>⟨_,s4 _ _ h3,lt_line (Nat.le_of_ble_eq_true rfl),?_⟩⟩
  have g3:=GV.app (o:=.lst ([w1,w2]++[w3])) g2 h3 s4 (good_mk 1 2 [[([true,false],0),([false,true],1)],[([false,false],0),([false,true],1)]] (by kernel_rfl) (by decide +kernel)) d4
  have t3:Same H (upd H4 L (.lst ([w1,w2]++[w3]))):=(t2.trans s4).own hL0
  have h5:upd H4 L (.lst ([w1,w2]++[w3])) L=some (.lst ([w1,w2]++[w3])):=upd_same
  generalize upd H4 L (.lst ([w1,w2]++[w3]))=H5 at g3 t3 h5
  refine ⟨⟨_,rfl,h5⟩,fun w4 H6 s6 d6=>⟨_,s6 _ _ h5,lt_line (Nat.le_of_ble_eq_true rfl),?_⟩⟩
  have g4:=GV.app (o:=.lst ([w1,w2]++[w3]++[w4])) g3 h5 s6 (good_mk 1 2 [[([false,false],1),([false,true],1)],[([true,true],0),([true,false],0)]] (by kernel_rfl) (by decide +kernel)) d6
  have t4:Same H (upd H6 L (.lst ([w1,w2]++[w3]++[w4]))):=(t3.trans s6).own hL0
  have h7:upd H6 L (.lst ([w1,w2]++[w3]++[w4])) L=some (.lst ([w1,w2]++[w3]++[w4])):=upd_same
  generalize upd H6 L (.lst ([w1,w2]++[w3]++[w4]))=H7 at g4 t4 h7
  refine ⟨⟨_,rfl,h7⟩,fun w5 H8 s8 d8=>⟨_,s8 _ _ h7,lt_line (Nat.le_of_ble_eq_true rfl),?_⟩⟩
  have g5:=GV.app (o:=.lst ([w1,w2]++[w3]++[w4]++[w5])) g4 h7 s8 (good_mk 2 3 [[([false,true,false],0),([false,true,true],0),([true,false,false],0),([true,false,true],0)]] (by kernel_rfl) (by decide +kernel)) d8
  have t5:Same H (upd H8 L (.lst ([w1,w2]++[w3]++[w4]++[w5]))):=(t4.trans s8).own hL0
  have h9:upd H8 L (.lst ([w1,w2]++[w3]++[w4]++[w5])) L=some (.lst ([w1,w2]++[w3]++[w4]++[w5])):=upd_same
  generalize upd H8 L (.lst ([w1,w2]++[w3]++[w4]++[w5]))=H9 at g5 t5 h9
  refine ⟨⟨_,rfl,h9⟩,fun w6 H10 s10 d10=>⟨_,s10 _ _ h9,lt_line (Nat.le_of_ble_eq_true rfl),?_⟩⟩
  have g6:=GV.app (o:=.lst ([w1,w2]++[w3]++[w4]++[w5]++[w6])) g5 h9 s10 (good_mk 1 3 [[([true,false,false],1),([false,true,false],0)],[([false,false,true],0),([false,true,false],1)]] (by kernel_rfl) (by decide +kernel)) d10
  have t6:Same H (upd H10 L (.lst ([w1,w2]++[w3]++[w4]++[w5]++[w6]))):=(t5.trans s10).own hL0
  have h11:upd H10 L (.lst ([w1,w2]++[w3]++[w4]++[w5]++[w6])) L=some (.lst ([w1,w2]++[w3]++[w4]++[w5]++[w6])):=upd_same
  generalize upd H10 L (.lst ([w1,w2]++[w3]++[w4]++[w5]++[w6]))=H11 at g6 t6 h11
  have l6:([w1,w2]++[w3]++[w4]++[w5]++[w6]).length=6:=rfl
  generalize evs:[w1,w2]++[w3]++[w4]++[w5]++[w6]=vs at g6 h11 l6
  have i0:=Int.emod_nonneg c (show (6:Int)≠0 by decide)
  have i1:=Int.emod_lt_of_pos c (show (0:Int) < 6 by decide)
  refine ⟨_,lenL h11,?_⟩
  rw [l6]
  refine ⟨(by decide:(0:Int) < ((6:Nat):Int)),?_⟩
  have il:(c % ((6:Nat):Int)).toNat < vs.length:=by rw [l6];omega
  obtain ⟨G,d,sG,_,⟨k,n,rows,e,ok⟩,dv⟩:=g6 vs[(c % ((6:Nat):Int)).toNat] (List.getElem_mem il)
  refine ⟨vs[(c % ((6:Nat):Int)).toNat],gl h11 i0 (List.getElem?_eq_getElem il),?_⟩
  subst e
  exact h _ k n rows _ t6 (dv.mono sG) ok
 ·exact h.elim
end
end K41
end
section
namespace K41
open PySem L2
section
variable {P:Program} {w:World} {K:PySem.W.Frag} {mg:Str->Option Value} {base:Heap}
abbrev sLCode:Stmt:=top 33
def spLCode (K:PySem.W.Frag):Sp:=fun vs H Q _=>match vs with
 | [.ref a]=>∃ ns:List Int,SqL K H a (ns.map V.int)/\∀ v (k n:Nat) (rows:Om.Rows) H',Same H H'->DV H' v (codeD k n rows)->Om.CodeOk k n rows->Q v H'
 | _=>False
theorem scLCode:FnScope ["script","cell","k","n","many","states","s","state","letter","one","word","j"] ["script"] (defScope sLCode):=⟨rfl,rfl,rfl,by decide +kernel,rfl,by decide +kernel,by decide +kernel⟩
theorem ok_lcode (D:FnX K mg "_law_code" sLCode ["script"]) (g1:mg "range" = none) (c1:Can P w K mg base "_law_cell" 1 ["script","k"] (spCell K)) (c2:Can P w K mg base "_law_known" 1 ["cell"] spKnown) (c3:Can P w K mg base "_law_mixed" 1 ["cell","k"] spMixed):Can P w K mg base "_law_code" 2 ["script"] (spLCode K):=by
 refine can_fn (k:=1) D scLCode (fun vs H Q E h=>?_) (fun f cdv A outer s H vs Q E hr h=>?_)
 all_goals
  unfold spLCode at h
  split at h
 ·rfl
 ·exact h.elim
 ·rename_i a
  obtain ⟨ns,hS,q⟩:=h
  have nd:=scLCode.nd
  refine ⟨_,(by walk_at "T.top"),?_⟩
  refine ⟨ns,hS,by decide,by decide,fun c=>?_⟩
  refine ⟨(by decide:(0:Int) < 8),ite2 (fun _=>?_) (fun _=>?_)⟩
  ·refine ⟨⟨by decide,by decide⟩,fun v k n rows H' s1 d1 ok=>q v k n rows H' s1 d1 ok⟩
  ·refine ⟨le_line (Nat.le_of_ble_eq_true rfl),fun p0 hp0=>?_⟩
   refine ⟨⟨by decide,by decide⟩,(by decide:(0:Int) < 6),?_⟩
   have a0:=Int.emod_nonneg (c / 8) (show (6:Int)≠0 by decide)
   have a1:=Int.emod_lt_of_pos (c / 8) (show (0:Int) < 6 by decide)
   obtain ⟨k,k1,k3,ek⟩ : ∃ k:Nat,1<=k/\k<=3/\[V.int 1,.int 1,.int 2,.int 2,.int 1,.int 3][(c / 8 % 6).toNat]? = some (.int (k:Nat)):=by
    generalize c / 8 % 6=r0 at a0 a1 ⊢
    have:r0=0\/r0=1\/r0=2\/r0=3\/r0=4\/r0=5:=by omega
    rcases this with rfl | rfl | rfl | rfl | rfl | rfl
    ·exact ⟨1,by decide,by decide,rfl⟩
    ·exact ⟨1,by decide,by decide,rfl⟩
    ·exact ⟨2,by decide,by decide,rfl⟩
    ·exact ⟨2,by decide,by decide,rfl⟩
    ·exact ⟨1,by decide,by decide,rfl⟩
    ·exact ⟨3,by decide,by decide,rfl⟩
   refine ⟨.int (k:Nat),gl upd_same a0 ek,?_⟩
   have t0:Same H (upd H p0 (.lst [.int 1,.int 1,.int 2,.int 2,.int 1,.int 3])):=Same.upd hp0
   generalize upd H p0 (.lst [V.int 1,.int 1,.int 2,.int 2,.int 1,.int 3])=H0 at t0 ⊢
   refine ⟨⟨by decide,by decide⟩,(by decide:(0:Int) < 6),?_⟩
   have b0:=Int.emod_nonneg (c / 48) (show (6:Int)≠0 by decide)
   have b1:=Int.emod_lt_of_pos (c / 48) (show (0:Int) < 6 by decide)
   obtain ⟨n,hn⟩ : ∃ n:Nat,1+c / 48 % 6=(n:Int):=⟨(1+c / 48 % 6).toNat,by omega⟩
   dsimp only [gName,tNext,rAddU]
   rw [hn]
   refine ⟨le_line (Nat.le_of_ble_eq_true rfl),fun p1 hp1=>?_⟩
   refine ⟨⟨by decide,by decide⟩,(by decide:(0:Int) < 8),?_⟩
   have m0:=Int.emod_nonneg (c / 288) (show (8:Int)≠0 by decide)
   have m1:=Int.emod_lt_of_pos (c / 288) (show (0:Int) < 8 by decide)
   obtain ⟨many,y1,y8,em⟩ : ∃ many:Nat,1<=many/\many<=8/\[V.int 1,.int 2,.int 3,.int 4,.int 5,.int 6,.int 7,.int 8][(c / 288 % 8).toNat]? = some (.int (many:Nat)):=by
    generalize c / 288 % 8=r2 at m0 m1 ⊢
    have:r2=0\/r2=1\/r2=2\/r2=3\/r2=4\/r2=5\/r2=6\/r2=7:=by omega
    rcases this with rfl | rfl | rfl | rfl | rfl | rfl | rfl | rfl
    ·exact ⟨1,by decide,by decide,rfl⟩
    ·exact ⟨2,by decide,by decide,rfl⟩
    ·exact ⟨3,by decide,by decide,rfl⟩
    ·exact ⟨4,by decide,by decide,rfl⟩
    ·exact ⟨5,by decide,by decide,rfl⟩
    ·exact ⟨6,by decide,by decide,rfl⟩
    ·exact ⟨7,by decide,by decide,rfl⟩
    ·exact ⟨8,by decide,by decide,rfl⟩
   refine ⟨.int (many:Nat),gl upd_same m0 em,?_⟩
   have t1:Same H (upd H0 p1 (.lst [.int 1,.int 2,.int 3,.int 4,.int 5,.int 6,.int 7,.int 8])):=t0.trans (Same.upd hp1)
   generalize upd H0 p1 (.lst [V.int 1,.int 2,.int 3,.int 4,.int 5,.int 6,.int 7,.int 8])=H1 at t1 ⊢
   refine ⟨Nat.zero_le _,fun St hSt=>?_⟩
   have St0:H St=none:=t1.free hSt
   have n6:1<=n/\n<=6:=by omega
   refine ⟨by omega,by omega,for_by (it_range 0 _) (fun i σ H2=>∃ (v6 v7 v8 v9 v10 v11:Option V) (xs:List V) (G:Hp) (rows:Om.Rows),σ=[some (.ref a),some (.int c),some (.int (k:Nat)),some (.int (n:Nat)),some (.int (many:Nat)),some (.ref St),v6,v7,v8,v9,v10,v11]/\Same H H2/\H2 St=some (.lst xs)/\Same G H2/\G St=none/\DVs G xs (rows.map stateD)/\rows.length=i/\(∀ st∈rows,st.length=2 ^ k)/\∀ st∈rows,∀ r∈st,r.1.length=n/\r.2 < many)
    ⟨none,none,none,none,none,none,[],fun _=>none,[],rfl,t1.trans (Same.upd hSt),upd_same,(fun b o e=>nomatch e),rfl,.nil,rfl,by simp,by simp⟩ (fun _ _ _ _ _=>trivial) ?_ ?_⟩
   ·rintro i x σ H2 hi hx ⟨v6,v7,v8,v9,v10,v11,xs,G,rows,rfl,s2,h2,sG,gS,dv,rl,rk,rr⟩
    rw [List.length_map,List.length_range] at hi
    have ex:x=V.int (i:Nat):=by
     rw [List.getElem?_map,List.getElem?_range hi] at hx
     have:=Option.some.inj hx
     rw [<-this];simp
    subst ex
    refine ⟨Nat.zero_le _,fun S hS'=>?_⟩
    have StS:St≠S:=ne_of_none h2 hS'
    refine ⟨le_line (Nat.le_of_ble_eq_true rfl),fun p2 hp2=>?_⟩
    have s3:Same H2 (upd (upd H2 S (.lst [])) p2 (.lst [.int 2,.int 4,.int 8])):=(Same.upd hS').trans (Same.upd hp2)
    have hS3:upd (upd H2 S (.lst [])) p2 (.lst [.int 2,.int 4,.int 8]) S=some (.lst []):=Same.upd hp2 _ _ upd_same
    have ep:getV (upd (upd H2 S (.lst [])) p2 (.lst [V.int 2,.int 4,.int 8])) (.ref p2) ((k:Nat) - 1:Int)=some (.int ((2 ^ k:Nat):Int)):=by
     refine gl upd_same (by omega) ?_
     have:k=1\/k=2\/k=3:=by omega
     rcases this with rfl | rfl | rfl<;>rfl
    have p8:2 ^ k<=8:=Om.pow8 k3
    refine ⟨_,ep,Int.le_trans (by decide) (Int.natCast_nonneg _),Int.lt_of_le_of_lt (Int.ofNat_le.mpr p8) (by decide),?_⟩
    generalize upd (upd H2 S (.lst [])) p2 (.lst [V.int 2,.int 4,.int 8])=H3 at s3 hS3
    rw [Int.toNat_natCast]
    have GS:G S=none:=sG.free hS'
    refine for_by (it_range 0 _) (fun j σ H4=>∃ (v8 v9 v10 v11:Option V) (ys:List V) (G2:Hp) (rs:List (List Bool×Nat)),σ=[some (.ref a),some (.int c),some (.int (k:Nat)),some (.int (n:Nat)),some (.int (many:Nat)),some (.ref St),some (.int (i:Nat)),some (.ref S),v8,v9,v10,v11]/\Same H H4/\H4 St=some (.lst xs)/\H4 S=some (.lst ys)/\Same G2 H4/\G2 St=none/\G2 S=none/\Same G G2/\DVs G2 ys (rs.map rowD)/\rs.length=j/\∀ r∈rs,r.1.length=n/\r.2 < many)
     ⟨v8,v9,v10,v11,[],G,[],rfl,s2.trans s3,s3 _ _ h2,hS3,sG.trans s3,gS,GS,Same.refl _,.nil,rfl,by simp⟩ (fun _ _ _ _ _=>trivial) ?_ ?_
    ·rintro j y σ H4 hj hy ⟨v8,v9,v10,v11,ys,G2,rs,rfl,s4,h4,hS4,sG2,gS2,gSS,gg,dv2,rl2,rr2⟩
     rw [List.length_map,List.length_range] at hj
     have ey:y=V.int (j:Nat):=by
      rw [List.getElem?_map,List.getElem?_range hj] at hy
      have:=Option.some.inj hy
      rw [<-this];simp
     subst ey
     refine ⟨.inl ⟨by decide,by decide⟩,ns,s4.seq hS,by omega,by omega,fun c5=>?_⟩
     dsimp only [gName]
     refine seq_by (fun σ Hx=>∃ c6:Int,σ=[some (.ref a),some (.int c),some (.int (k:Nat)),some (.int (n:Nat)),some (.int (many:Nat)),some (.ref St),some (.int (i:Nat)),some (.ref S),some (.int (j:Nat)),some (.int c6),v10,v11]/\Hx=H4) ?_ (fun fin=>?_)
     ·rintro σ Hx ⟨c6,rfl,rfl⟩
      refine ⟨by omega,by omega,for_by (it_range 0 _) (fun m σ Hy=>∃ (c7:Int) (wd:List Bool) (v11:Option V),σ=[some (.ref a),some (.int c),some (.int (k:Nat)),some (.int (n:Nat)),some (.int (many:Nat)),some (.ref St),some (.int (i:Nat)),some (.ref S),some (.int (j:Nat)),some (.int c7),some (.str (bs wd)),v11]/\Hy=Hx/\wd.length=m) ⟨c6,[],v11,rfl,rfl,rfl⟩ (fun _ _ _ _ _=>trivial) ?_ ?_⟩
      ·rintro m z σ Hy hm hz ⟨c7,wd,v11,rfl,rfl,wl⟩
       rw [List.length_map,List.length_range] at hm
       have q0:=Int.emod_nonneg c7 (show (2:Int)≠0 by decide)
       have q1:=Int.emod_lt_of_pos c7 (show (0:Int) < 2 by decide)
       refine ⟨(by decide:(0:Int) < 2),_,g01 q0 q1,by rw [bs_len,bs_len];exact le_line (by simp;omega),?_⟩
       rw [bs_app]
       exact ⟨⟨by decide,by decide⟩,_,wd++[decide (c7 % 2=1)],_,rfl,rfl,by simp [wl]⟩
      ·rintro σ Hy ⟨c7,wd,v11,rfl,rfl,wl⟩
       rw [List.length_map,List.length_range,Int.toNat_natCast] at wl
       have q0:=Int.emod_nonneg c7 (show ((many:Nat):Int)≠0 by omega)
       have q1:=Int.emod_lt_of_pos c7 (show (0:Int) < ((many:Nat):Int) by omega)
       refine ⟨⟨_,rfl,hS4⟩,(by omega:(0:Int) < ((many:Nat):Int)),le_line (Nat.le_of_ble_eq_true rfl),fun p hp=>?_⟩
       obtain ⟨t,ht⟩ : ∃ t:Nat,c7 % ((many:Nat):Int)=(t:Int):=⟨(c7 % ((many:Nat):Int)).toNat,by omega⟩
       dsimp only
       rw [ht]
       have sp:=Same.upd (o:=.tup [.str (bs wd),.int (t:Nat)]) hp
       have Sp:S≠p:=ne_of_none hS4 hp
       have Stp:St≠p:=ne_of_none h4 hp
       have yl:ys.length=j:=by rw [dv2.length,List.length_map,rl2]
       refine ⟨_,sp _ _ hS4,lt_line (by omega),?_⟩
       have gp:=sG2.free hp
       have GG:Same G2 (upd G2 p (.tup [.str (bs wd),.int (t:Nat)])):=Same.upd gp
       refine ⟨_,_,_,_,ys++[.ref p],upd G2 p (.tup [.str (bs wd),.int (t:Nat)]),rs++[(wd,t)],rfl,(s4.trans sp).own (s2.free hS'),by rw [upd_ne StS];exact sp _ _ h4,upd_same,fun b o e=>?_,by rw [upd_ne Stp];exact gS2,by rw [upd_ne Sp];exact gSS,gg.trans GG,?_,by simp [rl2],fun r hr'=>?_⟩
       ·have bS:b≠S:=fun z=>by rw [z,upd_ne Sp,gSS] at e;cases e
        rw [upd_ne bS]
        by_cases hb:b=p
        ·subst hb;rw [upd_same] at e ⊢;exact e
        ·rw [upd_ne hb] at e ⊢;exact sG2 _ _ e
       ·rw [List.map_append]
        exact (dv2.mono GG).app (.cons (.tup upd_same (.cons (.str _) (.cons (.int _) .nil))) .nil)
       ·rcases List.mem_append.mp hr' with z | z
        ·exact rr2 r z
        ·have:r=(wd,t):=by simpa using z
         subst this
         exact ⟨wl,by show t < many;omega⟩
     ·refine ⟨⟨by decide,by decide⟩,(by decide:(0:Int) < 2),ite2 (fun _=>?_) (fun _=>?_)⟩
      ·refine ⟨.inl ⟨by decide,by decide⟩,by omega,by omega,fun c6=>?_⟩
       exact fin _ _ ⟨c6,rfl,rfl⟩
      ·exact fin _ _ ⟨c5,rfl,rfl⟩
    ·rintro σ H4 ⟨v8,v9,v10,v11,ys,G2,rs,rfl,s4,h4,hS4,sG2,gS2,gSS,gg,dv2,rl2,rr2⟩
     rw [List.length_map,List.length_range] at rl2
     have xl:xs.length=i:=by rw [dv.length,List.length_map,rl]
     refine ⟨⟨_,rfl,h4⟩,_,h4,lt_line (by omega),?_⟩
     have GG:Same G2 (upd G2 S (.lst ys)):=Same.upd gSS
     refine ⟨_,_,v8,v9,v10,v11,xs++[.ref S],upd G2 S (.lst ys),rows++[rs],rfl,s4.own St0,upd_same,fun b o e=>?_,by rw [upd_ne StS];exact gS2,?_,by simp [rl],fun st hst=>?_,fun st hst=>?_⟩
     ·have bSt:b≠St:=fun z=>by rw [z,upd_ne StS,gS2] at e;cases e
      rw [upd_ne bSt]
      by_cases hb:b=S
      ·subst hb;rw [upd_same] at e;rw [hS4];exact e
      ·rw [upd_ne hb] at e;exact sG2 _ _ e
     ·rw [List.map_append]
      exact (dv.mono (gg.trans GG)).app (.cons (.lst upd_same (dv2.mono GG)) .nil)
     ·rcases List.mem_append.mp hst with z | z
      ·exact rk st z
      ·have:st=rs:=by simpa using z
       subst this
       exact rl2
     ·rcases List.mem_append.mp hst with z | z
      ·exact rr st z
      ·have:st=rs:=by simpa using z
       subst this
       exact rr2
   ·rintro σ H2 ⟨v6,v7,v8,v9,v10,v11,xs,G,rows,rfl,s2,h2,sG,gS,dv,rl,rk,rr⟩
    rw [List.length_map,List.length_range] at rl
    refine ⟨le_line (Nat.le_of_ble_eq_true rfl),fun p hp=>?_⟩
    have gS2:Same G (upd G St (.lst xs)):=Same.upd gS
    have sm:Same (upd G St (.lst xs)) H2:=fun b o e=>by
     by_cases hb:b=St
     ·subst hb;rw [upd_same] at e;rw [h2];exact e
     ·rw [upd_ne hb] at e;exact sG _ _ e
    refine q _ k n rows _ (s2.trans (Same.upd hp)) (.tup upd_same (.cons (.int _) (.cons (.int _) (.cons (.lst (Same.upd hp _ _ h2) (dv.mono ((gS2.trans sm).trans (Same.upd hp)))) .nil)))) ⟨k1,k3,n6.1,n6.2,by omega,by omega,rk,fun st hst r hr'=>by have:=rr st hst r hr';omega⟩
 ·exact h.elim
end
end K41
end
section
namespace Om
section
variable {k n:Nat} {rows:Rows} {u:List Bool}
theorem lastN_more {m j:Nat} {A B:List Bool} (h:m<=j+B.length):lastN m (A++B)=lastN m (lastN j A++B):=by
 unfold lastN
 obtain ⟨c,hc⟩ : ∃ c,c=A.length - j:=⟨_,rfl⟩
 rw [<-hc,<-List.drop_append_of_le_length (by omega),List.drop_drop,List.length_drop,List.length_append]
 congr 1
 omega
theorem lastN_long {m:Nat} {w:List Bool} (h:m<=w.length):(lastN m w).length=m:=by unfold lastN;rw [List.length_drop];omega
def BadP (rows:Rows) (u:List Bool):Prop:=∃ v s,Wr rows 0 v s/\((∃ p q,lastN (u.length - 1) (u.tail++v)++u=p++u++q/\p.length < (lastN (u.length - 1) (u.tail++v)).length)\/∃ r∈rows.getD s [],∃ p q,lastN (u.length - 1) (u.tail++v)++r.1=p++u++q)
theorem bad_of {x v B:List Bool} (hu:1<=u.length) (hB:1<=B.length) (h:lastN u.length (x++u++v++B)=u):∃ p,lastN (u.length - 1) (u.tail++v)++B=p++u:=by
 obtain ⟨c,u',rfl⟩ : ∃ c u',u=c :: u':=by
  cases u with
  | nil=>simp at hu
  | cons c u'=>exact ⟨c,u',rfl⟩
 have e:x++(c :: u')++v++B=(x++[c])++(u'++v++B):=by simp
 have l1:(c :: u').length - 1=u'.length:=by simp
 rw [e] at h
 have h2:lastN (c :: u').length (u'++v++B)=c :: u':=by
  have l2:(c :: u').length<=(u'++v++B).length:=by simp;omega
  have e2:lastN (c :: u').length ((x++[c])++(u'++v++B))=lastN (c :: u').length (u'++v++B):=by
   unfold lastN
   rw [List.length_append,show (x++[c]).length+(u'++v++B).length - (c :: u').length=(x++[c]).length+((u'++v++B).length - (c :: u').length) by omega,<-List.drop_drop,List.drop_left]
  rw [<-e2];exact h
 rw [lastN_more (j:=u'.length) (by simp;omega)] at h2
 obtain ⟨p,hp⟩:=lastN_pre (c :: u').length (lastN u'.length (u'++v)++B)
 rw [h2] at hp
 refine ⟨p,?_⟩
 rw [l1]
 exact hp
theorem rchS_iff {m:Nat} {s0:List Bool} (hs:s0.length<=m) {x:List Bool×Nat}:RchG (stepT rows m) (s0,0) x↔∃ w,Wr rows 0 w x.2/\x.1=lastN m (s0++w):=by
 have e0:lastN m s0=s0:=by unfold lastN;rw [Nat.sub_eq_zero_of_le hs];rfl
 constructor
 ·intro h
  induction h with
  | z=>exact ⟨[],.nil,by rw [List.append_nil,e0]⟩
  | s _ hb ih=>
   obtain ⟨w,hw,e⟩:=ih
   obtain ⟨r,hr,rfl⟩:=List.mem_map.mp hb
   exact ⟨w++r.1,.snoc hw hr,by rw [e,<-List.append_assoc];exact lastN_app m (s0++w) r.1⟩
 ·rintro ⟨w,hw,e⟩
  obtain ⟨t,s⟩:=x
  dsimp only at hw e
  subst e
  induction hw with
  | nil=>rw [List.append_nil,e0];exact .z
  | @snoc w b r hw hr ih=>
   refine .s ih (List.mem_map.mpr ⟨r,hr,?_⟩)
   dsimp only
   rw [lastN_app,List.append_assoc]
end
end Om
end
section
namespace K41
open PySem L2
def inB (w u:List Bool):Bool:=!(Builtin.Str.occurrences (bs w) (bs u) 0 (bs w).length 1).isEmpty
theorem inB_iff {w u:List Bool}:inB w u=true↔∃ p q,w=p++u++q:=in_bs w u
def GoodT (rows:Om.Rows) (u:List Bool) (x:List Bool×Nat):Prop:=(¬ ∃ p q,x.1++u=p++u++q/\p.length < x.1.length)/\∀ r∈rows.getD x.2 [],¬ ∃ p q,x.1++r.1=p++u++q
section
variable {P:Program} {w:World} {K:PySem.W.Frag} {mg:Str->Option Value} {base:Heap}
abbrev sClean:Stmt:=top 25
def spClean (P0:Addr):Sp:=fun vs H Q _=>match vs with
 | [cv,t]=>(∃ (k n:Nat) (rows:Om.Rows) (u:List Bool),t = .str (bs u)/\1<=u.length/\u.length<=8/\DV H cv (codeD k n rows)/\Om.CodeOk k n rows/\Tab P0 (lamPos lamTb) qTb H ∧
   ∀ (b:Bool) H',SameT P0 H H'->Tab P0 (lamPos lamTb) qTb H'->(b=true↔¬ Om.Fac rows u/\¬ Om.BadP rows u)->Q (.bl b) H') ∨
  (∃ Tx,tyN H t=some Tx/\Tx≠"str"/\Q (.bl false) H)\/∃ z:Str,t = .str z/\z.length<=100/\(z.length=0\/8 < z.length\/Txt.stripChars z ("01" : Str)≠("" : Str))/\Q (.bl false) H
 | _=>False
theorem scClean:FnScope ["code","mark","tail","state"] ["code","mark"] (defScope sClean):=⟨rfl,rfl,rfl,by decide +kernel,rfl,by decide +kernel,by decide +kernel⟩
local macro_rules | `(tactic| walk_at "T.c")=>`(tactic| (have ndc:(["row","mark","tail"]:List Str).Nodup:=(by decide +kernel));((with_reducible refine' c_comp ["row","mark","tail"] [1,2] ?b1 ?b2 (fun cl C s H fp=>?b3) (fun cl C s H fp=>?b4) (fun cl C s H fp=>?b5));(case b1=>exact ndc);(case b2=>walk_at "T.i");(case b3=>walk_at "T.g");(case b4=>walk_at "T.pf");(case b5=>walk_at "T.e")))
local macro_rules | `(tactic| walk_at "T.m")=>`(tactic| ((with_reducible refine' m_find ?a1 ?a2);(case a1=>walk_at "T.e");(case a2=>walk_at "T.a")))
local macro_rules | `(tactic| walk_at "T.cmp")=>`(tactic| (with_reducible exact op_inS))
local macro_rules | `(tactic| walk_at "T.b")=>`(tactic| ((with_reducible refine' fn_any ?a0 ?a9 ?a1);(case a0=>with_reducible assumption);(case a9=>rfl);(case a1=>walk_at "T.a")))
theorem ok_clean {P0:Addr} (D:FnX K mg "is_clean" sClean ["code","mark"]) (g1:mg "len" = none) (g2:mg "any" = none) (c1:Can P w K mg base "is_mark" 6 ["code","thing"] (spMark P0)) (c2:Can P w K mg base "tails_behind" 4 ["code","start","keep"] (spTails P0)):Can P w K mg base "is_clean" 7 ["code","mark"] (spClean P0):=by
 refine can_fn (k:=6) D scClean (fun vs H Q E h=>?_) (fun f0 cdv A outer s H vs Q E hr h=>?_)
 all_goals
  unfold spClean at h
  split at h
 ·rfl
 ·exact h.elim
 ·rename_i cv t
  have nd:=scClean.nd
  refine ⟨_,(by walk_at "T.top"),?_⟩
  rcases h with ⟨k,n,rows,u,rfl,u1,u8,hc,ok,tb,q⟩ | ⟨Tx,ht,ns,q⟩ | ⟨z,rfl,z100,hz,q⟩
  ·refine .inl ⟨k,n,rows,u,rfl,u1,u8,hc,ok,tb,fun b H1 s1 t1 hb=>?_⟩
   cases b with
   | false=>exact ite2 (fun _=>q false H1 s1 t1 ⟨(fun z=>nomatch z),fun z=>absurd (hb.mpr z.1) (by decide)⟩) (fun z=>absurd rfl z)
   | true=>
    have nf:=hb.mp rfl
    refine ite2 (fun z=>absurd z (by decide)) (fun _=>?_)
    have hc1:=hc.monoT tb s1
    clear hb
    have st1:Txt.slice (bs u) (some (1:Int)) none=bs u.tail:=by
     rw [bs_fromZ (by decide) (by omega)]
     congr 1
     cases u<;>rfl
    have e1:((u.length:Nat):Int) - 1=((u.length - 1:Nat):Int):=by omega
    dsimp only [tNext]
    refine ⟨by rw [bs_len];exact le_line (by omega),_,lenS (le_line (by omega)),?_⟩
    refine ⟨k,n,rows,u.length - 1,u.tail,st1,by simp,e1,by omega,hc1,ok,t1,fun l xs bz H2 s2 t2 nl hl bl hb hx x2=>?_⟩
    have hc2:=hc1.monoT t1 s2
    obtain ⟨a,b,ss,rfl,ha,hbb,hss⟩:=code_inv hc2
    have s12:=s1.trans s2
    have bad_of:∀ i (hi:i < xs.length),¬ GoodT rows u xs[i]->Om.BadP rows u:=fun i hi nb=>by
     obtain ⟨v,hv,ev⟩:=(Om.rchS_iff (by simp)).mp ((hx _).mp (List.getElem_mem hi))
     refine Classical.byContradiction fun z=>nb ⟨fun ⟨p,q,e,hp⟩=>z ⟨v,_,hv,.inl ⟨p,q,by rw [<-ev];exact e,by rw [<-ev];exact hp⟩⟩,fun r hr ⟨p,q,e⟩=>z ⟨v,_,hv,.inr ⟨r,hr,p,q,by rw [<-ev];exact e⟩⟩⟩
    refine ⟨⟨_,SqL.of hl⟩,for_by (it_list _ l (bz.map V.ref)) (fun i σ H3=>∃ v2 v3:Option V,σ=[some (.ref a),some (.str (bs u)),v2,v3]/\Same H2 H3/\∀ j (hj:j < xs.length),j < i->GoodT rows u xs[j])
     ⟨none,none,rfl,Same.refl _,fun j _ h=>absurd h (Nat.not_lt_zero _)⟩ (fun i σ H3 _ ⟨_,_,_,s3,_⟩=>SqL.of (s3 _ _ hl)) ?_ ?_⟩
    ·rintro i z σ H3 hi hz ⟨v2,v3,rfl,s3,gd⟩
     rw [List.length_map] at hi
     have hi':i < xs.length:=by omega
     obtain ⟨bb,b1,b2⟩:=hb i xs[i] (List.getElem?_eq_getElem hi')
     rw [List.getElem?_map,b1] at hz
     cases hz
     have xr:=(hx _).mp (List.getElem_mem hi')
     have bad:=bad_of i hi'
     obtain ⟨w0,hw0,ew0⟩:=(Om.rchS_iff (by simp)).mp xr
     have xl:xs[i].2 < rows.length:=hw0.lt ok ok.s1
     have x7:xs[i].1.length<=7:=by rw [ew0];exact Nat.le_trans (Om.lastN_le _ _) (by omega)
     have nxt:GoodT rows u xs[i]->∀ j (hj:j < xs.length),j < i+1->GoodT rows u xs[j]:=fun g j hj h=>by
      by_cases e:j=i
      ·subst e;exact g
      ·exact gd j hj (by omega)
     generalize xs[i]=x at b2 bad xl x7 nxt
     clear xr hw0 ew0 gd
     obtain ⟨qx,rx,f1,f2,f3⟩:=state_at hss (s:=x.2) (st:=rows[x.2]) (List.getElem?_eq_getElem xl)
     have rl:rx.length=rows[x.2].length:=by rw [f3.length,List.length_map]
     have r8:rows[x.2].length<=8:=by rw [ok.len _ (List.getElem_mem xl)];exact Om.pow8 ok.k3
     have eg:rows.getD x.2 []=rows[x.2]:=by rw [List.getD_eq_getElem?_getD,List.getElem?_eq_getElem xl];rfl
     have t3:=t2.mono s3
     refine ⟨_,.inl (s3 _ _ b2),rfl,rfl,?_⟩
     dsimp only
     refine ⟨by rw [bs_len,bs_len];exact le_line (by omega),rfl,_,lenS (le_line (by omega)),?_⟩
     have fd:=find_bs x.1 u
     rw [<-bs_app] at fd
     refine ite2 (fun c1=>?_) (fun c1=>?_)
     ·refine q false _ (s12.trans s3.t) t3 ⟨(fun z=>nomatch z),fun z=>absurd (bad fun g=>?_) z.2⟩
      rw [decide_eq_true (fd.mpr g.1)] at c1
      exact absurd c1 (by decide)
     ·have g1:¬ ∃ p q,x.1++u=p++u++q/\p.length < x.1.length:=by
       refine fd.mp (Classical.byContradiction fun z=>c1 ?_)
       rw [decide_eq_false z]
       rfl
      refine ⟨_,gt (s3 _ _ ha) (by decide) rfl,.ref qx,gl (s3 _ _ hbb) (by omega) (by simpa using f1),⟨_,SqL.of (s3 _ _ f2)⟩,fun C hC=>?_⟩
      have sC:∀ o,Same H2 (upd H3 C o):=fun o=>s3.trans (Same.upd hC)
      refine comp_by (it_list _ qx rx) (fun i τ H5 ys=>(∃ v,τ=[v,some (.str (bs u)),some (.str (bs x.1))])/\H5=upd H3 C (.lst ys)/\i<=rx.length/\ys=(rows[x.2].take i).map fun r=>V.bl (inB (x.1++r.1) u)) (le_line (by omega)) ⟨⟨none,rfl⟩,rfl,Nat.zero_le _,by simp⟩ ?_ ?_ ?_
      ·rintro i τ H5 ys hi ⟨_,rfl,_,rfl⟩
       exact ⟨SqL.of (sC _ _ _ f2),upd_same,by rw [List.length_map,List.length_take];omega⟩
      ·rintro i z τ H5 ys hi hz ⟨⟨v,rfl⟩,rfl,_,rfl⟩
       have hj':i < rows[x.2].length:=by omega
       obtain ⟨r,r1,r2⟩:=row_at f3 (l:=i) (r:=rows[x.2][i]) (List.getElem?_eq_getElem hj')
       rw [hz] at r1
       cases r1
       have okr:=ok.row _ (List.getElem_mem xl) _ (List.getElem_mem hj')
       have n6:=ok.n6
       refine ⟨_,gt (sC _ _ _ r2) (by decide) rfl,by rw [bs_len,bs_len];exact le_line (by omega),?_⟩
       rw [bs_app]
       refine ⟨upd_same,⟨_,rfl⟩,upd_upd,by omega,?_⟩
       rw [List.take_add_one,List.getElem?_eq_getElem hj',List.map_append]
       rfl
      ·rintro τ H5 ys ⟨_,rfl,_,rfl⟩
       rw [List.take_of_length_le (by omega)]
       refine ⟨rows[x.2].map fun r=>inB (x.1++r.1) u,by rw [upd_same,List.map_map];rfl,?_⟩
       have ea:(rows[x.2].map fun r=>inB (x.1++r.1) u).any id=true↔∃ r∈rows.getD x.2 [],∃ p q,x.1++r.1=p++u++q:=by
        rw [eg,List.any_eq_true]
        constructor
        ·rintro ⟨b,hb,e⟩
         obtain ⟨r,hr,rfl⟩:=List.mem_map.mp hb
         exact ⟨r,hr,inB_iff.mp e⟩
        ·rintro ⟨r,hr,e⟩
         exact ⟨_,List.mem_map.mpr ⟨r,hr,rfl⟩,inB_iff.mpr e⟩
       refine ite2 (fun c2=>?_) (fun c2=>?_)
       ·refine q false _ (s12.trans (sC _).t) (t2.mono (sC _)) ⟨(fun z=>nomatch z),fun z=>absurd (bad fun g=>?_) z.2⟩
        obtain ⟨r,hr,h⟩:=ea.mp c2
        exact g.2 r hr h
       ·exact ⟨_,_,rfl,sC _,nxt ⟨g1,fun r hr h=>c2 (ea.mpr ⟨r,hr,h⟩)⟩⟩
    ·rintro σ H3 ⟨v2,v3,rfl,s3,gd⟩
     rw [List.length_map] at gd
     refine q true _ (s12.trans s3.t) (t2.mono s3) ⟨fun _=>⟨nf,?_⟩,fun _=>rfl⟩
     rintro ⟨v,s,hv,h⟩
     have xm:(Om.lastN (u.length - 1) (u.tail++v),s)∈xs:=(hx _).mpr ((Om.rchS_iff (by simp)).mpr ⟨v,hv,rfl⟩)
     obtain ⟨j,hj,ej⟩:=List.getElem_of_mem xm
     have g:=gd j hj (by omega)
     rw [ej] at g
     rcases h with h | ⟨r,hr,h⟩
     ·exact g.1 h
     ·exact g.2 r hr h
  ·refine .inr (.inl ⟨Tx,ht,ns,?_⟩)
   exact ite2 (fun _=>q) (fun z=>absurd rfl z)
  ·refine .inr (.inr ⟨z,rfl,z100,hz,?_⟩)
   exact ite2 (fun _=>q) (fun z=>absurd rfl z)
 ·exact h.elim
end
end K41
end
section
namespace K41
open PySem L2
section
variable {P:Program} {w:World} {K:PySem.W.Frag} {mg:Str->Option Value} {base:Heap}
abbrev sWhole:Stmt:=top 11
theorem scWhole:FnScope ["thing"] ["thing"] (defScope sWhole):=⟨rfl,rfl,rfl,by decide +kernel,rfl,by decide +kernel,by decide +kernel⟩
theorem ok_whole (D:FnX K mg "is_whole" sWhole ["thing"]) (g1:mg "isinstance" = none) (g2:mg "int" = none) (g3:mg "bool" = none):Can P w K mg base "is_whole" 1 ["thing"] spWholeD:=by
 refine can_fn (k:=0) D scWhole (fun vs H Q E h=>?_) (fun f cdv A outer s H vs Q E hr h=>?_)
 all_goals
  unfold spWholeD at h
  split at h
 ·rfl
 ·exact h.elim
 ·rename_i v
  obtain ⟨d,hd,q⟩:=h
  have nd:=scWhole.nd
  refine ⟨_,(by walk_at "T.top1"),?_⟩
  refine ⟨tyD d,hd.ty,by decide,?_⟩
  cases d with
  | int i=>exact iteP rfl ⟨"int",hd.ty,by decide,q⟩
  | bool b=>exact iteP rfl ⟨"bool",hd.ty,by decide,q⟩
  | _=>exact iteN rfl q
 ·exact h.elim
end
end K41
end
section
namespace K41
open PySem L2
section
variable {P:Program} {w:World} {K:PySem.W.Frag} {mg:Str->Option Value} {base:Heap}
abbrev sLetter:Stmt:=top 12
def ltV (j:Nat):V->Bool
 | .int i=>decide (0<=i) && decide (i < 2 ^ j)
 | _=>false
theorem bits_iff {i:Int} {k:Nat} (h0:0<=i):decide (((Builtin.Int.intBits i:Nat):Int)<=(k:Int))=decide (i < 2 ^ k):=by
 rw [decide_eq_decide]
 refine ⟨fun h=>?_,fun h=>bits_le h0 h⟩
 unfold Builtin.Int.intBits at h
 by_cases hi:i=0
 ·subst hi;exact Int.pow_pos (by decide)
 ·have hb:(i == 0)=false:=by simpa using hi
  rw [hb] at h
  simp only [Bool.false_eq_true,if_false] at h
  have hn:i.natAbs≠0:=by omega
  have h2:i.natAbs < 2 ^ k:=(Nat.log2_lt hn).mp (by omega)
  have e:((i.natAbs:Nat):Int)=i:=by omega
  have:((i.natAbs:Nat):Int) < ((2 ^ k:Nat):Int):=by exact_mod_cast h2
  rw [e] at this
  simpa using this
def spLetterD:Sp:=fun vs H Q _=>match vs with
 | [.int k,v]=>∃ (j:Nat) (d:PyData),k=(j:Int)/\DV H v d/\Q (.bl (ltV j v)) H
 | _=>False
theorem scLetter:FnScope ["k","thing"] ["k","thing"] (defScope sLetter):=⟨rfl,rfl,rfl,by decide +kernel,rfl,by decide +kernel,by decide +kernel⟩
theorem ok_letter (D:FnX K mg "is_letter" sLetter ["k","thing"]) (c1:Can P w K mg base "is_whole" 1 ["thing"] spWholeD):Can P w K mg base "is_letter" 2 ["k","thing"] spLetterD:=by
 refine can_fn (k:=1) D scLetter (fun vs H Q E h=>?_) (fun f cdv A outer s H vs Q E hr h=>?_)
 all_goals
  unfold spLetterD at h
  split at h
 ·rfl
 ·exact h.elim
 ·rename_i k v
  obtain ⟨j,d,rfl,hd,q⟩:=h
  have nd:=scLetter.nd
  refine ⟨_,(by walk_at "T.top1"),?_⟩
  refine ⟨d,hd,?_⟩
  cases hd with
  | int i=>
   refine iteP rfl ?_
   refine ite2 (fun h1=>?_) (fun h1=>?_)
   ·have h0:0<=i:=of_decide_eq_true h1
    refine ⟨rfl,?_⟩
    show Q (.bl (decide (((Builtin.Int.intBits i:Nat):Int)<=(j:Int)))) H
    rw [bits_iff h0]
    have e:ltV j (.int i)=decide (i < 2 ^ j):=by show (decide (0<=i) && decide (i < 2 ^ j))=_;rw [decide_eq_true h0,Bool.true_and]
    rw [e] at q
    exact q
   ·have e:ltV j (.int i)=false:=by show (decide (0<=i) && decide (i < 2 ^ j))=_;rw [decide_eq_false (fun z=>h1 (decide_eq_true z)),Bool.false_and]
    rw [e] at q
    exact q
  | _=>exact iteN rfl q
 ·exact h.elim
abbrev sLetterL:Stmt:=top 13
def spLetterL:Sp:=fun vs H Q _=>match vs with
 | [.int k,v]=>∃ j:Nat,k=(j:Int)/\((∃ T,tyN H v=some T/\(T == "list")=false/\Q (.bl false) H)\/∃ l xs ds,v = .ref l/\H l=some (.lst xs)/\DVs H xs ds/\xs.length<=1000/\∀ H',Same H H'->Q (.bl (xs.all (ltV j))) H')
 | _=>False
theorem scLetterL:FnScope ["k","thing"] ["k","thing"] (defScope sLetterL):=⟨rfl,rfl,rfl,by decide +kernel,rfl,by decide +kernel,by decide +kernel⟩
local macro_rules | `(tactic| walk_at "T.c")=>`(tactic| (have ndc:(["one","k"]:List Str).Nodup:=(by decide +kernel));((with_reducible refine' c_comp ["one","k"] [0] ?b1 ?b2 (fun cl C s H fp=>?b3) (fun cl C s H fp=>?b4) (fun cl C s H fp=>?b5));(case b1=>exact ndc);(case b2=>walk_at "T.i");(case b3=>walk_at "T.g");(case b4=>walk_at "T.pf");(case b5=>walk_at "T.e")))
theorem ok_letterL (D:FnX K mg "is_letter_list" sLetterL ["k","thing"]) (g1:mg "isinstance" = none) (g2:mg "list" = none) (g3:mg "all" = none) (c1:Can P w K mg base "is_letter" 2 ["k","thing"] spLetterD):Can P w K mg base "is_letter_list" 3 ["k","thing"] spLetterL:=by
 refine can_fn (k:=2) D scLetterL (fun vs H Q E h=>?_) (fun f cdv A outer s H vs Q E hr h=>?_)
 all_goals
  unfold spLetterL at h
  split at h
 ·rfl
 ·exact h.elim
 ·rename_i k v
  obtain ⟨j,rfl,h⟩:=h
  have nd:=scLetterL.nd
  refine ⟨_,(by walk_at "T.top1"),?_⟩
  rcases h with ⟨T,hT,nT,q⟩ | ⟨l,xs,ds,rfl,hl,dv,hz,q⟩
  ·refine ⟨T,hT,by decide,?_⟩
   have e:(T == "list" || (T == "bool" && ("list" : String) == "int"))=false:=by rw [nT,Bool.false_or];simp
   rw [e]
   exact iteF q
  ·refine ⟨"list",(by simp [tyN,hl]),by decide,?_⟩
   refine iteP (by decide) ?_
   refine ⟨⟨_,SqL.of hl⟩,fun D hD=>?_⟩
   refine comp_map1 (it_list _ l xs) (fun x=>.bl (ltV j x)) (le_line hz) (fun o=>SqL.upd hl hD) (fun i x ys hx C c=>?_) ?_
   ·have hi:=(List.getElem?_eq_some_iff.mp hx).1
    obtain ⟨d,hd⟩ : ∃ d,ds[i]? = some d:=⟨ds[i]'(by rw [<-dv.length];exact hi),List.getElem?_eq_getElem _⟩
    obtain ⟨x',hx',dx⟩:=dv.get hd
    rw [hx] at hx'
    cases hx'
    exact ⟨j,d,rfl,dx.mono (Same.upd hD),c⟩
   ·refine ⟨xs.map (ltV j),by rw [upd_same,List.map_map];rfl,?_⟩
    have e:(xs.map (ltV j)).all id=xs.all (ltV j):=by rw [List.all_map];rfl
    rw [e]
    exact q _ (Same.upd hD)
 ·exact h.elim
end
end K41
end
section
namespace K41
open PySem L2
section
variable {P:Program} {w:World} {K:PySem.W.Frag} {mg:Str->Option Value} {base:Heap}
theorem DVs.ints {H:Hp}:∀ ns:List Int,DVs H (ns.map V.int) (ns.map PyData.int)
 | []=>.nil
 | n :: ns=>.cons (.int n) (DVs.ints ns)
theorem all_ltV {k:Nat} {ls:List Nat} (h:∀ l∈ls,l < 2 ^ k):((ni ls).map V.int).all (ltV k)=true:=by
 rw [List.all_eq_true]
 intro x hx
 obtain ⟨i,hi,rfl⟩:=List.mem_map.mp hx
 obtain ⟨l,hl,rfl⟩:=List.mem_map.mp hi
 show (decide (0<=((l:Nat):Int)) && decide (((l:Nat):Int) < 2 ^ k))=true
 have:=h l hl
 rw [decide_eq_true (by omega),decide_eq_true (by exact_mod_cast this)]
 rfl
abbrev sSent:Stmt:=top 17
def spSent (C:Addr):Sp:=fun vs H Q E=>match vs with
 | [cv,.int st,v]=>∃ (k n:Nat) (rows:Om.Rows) (s0:Nat),DV H cv (codeD k n rows)/\Om.CodeOk k n rows/\st=(s0:Int)/\s0 < rows.length ∧
   ((∃ (t:Addr) (ls:List Nat),v = .ref t/\H t=some (.lst ((ni ls).map V.int))/\ls.length<=750/\(∀ l∈ls,l < 2 ^ k)/\∀ p H',Same H H'->H' p=some (.tup [.str (bs (Om.send rows s0 ls).1),.int ((Om.send rows s0 ls).2:Nat)])->Q (.ref p) H') ∨
     (∃ T,tyN H v=some T/\(T == "list")=false/\E (.ref C) none H) ∨
     ∃ l xs ds,v = .ref l/\H l=some (.lst xs)/\DVs H xs ds/\xs.length<=1000/\xs.all (ltV k)=false/\∀ H',Same H H'->E (.ref C) none H')
 | _=>False
theorem scSent:FnScope ["code","state","text","words","letter","row"] ["code","state","text"] (defScope sSent):=⟨rfl,rfl,rfl,by decide +kernel,rfl,by decide +kernel,by decide +kernel⟩
theorem ok_sent (D:FnX K mg "sent" sSent ["code","state","text"]) {C:Addr} (hE:ExnOk K C) (hm:mg "NoLetter" = some (.ref C)) (c1:Can P w K mg base "is_letter_list" 3 ["k","thing"] spLetterL):CanY P w K mg base "sent" 4 ["code","state","text"] (spSent C):=by
 refine canY_fn (k:=3) D scSent (fun vs H Q E h=>?_) (fun f cdv A outer s H vs Q E hr h=>?_)
 all_goals
  unfold spSent at h
  split at h
 ·rfl
 ·exact h.elim
 ·rename_i cv st v
  obtain ⟨k,n,rows,s0,hc,ok,rfl,hs0,h⟩:=h
  have nd:=scSent.nd
  obtain ⟨a,b,ss,rfl,ha,hb,hss⟩:=code_inv hc
  refine ⟨_,pss_cons (ps_if (PT.nox (by walk_at "T.t")) (pss_one (s_raiseP hE hm (by walk_at "T.a"))) pss_nil) (PSs.nox (by walk_at "T.s")),?_⟩
  refine ⟨_,gt ha (by decide) rfl,?_⟩
  rcases h with ⟨t,ls,rfl,ht,hlen,hls,q⟩ | ⟨T,hT,nT,q⟩ | ⟨l,xs,ds,rfl,hl,dv,hz,bad,q⟩
  rotate_left
  ·refine ⟨k,rfl,.inl ⟨T,hT,nT,?_⟩⟩
   exact iteP rfl ⟨by decide,q⟩
  ·refine ⟨k,rfl,.inr ⟨l,xs,ds,rfl,hl,dv,hz,fun H1 s1=>?_⟩⟩
   rw [bad]
   exact iteP rfl ⟨by decide,q _ s1⟩
  refine ⟨k,rfl,.inr ⟨t,_,_,rfl,ht,DVs.ints _,by unfold ni;rw [List.length_map,List.length_map];omega,fun H1 s1=>?_⟩⟩
  rw [all_ltV hls]
  refine iteF ?_
  refine ⟨Nat.zero_le _,fun wl hwl=>?_⟩
  have s2:∀ o,Same H (upd H1 wl o):=fun o=>s1.trans (Same.upd hwl)
  have hn:(ni ls).length=ls.length:=by unfold ni;simp
  refine ⟨⟨_,SqL.of (s2 _ _ _ ht)⟩,for_by (it_list _ t ((ni ls).map V.int)) (fun i σ H2=>(∃ v4 v5,σ=[some (.ref a),some (.int ((Om.send rows s0 (ls.take i)).2:Nat)),some (.ref t),some (.ref wl),v4,v5])/\H2=upd H1 wl (.lst ((Om.words rows s0 (ls.take i)).map fun w=>V.str (bs w)))/\(Om.send rows s0 (ls.take i)).2 < rows.length)
   ⟨⟨none,none,rfl⟩,rfl,hs0⟩ (fun i σ H2 _ ⟨_,e,_⟩=>SqL.of (by rw [e];exact s2 _ _ _ ht)) ?_ ?_⟩
  ·rintro i x σ H2 hi hx ⟨⟨v4,v5,rfl⟩,rfl,hlt⟩
   rw [List.getElem?_map,ni,List.getElem?_map] at hx
   obtain ⟨n',hn',rfl⟩:=Option.map_eq_some_iff.mp hx
   obtain ⟨l,hl,rfl⟩:=Option.map_eq_some_iff.mp hn'
   obtain ⟨st,e1,e2,e3,e4⟩:=Om.step_get ok hlt (hls l (List.mem_of_getElem? hl))
   obtain ⟨p,rs,f1,f2,f3⟩:=state_at hss e1
   obtain ⟨r,f4,f5⟩:=row_at f3 e2
   refine ⟨_,gt (s2 _ _ _ ha) (by decide) rfl,_,gl (s2 _ _ _ hb) (by omega) (by simpa using f1),_,gl (s2 _ _ _ f2) (by omega) (by simpa using f4),?_⟩
   refine ⟨⟨_,rfl,upd_same⟩,?_⟩
   refine ⟨_,gt (s2 _ _ _ f5) (by decide) rfl,_,upd_same,?_,?_⟩
   ·rw [List.length_map,Om.words_len,List.length_take];exact lt_line (by omega)
   refine ⟨_,gt (by rw [upd_upd];exact s2 _ _ _ f5) (by decide) rfl,?_⟩
   have ti:ls.take (i+1)=ls.take i++[l]:=by rw [List.take_add_one,hl];rfl
   refine ⟨⟨some (.int l),some (.ref r),?_⟩,?_,?_⟩
   ·rw [ti,Om.send_snoc];rfl
   ·rw [upd_upd,ti,Om.words_snoc,List.map_append];rfl
   ·rw [ti,Om.send_snoc];exact e4
  ·rintro σ H2 ⟨⟨v4,v5,rfl⟩,rfl,hlt⟩
   have tl:ls.take ((ni ls).map V.int).length=ls:=List.take_of_length_le (by rw [List.length_map,hn];exact Nat.le_refl _)
   rw [tl]
   have ws:(Om.words rows s0 ls).map (fun w=>V.str (bs w))=((Om.words rows s0 ls).map bs).map V.str:=by rw [List.map_map];rfl
   refine ⟨rfl,(Om.words rows s0 ls).map bs,by rw [upd_same,ws],?_,?_⟩
   ·have h1:(((Om.words rows s0 ls).map bs).map (·.length)).sum=((Om.words rows s0 ls).flatten).length:=by
     rw [List.length_flatten,List.map_map]
     congr 1
     apply List.map_congr_left
     intro x _
     exact bs_len x
    have h2:((Om.words rows s0 ls).flatten).length<=4500:=by
     rw [Om.words_flat,(Om.send_ok ok ls s0 hs0 hls).1]
     have h6:=ok.n6
     calc n * ls.length<=6 * 750:=Nat.mul_le_mul h6 hlen
      _<=4500:=by decide
    have h3:(("" : Str)).length=0:=by decide +kernel
    rw [h1,h3]
    omega
   refine ⟨le_line (Nat.le_of_ble_eq_true rfl),fun p hp=>?_⟩
   refine q p _ ((s2 _).trans (Same.upd hp)) ?_
   rw [upd_same,bs_join,Om.words_flat]
 ·exact h.elim
end
end K41
end
section
namespace Om
variable {k n:Nat} {rows:Rows} {u:List Bool}
theorem step_in (ok:CodeOk k n rows) {s l:Nat} (hs:s < rows.length) (hl:l < 2 ^ k):step rows s l∈rows.getD s []:=by
 have e:rows.getD s []=rows[s]:=by rw [List.getD_eq_getElem?_getD,List.getElem?_eq_getElem hs];rfl
 have hl':l < rows[s].length:=by rw [ok.len _ (List.getElem_mem hs)];exact hl
 unfold step
 rw [e,List.getD_eq_getElem?_getD,List.getElem?_eq_getElem hl']
 exact List.getElem_mem hl'
theorem wr_send (ok:CodeOk k n rows):∀ (ls:List Nat) (s:Nat),s < rows.length->(∀ l∈ls,l < 2 ^ k)->Wr rows s (send rows s ls).1 (send rows s ls).2
 | [],s,_,_=>.nil
 | l :: ls,s,hs,h=>by
  have hi:=step_in ok hs (h l (List.mem_cons_self ..))
  have h2:=(row_in ok hi).2.1
  have w1:Wr rows s ([]++(step rows s l).1) (step rows s l).2:=.snoc .nil hi
  rw [List.nil_append] at w1
  exact w1.app (wr_send ok ls _ h2 fun x hx=>h x (List.mem_cons_of_mem _ hx))
theorem clean_wire (hu:1<=u.length) (nf:¬ Fac rows u) (nb:¬ BadP rows u) {v:List Bool} {s:Nat} (hv:Wr rows 0 v s):∀ i,i < v.length->((v++u).drop i).take u.length≠u:=by
 intro i hi z
 have hl:i+u.length<=(v++u).length:=by
  have:=congrArg List.length z
  rw [List.length_take,List.length_drop] at this
  omega
 have ez:v++u=(v++u).take i++u++(v++u).drop (i+u.length):=by
  conv=>lhs;rw [<-List.take_append_drop i (v++u),<-List.take_append_drop u.length ((v++u).drop i),z,List.drop_drop]
  rw [List.append_assoc]
 have pi:((v++u).take i).length=i:=by rw [List.length_take];omega
 generalize (v++u).take i=p at ez pi
 generalize (v++u).drop (i+u.length)=q at ez
 by_cases c:i+u.length<=v.length
 ·refine nf ⟨v,s,p,v.drop (i+u.length),hv,?_⟩
  have e1:=congrArg (List.take (i+u.length)) ez
  have e2:(p++u++q).take (i+u.length)=p++u:=by
   rw [<-pi,<-List.length_append,List.take_left]
  rw [List.take_append_of_le_length c,e2] at e1
  rw [<-e1,List.take_append_drop]
 ·refine nb ⟨v,s,hv,.inl ⟨(u.tail++p).drop v.length,q,?_,?_⟩⟩
  ·have lt:u.tail.length=u.length - 1:=by simp
   have e0:lastN (u.length - 1) (u.tail++v)=(u.tail++v).drop v.length:=by
    unfold lastN
    congr 1
    rw [List.length_append,lt];omega
   rw [e0]
   have e1:(u.tail++v).drop v.length++u=(u.tail++(v++u)).drop v.length:=by
    rw [<-List.append_assoc]
    exact (List.drop_append_of_le_length (l₁:=u.tail++v) (l₂:=u) (by rw [List.length_append];omega)).symm
   have e3:u.tail++(p++u++q)=(u.tail++p)++(u++q):=by simp
   rw [e1,ez,e3,List.drop_append_of_le_length (by rw [List.length_append,lt];omega),List.append_assoc]
  ·have lt:u.tail.length=u.length - 1:=by simp
   rw [lastN_long (by rw [List.length_append,lt];omega),List.length_drop,List.length_append,lt]
   omega
theorem fac_word (ok:CodeOk k n rows) {r:List Bool×Nat} (h:r∈rows.getD 0 []):Fac rows r.1:=
 ⟨[]++r.1,r.2,[],[],.snoc .nil h,by simp⟩
end Om
end
section
namespace K41
open PySem L2
section
variable {P:Program} {w:World} {K:PySem.W.Frag} {mg:Str->Option Value} {base:Heap}
abbrev sRefU:Stmt:=top 27
def MkOk (H:Hp) (t:V):Prop:=(∃ u:List Bool,t = .str (bs u)/\1<=u.length/\u.length<=8)\/(∃ Tx,tyN H t=some Tx/\Tx≠"str")\/∃ z:Str,t = .str z/\z.length<=100/\(z.length=0\/8 < z.length\/Txt.stripChars z ("01" : Str)≠("" : Str))
def ClnM (rows:Om.Rows) (t:V):Prop:=∃ u:List Bool,t = .str (bs u)/\1<=u.length/\u.length<=8/\¬ Om.Fac rows u/\¬ Om.BadP rows u
theorem strip_bs (u:List Bool):Txt.stripChars (bs u) ("01" : Str)=("" : Str):=by rw [strip01,bs_nil]
theorem ClnM.sgn {rows:Om.Rows} {u:List Bool} (u1:1<=u.length) (u8:u.length<=8):ClnM rows (.str (bs u))↔¬ Om.Fac rows u/\¬ Om.BadP rows u:=
 ⟨fun ⟨v,e,_,_,h⟩=>by cases bs_inj (V.str.inj e);exact h,fun h=>⟨u,rfl,u1,u8,h⟩⟩
def spRefU (P0 C:Addr):Sp:=fun vs H Q E=>match vs with
 | [cv,t]=>∃ (k n:Nat) (rows:Om.Rows),DV H cv (codeD k n rows)/\Om.CodeOk k n rows/\Tab P0 (lamPos lamTb) qTb H/\MkOk H t ∧
   (ClnM rows t->∀ H',SameT P0 H H'->Tab P0 (lamPos lamTb) qTb H'->Q .non H')/\(¬ ClnM rows t->∀ H',SameT P0 H H'->Tab P0 (lamPos lamTb) qTb H'->E (.ref C) none H')
 | _=>False
theorem scRefU:FnScope ["code","mark"] ["code","mark"] (defScope sRefU):=⟨rfl,rfl,rfl,by decide +kernel,rfl,by decide +kernel,by decide +kernel⟩
local macro_rules | `(tactic| walk_at "T.st")=>`(tactic| ((with_reducible refine' s_raiseP ?a0 ?a3 ?a6);(case a0=>with_reducible assumption);(case a3=>with_reducible assumption);(case a6=>walk_at "T.a")))
theorem ok_refU {P0 C:Addr} (D:FnX K mg "refuse_unclean" sRefU ["code","mark"]) (Z0:ExnOk K C) (m0:mg "NoMark" = some (.ref C)) (c1:Can P w K mg base "is_clean" 7 ["code","mark"] (spClean P0)):CanY P w K mg base "refuse_unclean" 8 ["code","mark"] (spRefU P0 C):=by
 refine canY_fn (k:=7) D scRefU (fun vs H Q E h=>?_) (fun f cdv A outer s H vs Q E hr h=>?_)
 all_goals
  unfold spRefU at h
  split at h
 ·rfl
 ·exact h.elim
 ·rename_i cv t
  obtain ⟨k,n,rows,hc,ok,tb,hm,qy,qn⟩:=h
  have nd:=scRefU.nd
  refine ⟨_,(by walk_at "T.top"),?_⟩
  rcases hm with ⟨u,rfl,u1,u8⟩ | ⟨Tx,ht,ns⟩ | ⟨z,rfl,z1,hz⟩
  ·refine .inl ⟨k,n,rows,u,rfl,u1,u8,hc,ok,tb,fun b H1 s1 t1 hb=>?_⟩
   rw [<-ClnM.sgn u1 u8] at hb
   cases b with
   | false=>exact iteP rfl ⟨by decide,qn (fun z=>absurd (hb.mpr z) (by decide)) H1 s1 t1⟩
   | true=>exact iteN (by decide) (qy (hb.mp rfl) H1 s1 t1)
  ·refine .inr (.inl ⟨Tx,ht,ns,?_⟩)
   refine iteP rfl ⟨by decide,qn (fun ⟨u,e,_⟩=>?_) H (Same.refl _).t tb⟩
   subst e
   cases ht
   exact ns rfl
  ·refine .inr (.inr ⟨z,rfl,z1,hz,?_⟩)
   refine iteP rfl ⟨by decide,qn (fun ⟨u,e,u1,u8,_⟩=>?_) H (Same.refl _).t tb⟩
   cases e
   rw [bs_len] at hz
   rcases hz with h | h | h
   ·omega
   ·omega
   ·exact h (strip_bs u)
 ·exact h.elim
end
end K41
end
section
namespace K41
open PySem L2
section
variable {P:Program} {w:World} {K:PySem.W.Frag} {mg:Str->Option Value} {base:Heap}
theorem tyN_T {H H':Hp} {x:V} {T:String} {P0:Addr} {pos:Pos} {qual:Str} (h:tyN H x=some T) (t:Tab P0 pos qual H) (s:SameT P0 H H'):tyN H' x=some T:=by
 obtain ⟨ps,ht⟩:=t.tbl
 cases x with
 | ref a=>
  have h1:(match H a with | some (.lst _)=>some "list" | some (.tup _)=>some "tuple" | some (.dK _)=>some "dict" | _=>none)=some T:=h
  show (match H' a with | some (.lst _)=>some "list" | some (.tup _)=>some "tuple" | some (.dK _)=>some "dict" | _=>none)=some T
  by_cases z:a=P0
  ·subst z
   rw [ht] at h1
   cases h1
  ·cases e:H a with
   | none=>rw [e] at h1;cases h1
   | some o=>rw [e] at h1;rw [s _ _ z e];exact h1
 | _=>exact h
theorem tyN_S {H H':Hp} {x:V} {T:String} (h:tyN H x=some T) (s:Same H H'):tyN H' x=some T:=by
 cases x with
 | ref a=>
  have h1:(match H a with | some (.lst _)=>some "list" | some (.tup _)=>some "tuple" | some (.dK _)=>some "dict" | _=>none)=some T:=h
  show (match H' a with | some (.lst _)=>some "list" | some (.tup _)=>some "tuple" | some (.dK _)=>some "dict" | _=>none)=some T
  cases e:H a with
  | none=>rw [e] at h1;cases h1
  | some o=>rw [e] at h1;rw [s _ _ e];exact h1
 | _=>exact h
theorem lst_T {H H':Hp} {a P0:Addr} {xs:List V} {pos:Pos} {qual:Str} (h:H a=some (.lst xs)) (t:Tab P0 pos qual H) (s:SameT P0 H H'):H' a=some (.lst xs):=by
 obtain ⟨ps,ht⟩:=t.tbl
 exact s _ _ (fun z=>by subst z;rw [ht] at h;cases h) h
theorem DVs_T {H H':Hp} {P0:Addr} {pos:Pos} {qual:Str} (t:Tab P0 pos qual H) (s:SameT P0 H H'):∀ {xs:List V} {ds:List PyData},DVs H xs ds->DVs H' xs ds
 | _,_,.nil=>.nil
 | _,_,.cons h r=>.cons (h.monoT t s) (DVs_T t s r)
def FrG (k:Nat) (H:Hp) (v:V) (ls:List Nat):Prop:=∃ t,v = .ref t/\H t=some (.lst ((ni ls).map V.int))/\ls.length<=100/\∀ l∈ls,l < 2 ^ k
def FrB (k:Nat) (H:Hp) (v:V):Prop:=(∃ T,tyN H v=some T/\(T == "list")=false)\/∃ l xs ds,v = .ref l/\H l=some (.lst xs)/\DVs H xs ds/\xs.length<=100/\xs.all (ltV k)=false
theorem FrG.monoT {k:Nat} {H H':Hp} {v:V} {ls:List Nat} {P0:Addr} {pos:Pos} {qual:Str} (h:FrG k H v ls) (t:Tab P0 pos qual H) (s:SameT P0 H H'):FrG k H' v ls:=by
 obtain ⟨a,e,h1,h2⟩:=h
 exact ⟨a,e,lst_T h1 t s,h2⟩
theorem FrB.monoT {k:Nat} {H H':Hp} {v:V} {P0:Addr} {pos:Pos} {qual:Str} (h:FrB k H v) (t:Tab P0 pos qual H) (s:SameT P0 H H'):FrB k H' v:=by
 rcases h with ⟨T,h1,h2⟩ | ⟨l,xs,ds,e,h1,h2,h3⟩
 ·exact .inl ⟨T,tyN_T h1 t s,h2⟩
 ·exact .inr ⟨l,xs,ds,e,lst_T h1 t s,DVs_T t s h2,h3⟩
theorem FrG.mono {k:Nat} {H H':Hp} {v:V} {ls:List Nat} (h:FrG k H v ls) (s:Same H H'):FrG k H' v ls:=by
 obtain ⟨a,e,h1,h2⟩:=h
 exact ⟨a,e,s _ _ h1,h2⟩
theorem FrB.mono {k:Nat} {H H':Hp} {v:V} (h:FrB k H v) (s:Same H H'):FrB k H' v:=by
 rcases h with ⟨T,h1,h2⟩ | ⟨l,xs,ds,e,h1,h2,h3⟩
 ·exact .inl ⟨T,tyN_S h1 s,h2⟩
 ·exact .inr ⟨l,xs,ds,e,s _ _ h1,h2.mono s,h3⟩
def dueT (rows:Om.Rows) (u:List Bool) (lss:List (List Nat)):List Bool:=u++(lss.map fun ls=>(Om.send rows 0 ls).1++u).flatten
def ptsF (rows:Om.Rows) (u:List Bool) (lss:List (List Nat)):List (List Bool):=u :: (lss.map fun ls=>[(Om.send rows 0 ls).1,u]).flatten
theorem ptsF_flat (rows:Om.Rows) (u:List Bool) (lss:List (List Nat)):(ptsF rows u lss).flatten=dueT rows u lss:=by
 unfold ptsF dueT
 rw [List.flatten_cons]
 congr 1
 induction lss with
 | nil=>rfl
 | cons a l ih=>simp [ih]
theorem ptsF_snoc (rows:Om.Rows) (u:List Bool) (lss:List (List Nat)) (ls:List Nat):ptsF rows u (lss++[ls])=ptsF rows u lss++[(Om.send rows 0 ls).1]++[u]:=by
 unfold ptsF
 simp
theorem ptsF_len (rows:Om.Rows) (u:List Bool) (lss:List (List Nat)):(ptsF rows u lss).length=1+2 * lss.length:=by
 unfold ptsF
 induction lss with
 | nil=>rfl
 | cons a l ih=>
  simp at ih ⊢
  omega
theorem due_len {k n:Nat} {rows:Om.Rows} (ok:Om.CodeOk k n rows) {u:List Bool} (u8:u.length<=8):∀ {lss:List (List Nat)},(∀ ls∈lss,ls.length<=100/\∀ l∈ls,l < 2 ^ k)->(dueT rows u lss).length<=8+608 * lss.length
 | [],_=>by unfold dueT;simp;omega
 | ls :: lss,h=>by
  have ih:=due_len ok u8 (lss:=lss) fun x hx=>h x (List.mem_cons_of_mem _ hx)
  obtain ⟨h1,h2⟩:=h ls (List.mem_cons_self ..)
  have h3:=(Om.send_ok ok ls 0 ok.s1 h2).1
  have h4:n * ls.length<=6 * 100:=Nat.mul_le_mul ok.n6 h1
  unfold dueT at *
  rw [List.map_cons,List.flatten_cons]
  simp only [List.length_append,List.length_cons] at *
  omega
abbrev sFramed:Stmt:=top 26
def spFramed (P0 CM CL:Addr):Sp:=fun vs H Q E=>match vs with
 | [cv,mk,.ref l]=>∃ (k n:Nat) (rows:Om.Rows) (fs:List V) (lss:List (List Nat)),DV H cv (codeD k n rows)/\Om.CodeOk k n rows/\Tab P0 (lamPos lamTb) qTb H/\MkOk H mk/\H l=some (.lst fs)/\fs.length<=40/\lss.length<=fs.length ∧
   (∀ (j:Nat) ls,lss[j]? = some ls->∃ v,fs[j]? = some v/\FrG k H v ls)/\(¬ ClnM rows mk->∀ H',SameT P0 H H'->Tab P0 (lamPos lamTb) qTb H'->E (.ref CM) none H') ∧
   ∀ u:List Bool,mk = .str (bs u)->1<=u.length->u.length<=8->¬ Om.Fac rows u->¬ Om.BadP rows u →
    ((lss.length=fs.length/\∀ H',SameT P0 H H'->Tab P0 (lamPos lamTb) qTb H'->Q (.str (bs (dueT rows u lss))) H') ∨
      ∃ v,fs[lss.length]? = some v/\FrB k H v/\∀ H',SameT P0 H H'->Tab P0 (lamPos lamTb) qTb H'->E (.ref CL) none H')
 | _=>False
theorem scFramed:FnScope ["code","mark","frames","parts","text"] ["code","mark","frames"] (defScope sFramed):=⟨rfl,rfl,rfl,by decide +kernel,rfl,by decide +kernel,by decide +kernel⟩
local macro_rules | `(tactic| walk_at "T.b")=>`(tactic| first | ((with_reducible refine' fn_canY "refuse_unclean" ?a0 ?a1 ?a2);(case a0=>with_reducible assumption);(case a1=>exact Room.mono (by assumption) (by first | decide | exact Nat.le_refl _));(case a2=>walk_at "T.a")) | ((with_reducible refine' fn_canY "sent" ?a0 ?a1 ?a2);(case a0=>with_reducible assumption);(case a1=>exact Room.mono (by assumption) (by first | decide | exact Nat.le_refl _));(case a2=>walk_at "T.a")))
local macro_rules | `(tactic| walk_at "T.st")=>`(tactic| first | ((with_reducible refine' s_for (hp:=PassesOwn.leaving) ?a1 ?a2 ?a3);(case a1=>walk_at "T.i");(case a2=>walk_at "T.g");(case a3=>walk_at "T.s")) | ((with_reducible refine' s_raiseP ?a0 ?a3 ?a6);(case a0=>with_reducible assumption);(case a3=>with_reducible assumption);(case a6=>walk_at "T.a")))
theorem ok_framed {P0 CM CL:Addr} (D:FnX K mg "framed" sFramed ["code","mark","frames"]) (g1:mg "isinstance" = none) (g2:mg "list" = none) (Z0:ExnOk K CL) (m0:mg "NoLetter" = some (.ref CL)) (c1:CanY P w K mg base "refuse_unclean" 8 ["code","mark"] (spRefU P0 CM)) (c2:CanY P w K mg base "sent" 4 ["code","state","text"] (spSent CL)):CanY P w K mg base "framed" 9 ["code","mark","frames"] (spFramed P0 CM CL):=by
 refine canY_fn (k:=8) D scFramed (fun vs H Q E h=>?_) (fun f cdv A outer s H vs Q E hr h=>?_)
 all_goals
  unfold spFramed at h
  split at h
 ·rfl
 ·exact h.elim
 ·rename_i cv mk l
  obtain ⟨k,n,rows,fs,lss,hc,ok,tb,hm,hl,f40,lle,hg,qm,q⟩:=h
  have nd:=scFramed.nd
  refine ⟨_,(by walk_at "T.top"),?_⟩
  refine ⟨k,n,rows,hc,ok,tb,hm,fun cl H1 s1 t1=>?_,fun nc H1 s1 t1=>qm nc H1 s1 t1⟩
  obtain ⟨u,rfl,u1,u8,nf,nb⟩:=cl
  have q:=q u rfl u1 u8 nf nb
  have hl1:=lst_T hl tb s1
  have hc1:=hc.monoT tb s1
  have hg1:∀ (j:Nat) ls,lss[j]? = some ls->∃ v,fs[j]? = some v/\FrG k H1 v ls:=fun j ls e=>by
   obtain ⟨v,e1,e2⟩:=hg j ls e
   exact ⟨v,e1,e2.monoT tb s1⟩
  obtain ⟨a,b,ss,rfl,ha,hb,hss⟩:=code_inv hc1
  have tyl:tyN H1 (.ref l)=some "list" := by
   show (match H1 l with | some (.lst _)=>some "list" | some (.tup _)=>some "tuple" | some (.dK _)=>some "dict" | _=>none)=some "list"
   rw [hl1]
  refine ⟨"list",tyl,by decide,iteF ?_⟩
  refine ⟨le_line (Nat.le_of_ble_eq_true rfl),fun pl hpl=>?_⟩
  have own:∀ {H3:Hp} {o:HO},Same H1 H3->Same H1 (upd H3 pl o):=fun s b o e=>by rw [upd_ne (ne_of_none e hpl)];exact s _ _ e
  have hfin:∀ {H3:Hp},Same H1 H3->SameT P0 H H3/\Tab P0 (lamPos lamTb) qTb H3:=fun s=>⟨s1.trans s.t,t1.mono s⟩
  refine ⟨⟨_,SqL.of (own (Same.refl _) _ _ hl1)⟩,for_by (it_list _ l fs) (fun i σ H3=>(∃ v4,σ=[some (.ref a),some (.str (bs u)),some (.ref l),some (.ref pl),v4])/\Same H1 H3/\i<=lss.length/\H3 pl=some (.lst ((ptsF rows u (lss.take i)).map fun w=>V.str (bs w))))
   ⟨⟨none,rfl⟩,own (Same.refl _),Nat.zero_le _,upd_same⟩ (fun i σ H3 _ ⟨_,s3,_⟩=>SqL.of (s3 _ _ hl1)) ?_ ?_⟩
  ·rintro i x σ H3 hi hx ⟨⟨v4,rfl⟩,s3,il,hp3⟩
   have hc3:=hc1.mono s3
   refine ⟨⟨_,rfl,hp3⟩,k,n,rows,0,hc3,ok,rfl,ok.s1,?_⟩
   by_cases c:i < lss.length
   ·obtain ⟨v,e1,e2⟩:=hg1 i lss[i] (List.getElem?_eq_getElem c)
    rw [hx] at e1
    cases e1
    obtain ⟨t,rfl,ht,l1,l2⟩:=e2.mono s3
    refine .inl ⟨t,_,rfl,ht,by omega,l2,fun p H4 s4 hp=>?_⟩
    have s34:=s3.trans s4
    have tl:(lss.take i).length=i:=by rw [List.length_take];omega
    refine ⟨_,gt hp (by decide) rfl,_,s4 _ _ hp3,?_,?_⟩
    ·rw [List.length_map,ptsF_len,tl];exact lt_line (by omega)
    refine ⟨⟨_,rfl,upd_same⟩,_,upd_same,?_,?_⟩
    ·rw [List.length_append,List.length_map,ptsF_len,tl];exact lt_line (by simp;omega)
    refine ⟨⟨_,rfl⟩,own (own s34),c,?_⟩
    rw [upd_same,List.take_add_one,List.getElem?_eq_getElem c]
    show _=some (HO.lst ((ptsF rows u (lss.take i++[lss[i]])).map fun w=>V.str (bs w)))
    rw [ptsF_snoc,List.map_append,List.map_append]
    rfl
   ·have ei:i=lss.length:=by omega
    rcases q with ⟨q1,_⟩ | ⟨v,e1,e2,q⟩
    ·omega
    ·rw [<-ei,hx] at e1
     cases e1
     rcases (e2.monoT tb s1).mono s3 with ⟨T,h1,h2⟩ | ⟨l',xs,ds,rfl,h1,h2,h3,h4⟩
     ·exact .inr (.inl ⟨T,h1,h2,q _ (hfin s3).1 (hfin s3).2⟩)
     ·exact .inr (.inr ⟨l',xs,ds,rfl,h1,h2,by omega,h4,fun H4 s4=>q _ (hfin (s3.trans s4)).1 (hfin (s3.trans s4)).2⟩)
  ·rintro σ H3 ⟨⟨v4,rfl⟩,s3,il,hp3⟩
   rcases q with ⟨q1,q⟩ | ⟨v,e1,_⟩
   ·rw [<-q1,List.take_length] at hp3
    have ws:(ptsF rows u lss).map (fun w=>V.str (bs w))=((ptsF rows u lss).map bs).map V.str:=by rw [List.map_map];rfl
    rw [ws] at hp3
    refine ⟨rfl,(ptsF rows u lss).map bs,hp3,?_,?_⟩
    ·have h1:(((ptsF rows u lss).map bs).map (·.length)).sum=((ptsF rows u lss).flatten).length:=by
      rw [List.length_flatten,List.map_map]
      congr 1
      apply List.map_congr_left
      intro x _
      exact bs_len x
     have h2:=due_len ok u8 (lss:=lss) fun ls hls=>by
      obtain ⟨j,hj,e⟩:=List.getElem_of_mem hls
      obtain ⟨v,_,t,_,_,b1,b2⟩:=hg j ls (by rw [List.getElem?_eq_getElem hj,e])
      exact ⟨b1,b2⟩
     have h3:(("" : Str)).length=0:=by decide +kernel
     rw [h1,h3,ptsF_flat]
     omega
    ·rw [bs_join,ptsF_flat]
     exact q _ (hfin s3).1 (hfin s3).2
   ·have:=(List.getElem?_eq_some_iff.mp e1).1
    omega
 ·exact h.elim
end
end K41
end
section
namespace K41
open PySem L2
section
variable {P:Program} {w:World} {K:PySem.W.Frag} {mg:Str->Option Value} {base:Heap}
abbrev sNW:Stmt:=top 4
abbrev sInit:Stmt:=clsStmt sNW 0
theorem scInit:FnScope ["self","at"] ["self","at"] (defScope sInit):=⟨rfl,rfl,rfl,by decide +kernel,rfl,by decide +kernel,by decide +kernel⟩
theorem ok_init {C B f:Addr} {fd:FuncData} (D:Fun K "__init__" "NoWire.__init__" sInit f fd) (Z:ExnI K C f) (W:ExnB K B) (S:ExnS K C) (hm:mg "BeatError" = some (.ref B)):FnOk P w K mg base CX0 1 f fd ["self","at"] (spInit C):=by
 refine D.ok (k:=0) scInit (fun vs H Q E h=>?_) (fun cdv A outer s H vs Q E hr h=>?_)
 all_goals
  unfold spInit at h
  split at h
 ·rfl
 ·exact h.elim
 ·rename_i x n
  obtain ⟨⟨n0,n1⟩,hx,q⟩:=h
  have nd:=scInit.nd
  refine ⟨_,(by (refine' pss_cons ?a1 ?a2);(case a1=>(refine' s_expr ?b1);(case b1=>(refine' e_init1 (C:=C) (B:=B) ?c0 ?c1 ?c2 ?c9 ?c3);(case c0=>assumption);(case c1=>assumption);(case c2=>assumption);(case c9=>rfl);(case c3=>walk_at "T.a")));(case a2=>(refine' pss_one ?d1);(case d1=>(refine' s_at (C:=C) ?e0 ?e1 ?e2 ?e3);(case e0=>assumption);(case e1=>assumption);(case e2=>walk_at "T.e");(case e3=>walk_at "T.e")))),?_⟩
  have hs:(strI n).length<=4:=by
   have:=strI_short n.toNat (by omega)
   rw [show ((n.toNat:Nat):Int)=n by omega] at this
   exact this
  have hl:n.natAbs.log2 < 1920:=by
   rcases Nat.eq_zero_or_pos n.natAbs with e | e
   ·rw [e];decide
   ·exact (Nat.log2_lt (by omega)).mpr (Nat.lt_of_lt_of_le (show n.natAbs < 2 ^ 11 by omega) (Nat.pow_le_pow_right (by decide) (by decide)))
  have h16:((Str.empty:Str)++("no wire at word " : Str)).length=16:=by rw [app_len];rfl
  have hb:((Str.empty:Str)++("no wire at word " : Str)++strI n).length<=sizeLine:=by rw [app_len,h16];exact le_line (by omega)
  refine ⟨by rw [h16];exact le_line (by omega),hl,hb,hb,?_⟩
  refine ⟨_,_,rfl,hx,?_⟩
  exact ⟨x,rfl,hx,q⟩
 ·exact h.elim
end
end K41
end
section
namespace K41
open PySem L2
section
variable {P:Program} {w:World} {K:PySem.W.Frag} {mg:Str->Option Value} {base:Heap}
theorem atI_last {xs:List V} (v:V):atI (xs++[v]) (-1)=some v:=by
 have:ixN (xs++[v]).length (-1)=some xs.length:=by
  unfold ixN
  rw [if_neg (by decide),if_pos (by simp;omega)]
  congr 1
  simp
  omega
 unfold atI
 rw [this]
 show (xs++[v])[xs.length]? = some v
 simp
theorem cut_mid (x y:V) (xs:List V):cutV (x :: (xs++[y])) (some 1) (some (-1))=xs:=by
 have h1:HT.sIx (x :: (xs++[y])).length 0 (some 1)=1:=by
  unfold HT.sIx
  simp
 have h2:HT.sIx (x :: (xs++[y])).length (x :: (xs++[y])).length (some (-1))=xs.length+1:=by
  unfold HT.sIx
  simp
  omega
 unfold cutV
 rw [h1,h2]
 simp
def ApOk (u w:List Bool) (ws:List (List Bool)):Prop:=Om.cutM u w=[] :: (ws++[[]])
theorem split_last {α:Type} (q:α):∀ (qs:List α),qs≠[]->∃ ws y,q :: qs=q :: (ws++[y])
 | qs,h=>⟨qs.dropLast,qs.getLast h,by rw [List.dropLast_concat_getLast]⟩
abbrev sApart:Stmt:=top 28
def spApart (P0 CM CW:Addr):Sp:=fun vs H Q E=>match vs with
 | [cv,mk,x]=>∃ (k n:Nat) (rows:Om.Rows),DV H cv (codeD k n rows)/\Om.CodeOk k n rows/\Tab P0 (lamPos lamTb) qTb H/\MkOk H mk/\(¬ ClnM rows mk->∀ H',SameT P0 H H'->Tab P0 (lamPos lamTb) qTb H'->E (.ref CM) none H') ∧
   ∀ u:List Bool,mk = .str (bs u)->1<=u.length->u.length<=8->¬ Om.Fac rows u->¬ Om.BadP rows u →
    ((∃ Tx,tyN H x=some Tx/\Tx≠"str"/\∀ d H',SameT P0 H H'->Tab P0 (lamPos lamTb) qTb H'->H' d=none->E (.ref CW) (some d) (upd H' d (.xd [("at",.int 0)]))) ∨
      ∃ z:List Bool,x = .str (bs z)/\z.length<=60000/\((¬ ∃ ws,ApOk u z ws)->∀ d H',SameT P0 H H'->Tab P0 (lamPos lamTb) qTb H'->H' d=none->E (.ref CW) (some d) (upd H' d (.xd [("at",.int 0)]))) ∧
       ∀ ws l H',ApOk u z ws->SameT P0 H H'->Tab P0 (lamPos lamTb) qTb H'->H l=none->H' l=some (.lst (ws.map fun w=>V.str (bs w)))->Q (.ref l) H')
 | _=>False
theorem scApart:FnScope ["code","mark","wire","parts"] ["code","mark","wire"] (defScope sApart):=⟨rfl,rfl,rfl,by decide +kernel,rfl,by decide +kernel,by decide +kernel⟩
local macro_rules | `(tactic| walk_at "T.m")=>`(tactic| ((with_reducible refine' m_split ?a1 ?a2);(case a1=>walk_at "T.e");(case a2=>walk_at "T.a")))
local macro_rules | `(tactic| walk_at "T.b")=>`(tactic| ((with_reducible refine' fn_canY "refuse_unclean" ?a0 ?a1 ?a2);(case a0=>with_reducible assumption);(case a1=>exact Room.mono (by assumption) (by first | decide | exact Nat.le_refl _));(case a2=>walk_at "T.a")))
local macro_rules | `(tactic| walk_at "T.st")=>`(tactic| ((with_reducible refine' s_raiseW ?a0 ?a1 ?a2 ?a3 ?a4 ?a5 ?a6);(case a0=>with_reducible assumption);(case a1=>with_reducible assumption);(case a2=>with_reducible assumption);(case a3=>with_reducible assumption);(case a4=>with_reducible assumption);(case a5=>exact Room.mono (by assumption) (by first | decide | exact Nat.le_refl _));(case a6=>walk_at "T.a")))
def NW (P:Program) (w:World) (K:PySem.W.Frag) (mg:Str->Option Value) (base:Heap) (C:Addr):Prop:=
 ∃ (fI:Addr) (fd:FuncData),ExnI K C fI/\FnOk P w K mg base CX0 1 fI fd ["self","at"] (spInit C)/\Binds K fd ["self","at"] []/\mg "NoWire" = some (.ref C)/\PySem.W.keepIn K (.ref C)=true
theorem ok_apart {P0 CM CW:Addr} (D:FnX K mg "apart" sApart ["code","mark","wire"]) (g1:mg "isinstance" = none) (g2:mg "str" = none) (g3:mg "len" = none) (Z:NW P w K mg base CW) (c1:CanY P w K mg base "refuse_unclean" 8 ["code","mark"] (spRefU P0 CM)):CanY P w K mg base "apart" 9 ["code","mark","wire"] (spApart P0 CM CW):=by
 obtain ⟨fI,fd,Z1,F1,B1,m1,k1⟩:=Z
 refine canY_fn (k:=8) D scApart (fun vs H Q E h=>?_) (fun f cdv A outer s H vs Q E hr h=>?_)
 all_goals
  unfold spApart at h
  split at h
 ·rfl
 ·exact h.elim
 ·rename_i cv mk x
  obtain ⟨k,n,rows,hc,ok,tb,hm,qm,q⟩:=h
  have nd:=scApart.nd
  refine ⟨_,(by walk_at "T.top"),?_⟩
  refine ⟨k,n,rows,hc,ok,tb,hm,fun cl H1 s1 t1=>?_,fun nc H1 s1 t1=>qm nc H1 s1 t1⟩
  obtain ⟨u,rfl,u1,u8,nf,nb⟩:=cl
  rcases q u rfl u1 u8 nf nb with ⟨Tx,ht,ns,q⟩ | ⟨z,rfl,z6,qe,q⟩
  ·refine ⟨Tx,tyN_T ht tb s1,by decide,?_⟩
   have e:(Tx == "str" || (Tx == "bool" && "str" == "int"))=false:=by
    have h1:(Tx == "str")=false:=beq_false_of_ne ns
    have h2:(("str" : String) == "int")=false:=by decide
    rw [h1,h2,Bool.and_false];rfl
   rw [e]
   refine iteP (by decide) ?_
   exact ⟨0,rfl,⟨by decide,by decide⟩,fun d hd=>q d _ s1 t1 hd⟩
  refine ⟨"str",rfl,by decide,iteF ?_⟩
  refine ⟨rfl,⟨by rw [bs_len];simpa using (by omega:u.length≠0),by rw [bs_len,sizeLine_eq];omega,fun l nl=>?_⟩⟩
  rw [split_bs u1]
  obtain ⟨c,cs,ec⟩:=Om.cutM_ne (u:=u) z
  have cl:=(Om.cutM_len (u:=u) z.length z (Nat.le_refl _) u1).1
  have cl:(Om.cutM u z).length<=z.length+1:=cl
  rw [ec] at cl ⊢
  have hl:upd H1 l (.lst (((c :: cs).map bs).map V.str)) l=some (.lst (((c :: cs).map bs).map V.str)):=upd_same
  have sl:=Same.upd (o:=.lst (((c :: cs).map bs).map V.str)) nl
  generalize upd H1 l (.lst (((c :: cs).map bs).map V.str))=H2 at hl sl ⊢
  have bad:(¬ ∃ ws,ApOk u z ws)->∀ d,H2 d=none->E (.ref CW) (some d) (upd H2 d (.xd [("at",.int 0)])):=fun nb d hd=>qe nb d H2 (s1.trans sl.t) (t1.mono sl) hd
  refine ⟨_,lenL hl,?_⟩
  by_cases c0:cs=[]
  ·subst c0
   exact ⟨0,rfl,⟨by decide,by decide⟩,bad fun ⟨ws,e⟩=>by unfold ApOk at e;rw [ec] at e;simp at e⟩
  obtain ⟨ws,y,e2⟩:=split_last c cs c0
  have e2:cs=ws++[y]:=List.tail_eq_of_cons_eq e2
  subst e2
  refine ite2 (fun h=>?_) (fun _=>?_)
  ·have h:=of_decide_eq_true h
   simp only [List.length_map,List.length_cons,List.length_append,List.length_nil] at h
   omega
  refine ⟨_,gl hl (by decide) rfl,?_⟩
  refine ite2 (fun h=>?_) (fun h0=>?_)
  ·exact ⟨0,rfl,⟨by decide,by decide⟩,bad fun ⟨ws',e⟩=>by
    unfold ApOk at e
    rw [ec] at e
    injection e with e _
    subst e
    exact absurd h (by decide +kernel)⟩
  have hl':H2 l=some (.lst ((V.str (bs c) :: ws.map fun w=>V.str (bs w))++[V.str (bs y)])):=by
   rw [hl]
   simp
  refine ⟨_,(by rw [getV_lst hl'];exact atI_last _),?_⟩
  refine ite2 (fun h=>?_) (fun h1=>?_)
  ·exact ⟨0,rfl,⟨by decide,by decide⟩,bad fun ⟨ws',e⟩=>by
    unfold ApOk at e
    rw [ec] at e
    injection e with _ e
    obtain ⟨_,e⟩:=List.append_inj' e rfl
    injection e with e _
    subst e
    exact absurd h (by decide +kernel)⟩
  have ecn:c=[]:=by
   cases c with
   | nil=>rfl
   | cons b c=>exact absurd (by rw [decide_eq_false (by intro z;rw [bs_nil] at z;cases bs_inj z)];rfl) h0
  have eyn:y=[]:=by
   cases y with
   | nil=>rfl
   | cons b c=>exact absurd (by rw [decide_eq_false (by intro z;rw [bs_nil] at z;cases bs_inj z)];rfl) h1
  subst ecn
  subst eyn
  refine ⟨_,hl',fun r hr=>?_⟩
  rw [List.cons_append,cut_mid]
  have sr:=Same.upd (o:=.lst (ws.map fun w=>V.str (bs w))) hr
  have s2:=sl.trans sr
  exact q ws r _ ec (s1.trans s2.t) (t1.mono s2) (s1.free (sl.free hr) (fun z=>by
   obtain ⟨ps,e⟩:=(t1.mono sl).tbl
   rw [z,e] at hr
   cases hr)) upd_same
 ·exact h.elim
end
end K41
end
section
namespace K41
open PySem L2
section
variable {P:Program} {w:World} {K:PySem.W.Frag} {mg:Str->Option Value} {base:Heap}
def Cl (K:PySem.W.Frag) (mg:Str->Option Value) (C:Addr) (x:Str) (b:Bool):Prop:=∃ D,mg x=some (.ref D)/\PySem.W.kitOne K (.ref C) (.ref D)=some b
theorem Cl.at {K:PySem.W.Frag} {mg:Str->Option Value} {C D:Addr} {x:Str} {b:Bool} (h:Cl K mg C x b) (hm:mg x=some (.ref D)):PySem.W.kitOne K (.ref C) (.ref D)=some b:=by
 obtain ⟨D',h1,h2⟩:=h
 rw [hm] at h1
 cases h1
 exact h2
structure KindsOf (K:PySem.W.Frag) (mg:Str->Option Value) (C:Addr) (m:Nat):Prop where
 z:PySem.W.ExCls K C
 k0:Cl K mg C "NoLetter" (decide (0=m))
 k1:Cl K mg C "NoCode" (decide (1=m))
 k2:Cl K mg C "NoWindow" (decide (2=m))
 k3:Cl K mg C "NoMark" (decide (3=m))
 k4:Cl K mg C "NoText" (decide (4=m))
 k5:Cl K mg C "NoName" (decide (5=m))
 k6:Cl K mg C "NoRow" (decide (6=m))
 k7:Cl K mg C "NoWire" (decide (7=m))
 k8:PySem.W.kitOne K (.ref C) (.type "ValueError")=some true
end
end K41
end
section
namespace K41
open PySem L2
section
variable {X:Cx} {p pos:Pos} {e:Expr} {es:List Expr} {t:TA} {ta:TE}
theorem fn_isYK {mg':Str->Option Value} {K':PySem.W.Frag} {C:Addr} (hz:PySem.W.ExCls K' C) (hm:mg' "isinstance" = none) (hX:X.mg=mg') (hK:X.K=K') (ha:PA X (e :: es) t) (hg:gB X "isinstance" = true:=by kernel_rfl) (he:starEach (e :: es) X.env=(false,eval e X.env) :: starEach es X.env:=by kernel_rfl) (hpl:(backTo pos (starEach es X.env)).any (·.1)=false:=by kernel_rfl) :
  PE X (.Call (.Name "isinstance" p) (e :: es) [] pos) (tCB (rIsY K') t):=by subst hK;exact fn_isY hm hX ha hg he hpl
theorem e_atK {K':PySem.W.Frag} {C:Addr} (hz:PySem.W.ExCls K' C) (hK:X.K=K') (he:PE X e ta) (hb:attributeBase e "at" X.env (eval e X.env)=eval e X.env:=by kernel_rfl):PE X (.Attribute e "at" pos) (tAt K' ta):=by subst hK;exact e_at he hb
end
section
variable {P:Program} {w:World} {K:PySem.W.Frag} {mg:Str->Option Value} {base:Heap}
theorem spFramed_mono {P0 CM CL:Addr} {vs:List V} {H:Hp} {Q Q':VK} {E E':XK} (h:spFramed P0 CM CL vs H Q E) (hQ:∀ v H',Q v H'->Q' v H') (hE:∀ c dd H',E c dd H'->E' c dd H'):spFramed P0 CM CL vs H Q' E':=by
 unfold spFramed at *
 split at h
 ·obtain ⟨k,n,rows,fs,lss,hc,ok,tb,hm,hl,f40,lle,hg,qm,q⟩:=h
  refine ⟨k,n,rows,fs,lss,hc,ok,tb,hm,hl,f40,lle,hg,fun a H' b c=>hE _ _ _ (qm a H' b c),fun u a b c d e=>?_⟩
  rcases q u a b c d e with ⟨q1,q⟩ | ⟨v,q1,q2,q⟩
  ·exact .inl ⟨q1,fun H' x y=>hQ _ _ (q H' x y)⟩
  ·exact .inr ⟨v,q1,q2,fun H' x y=>hE _ _ _ (q H' x y)⟩
 ·exact h.elim
theorem spApart_mono {P0 CM CW:Addr} {vs:List V} {H:Hp} {Q Q':VK} {E E':XK} (h:spApart P0 CM CW vs H Q E) (hQ:∀ v H',Q v H'->Q' v H') (hE:∀ c dd H',E c dd H'->E' c dd H'):spApart P0 CM CW vs H Q' E':=by
 unfold spApart at *
 split at h
 ·obtain ⟨k,n,rows,hc,ok,tb,hm,qm,q⟩:=h
  refine ⟨k,n,rows,hc,ok,tb,hm,fun a H' b c=>hE _ _ _ (qm a H' b c),fun u a b c d e=>?_⟩
  rcases q u a b c d e with ⟨T,q1,q2,q⟩ | ⟨z,q1,q2,q3,q⟩
  ·exact .inl ⟨T,q1,q2,fun d H' x y z=>hE _ _ _ (q d H' x y z)⟩
  ·exact .inr ⟨z,q1,q2,fun n d H' x y z=>hE _ _ _ (q3 n d H' x y z),fun ws l H' x y z a b=>hQ _ _ (q ws l H' x y z a b)⟩
 ·exact h.elim
theorem tC3 {σ:St} {H:Hp} {a b c:V} {Kk:List V->Hp->Prop} (h1:σ[1]? = some (some a)) (h2:σ[2]? = some (some b)) (h3:σ[3]? = some (some c)) (h:Kk [a,b,c] H):tCons (tV 1) (tCons (tV 2) (tCons (tV 3) tNil)) σ H Kk:=by
 unfold tCons tV
 rw [h1]
 dsimp only
 rw [h2]
 dsimp only
 rw [h3]
 exact h
def nmOf (m:Nat):Str:=if m=7 then "wire" else if m=3 then "mark" else "letter"
def ToldE (CM CL CW:Addr) (Q:VK):XK:=fun c dd H'=>∃ (C:Addr) (m:Nat) (z:Str),c = .ref C/\((m=3/\C=CM/\z = "mark")\/(m=0/\C=CL/\z = "letter")\/(m=7/\C=CW/\z = "wire"/\∃ d,dd=some d/\H' d=some (.xd [("at",.int 0)]))) ∧
 ∀ p H'',Same H' H''->H'' p=some (.tup [.str ("refused" : Str),.str z])->Q (.ref p) H''
abbrev sTold:Stmt:=top 38
def spTold (P0 CM CL CW F1 F2:Addr):Sp:=fun vs H Q _=>match vs with
 | [.ref f,cv,mk,x]=>(f=F1/\spFramed P0 CM CL [cv,mk,x] H Q (ToldE CM CL CW Q))\/(f=F2/\spApart P0 CM CW [cv,mk,x] H Q (ToldE CM CL CW Q))
 | _=>False
theorem scTold:FnScope ["asked","code","mark","thing","found","e","kinds","others"] ["asked","code","mark","thing"] (defScope sTold):=⟨rfl,rfl,rfl,by decide +kernel,rfl,by decide +kernel,by decide +kernel⟩
local macro_rules | `(tactic| walk_at "T.m")=>`(tactic| first | ((with_reducible refine' m_countB ?a1 ?a2);(case a1=>walk_at "T.e");(case a2=>walk_at "T.a")) | ((with_reducible refine' m_indexB ?a1 ?a2);(case a1=>walk_at "T.e");(case a2=>walk_at "T.a")))
local macro_rules | `(tactic| walk_at "T.b")=>`(tactic| first | ((with_reducible refine' fn_isYK ?az ?a0 ?a9 ?a8 ?a1);(case az=>with_reducible assumption);(case a0=>with_reducible assumption);(case a9=>rfl);(case a8=>rfl);(case a1=>walk_at "T.a")) | fail "no")
local macro_rules | `(tactic| walk_at "T.e")=>`(tactic| first | ((with_reducible refine' e_atK ?az ?a8 ?a1);(case az=>with_reducible assumption);(case a8=>rfl);(case a1=>walk_at "T.n")) | ((with_reducible refine' e_clsX "NoLetter" ?a0 ?a9);(case a0=>with_reducible assumption);(case a9=>rfl)) | ((with_reducible refine' e_clsX "NoCode" ?a0 ?a9);(case a0=>with_reducible assumption);(case a9=>rfl)) | ((with_reducible refine' e_clsX "NoWindow" ?a0 ?a9);(case a0=>with_reducible assumption);(case a9=>rfl)) | ((with_reducible refine' e_clsX "NoMark" ?a0 ?a9);(case a0=>with_reducible assumption);(case a9=>rfl)) | ((with_reducible refine' e_clsX "NoText" ?a0 ?a9);(case a0=>with_reducible assumption);(case a9=>rfl)) | ((with_reducible refine' e_clsX "NoName" ?a0 ?a9);(case a0=>with_reducible assumption);(case a9=>rfl)) | ((with_reducible refine' e_clsX "NoRow" ?a0 ?a9);(case a0=>with_reducible assumption);(case a9=>rfl)) | ((with_reducible refine' e_clsX "NoWire" ?a0 ?a9);(case a0=>with_reducible assumption);(case a9=>rfl)) | ((with_reducible refine' e_tyVE ?a0 ?a9);(case a0=>with_reducible assumption);(case a9=>rfl)))
local macro_rules | `(tactic| walk_at "T.t")=>`(tactic| first | ((with_reducible refine' t_cmp ?a1 ?a2 ?a3);(case a1=>walk_at "T.cmp");(case a2=>walk_at "T.e");(case a3=>walk_at "T.e")) | ((with_reducible refine' pt_not ?a1);(case a1=>walk_at "T.t")) | ((with_reducible refine' PW.pt ?a1);(case a1=>walk_at "T.w")) | ((with_reducible refine' t_val ?a1);(case a1=>walk_at "T.e")))
local macro_rules | `(tactic| walk_at "T.cmp")=>`(tactic| first | (with_reducible exact op_eq) | (with_reducible exact op_ne))
local macro_rules | `(tactic| walk_at "T.pb")=>`(tactic| ((with_reducible refine' pb_setF (x1:= "framed") (x2:= "apart") "asked" "found" 0 4 ?c0 ?d0 ?c5 ?c6 ?c9 ?c1 ?c3 ?c2);(case c0=>with_reducible assumption);(case d0=>with_reducible assumption);(case c5=>with_reducible assumption);(case c6=>with_reducible assumption);(case c9=>exact ⟨rfl,rfl,rfl,rfl,rfl⟩);(case c1=>exact Room.mono (by assumption) (by first | decide | exact Nat.le_refl _));(case c3=>with_unfolding_all assumption);(case c2=>walk_at "T.a")))
local macro_rules | `(tactic| walk_at "T.st")=>`(tactic| ((with_reducible refine' s_try2 "BeatError" "e" 5 ?b0 ?b9 ?b1 ?b2 (fun a=>?b3));(case b0=>with_reducible assumption);(case b9=>rfl);(case b1=>with_unfolding_all assumption);(case b2=>walk_at "T.pb");(case b3=>walk_at "T.s")))
theorem ok_told {P0 CM CL CW F1 F2 B fI:Addr} (D:FnX K mg "_law_told" sTold ["asked","code","mark","thing"]) (g1:mg "isinstance" = none) (g3:mg "ValueError" = none) (hB:mg "BeatError" = some (.ref B)) (hxM:PySem.W.exmOne K (.ref CM) (.ref B)=some true) (hxL:PySem.W.exmOne K (.ref CL) (.ref B)=some true) (hxW:PySem.W.exmOne K (.ref CW) (.ref B)=some true)
  (KM:KindsOf K mg CM 3) (KL:KindsOf K mg CL 0) (KW:KindsOf K mg CW 7) (W:ExnI K CW fI) (S:ExnS K CW) (f1:mg "framed" = some (.ref F1)) (f2:mg "apart" = some (.ref F2))
  (c1:CanY P w K mg base "framed" 9 ["code","mark","frames"] (spFramed P0 CM CL)) (c2:CanY P w K mg base "apart" 9 ["code","mark","wire"] (spApart P0 CM CW)):Can P w K mg base "_law_told" 10 ["asked","code","mark","thing"] (spTold P0 CM CL CW F1 F2):=by
 obtain ⟨D0,m0,_⟩:=KM.k0
 obtain ⟨D1,m1,_⟩:=KM.k1
 obtain ⟨D2,m2,_⟩:=KM.k2
 obtain ⟨D3,m3,_⟩:=KM.k3
 obtain ⟨D4,m4,_⟩:=KM.k4
 obtain ⟨D5,m5,_⟩:=KM.k5
 obtain ⟨D6,m6,_⟩:=KM.k6
 obtain ⟨D7,m7,_⟩:=KM.k7
 have kz:=KM.z
 have ka:∀ {C:Addr} {m:Nat},KindsOf K mg C m->(m=0\/m=3\/m=7)->PySem.W.kitAny K (.ref C) ([D1,D5,D6,D4,D2].map Value.ref)=some false:=fun {C m} KK hm=>by
  have e1:=KK.k1.at m1
  have e5:=KK.k5.at m5
  have e6:=KK.k6.at m6
  have e4:=KK.k4.at m4
  have e2:=KK.k2.at m2
  simp only [List.map_cons,List.map_nil,PySem.W.kitAny,e1,e5,e6,e4,e2]
  rcases hm with rfl | rfl | rfl<;>rfl
 refine can_fn (k:=9) D scTold (fun vs H Q E h=>?_) (fun f cdv A outer s H vs Q E hr h=>?_)
 all_goals
  unfold spTold at h
  split at h
 ·rfl
 ·exact h.elim
 ·rename_i fa cv mk x
  have nd:=scTold.nd
  refine ⟨_,(by walk_at "T.top"),?_⟩
  rcases h with ⟨rfl,h⟩ | ⟨rfl,h⟩
  ·refine .inl ⟨rfl,?_⟩
   refine tC3 (a:=cv) (b:=mk) (c:=x) rfl rfl rfl ?_
   refine spFramed_mono h ?_ ?_
   ·exact fun v H' q=>q
   intro c dd H' hq
   obtain ⟨C,m,z,rfl,hcase,q⟩:=hq
   have hK:KindsOf K mg C m/\(m=0\/m=3\/m=7)/\PySem.W.exmOne K (.ref C) (.ref B)=some true/\z=nmOf m:=by
    rcases hcase with ⟨rfl,rfl,rfl⟩ | ⟨rfl,rfl,rfl⟩ | ⟨rfl,rfl,rfl,_⟩
    ·exact ⟨KM,.inr (.inl rfl),hxM,rfl⟩
    ·exact ⟨KL,.inl rfl,hxL,rfl⟩
    ·exact ⟨KW,.inr (.inr rfl),hxW,rfl⟩
   obtain ⟨KK,hm,hx,rfl⟩:=hK
   refine ⟨hx,fun y ny=>?_⟩
   have Z:=KK.z
   have sy:=Same.upd (o:=ExcD y (.ref C) dd) ny
   have hy:upd H' y (ExcD y (.ref C) dd) y=some (ExcD y (.ref C) dd):=upd_same
   generalize upd H' y (ExcD y (.ref C) dd)=H2 at sy hy ⊢
   refine ⟨C,_,_,Z,hy,.inl (KK.k7.at m7),C,_,_,Z,hy,.inl (KK.k3.at m3),C,_,_,Z,hy,.inl (KK.k0.at m0),?_⟩
   refine ⟨le_line (Nat.le_of_ble_eq_true rfl),fun A1 n1=>?_⟩
   have u1:=Same.upd (o:=.lst [.bl (decide (7=m)),.bl (decide (3=m)),.bl (decide (0=m))]) n1
   have hA:upd H2 A1 (.lst [.bl (decide (7=m)),.bl (decide (3=m)),.bl (decide (0=m))]) A1=some (.lst ([decide (7=m),decide (3=m),decide (0=m)].map V.bl)):=upd_same
   have s1:=sy.trans u1
   have hy1:=u1 _ _ hy
   generalize upd H2 A1 (.lst [.bl (decide (7=m)),.bl (decide (3=m)),.bl (decide (0=m))])=H3 at s1 hA hy1 ⊢
   clear u1 n1
   refine ⟨le_line (Nat.le_of_ble_eq_true rfl),fun p1 hp1=>?_⟩
   have u2:=Same.upd (o:=.tup [.str ("refused" : Str),.str ("other" : Str)]) hp1
   have s2:=s1.trans u2
   have hA2:=u2 _ _ hA
   have hy2:=u2 _ _ hy1
   generalize upd H3 p1 (.tup [.str ("refused" : Str),.str ("other" : Str)])=H4 at s2 hA2 hy2 ⊢
   clear u2 hp1
   refine ⟨le_line (Nat.le_of_ble_eq_true rfl),fun t ht=>?_⟩
   have u3:=Same.upd (o:=.tup [.ref D1,.ref D5,.ref D6,.ref D4,.ref D2]) ht
   have hT:upd H4 t (.tup [.ref D1,.ref D5,.ref D6,.ref D4,.ref D2]) t=some (.tup ([D1,D5,D6,D4,D2].map V.ref)):=upd_same
   have s3:=s2.trans u3
   have hA3:=u3 _ _ hA2
   have hy3:=u3 _ _ hy2
   generalize upd H4 t (.tup [.ref D1,.ref D5,.ref D6,.ref D4,.ref D2])=H5 at s3 hA3 hy3 hT ⊢
   clear u3 ht
   refine ⟨C,_,false,Z,hy3,.inr ⟨[D1,D5,D6,D4,D2],hT,ka KK hm⟩,?_⟩
   refine ⟨C,_,true,Z,hy3,KK.k8,?_⟩
   have fin:∀ p H6,Same H5 H6->H6 p=some (.tup [.str ("refused" : Str),.str (nmOf m)])->Q (.ref p) H6:=fun p H6 s6 hp=>q p H6 (s3.trans s6) hp
   have hat:m=7->∃ d,dd=some d/\C=CW/\H5 d=some (.xd [("at",.int 0)]):=fun e=>by
    rcases hcase with ⟨rfl,_⟩ | ⟨rfl,_⟩ | ⟨_,e1,_,d,e2,e3⟩
    ·cases e
    ·cases e
    ·exact ⟨d,e2,e1,s3 _ _ e3⟩
   have k7:=KK.k7.at m7
   clear hcase q KK s1 s2 hA2 hy2 hA hy1 hT
   rcases hm with rfl | rfl | rfl
   ·refine ⟨⟨_,rfl,hA3⟩,_,hA3,rfl,?_⟩
    refine ⟨le_line (Nat.le_of_ble_eq_true rfl),fun L hL=>?_⟩
    have v1:=Same.upd (o:=.lst [.str ("wire" : Str),.str ("mark" : Str),.str ("letter" : Str)]) hL
    refine ⟨⟨_,rfl,v1 _ _ hA3⟩,_,v1 _ _ hA3,by decide,?_⟩
    refine ⟨_,gl upd_same (by decide) rfl,?_⟩
    refine ⟨le_line (Nat.le_of_ble_eq_true rfl),fun p hp=>?_⟩
    have v2:=v1.trans (Same.upd (o:=.tup [.str ("refused" : Str),.str (nmOf 0)]) hp)
    refine ⟨C,_,_,Z,v2 _ _ hy3,.inl k7,?_⟩
    exact fin p _ v2 upd_same
   ·refine ⟨⟨_,rfl,hA3⟩,_,hA3,rfl,?_⟩
    refine ⟨le_line (Nat.le_of_ble_eq_true rfl),fun L hL=>?_⟩
    have v1:=Same.upd (o:=.lst [.str ("wire" : Str),.str ("mark" : Str),.str ("letter" : Str)]) hL
    refine ⟨⟨_,rfl,v1 _ _ hA3⟩,_,v1 _ _ hA3,by decide,?_⟩
    refine ⟨_,gl upd_same (by decide) rfl,?_⟩
    refine ⟨le_line (Nat.le_of_ble_eq_true rfl),fun p hp=>?_⟩
    have v2:=v1.trans (Same.upd (o:=.tup [.str ("refused" : Str),.str (nmOf 3)]) hp)
    refine ⟨C,_,_,Z,v2 _ _ hy3,.inl k7,?_⟩
    exact fin p _ v2 upd_same
   ·obtain ⟨d,rfl,rfl,hd⟩:=hat rfl
    refine ⟨⟨_,rfl,hA3⟩,_,hA3,rfl,?_⟩
    refine ⟨le_line (Nat.le_of_ble_eq_true rfl),fun L hL=>?_⟩
    have v1:=Same.upd (o:=.lst [.str ("wire" : Str),.str ("mark" : Str),.str ("letter" : Str)]) hL
    refine ⟨⟨_,rfl,v1 _ _ hA3⟩,_,v1 _ _ hA3,by decide,?_⟩
    refine ⟨_,gl upd_same (by decide) rfl,?_⟩
    refine ⟨le_line (Nat.le_of_ble_eq_true rfl),fun p hp=>?_⟩
    have v2:=v1.trans (Same.upd (o:=.tup [.str ("refused" : Str),.str (nmOf 7)]) hp)
    refine ⟨C,_,_,Z,v2 _ _ hy3,.inl k7,?_⟩
    refine ⟨y,C,fI,d,.int 0,rfl,W,S,Z,v2 _ _ hy3,v2 _ _ hd,rfl,?_⟩
    exact fin p _ v2 upd_same
  ·refine .inr ⟨rfl,?_⟩
   refine tC3 (a:=cv) (b:=mk) (c:=x) rfl rfl rfl ?_
   refine spApart_mono h ?_ ?_
   ·exact fun v H' q=>q
   intro c dd H' hq
   obtain ⟨C,m,z,rfl,hcase,q⟩:=hq
   have hK:KindsOf K mg C m/\(m=0\/m=3\/m=7)/\PySem.W.exmOne K (.ref C) (.ref B)=some true/\z=nmOf m:=by
    rcases hcase with ⟨rfl,rfl,rfl⟩ | ⟨rfl,rfl,rfl⟩ | ⟨rfl,rfl,rfl,_⟩
    ·exact ⟨KM,.inr (.inl rfl),hxM,rfl⟩
    ·exact ⟨KL,.inl rfl,hxL,rfl⟩
    ·exact ⟨KW,.inr (.inr rfl),hxW,rfl⟩
   obtain ⟨KK,hm,hx,rfl⟩:=hK
   refine ⟨hx,fun y ny=>?_⟩
   have Z:=KK.z
   have sy:=Same.upd (o:=ExcD y (.ref C) dd) ny
   have hy:upd H' y (ExcD y (.ref C) dd) y=some (ExcD y (.ref C) dd):=upd_same
   generalize upd H' y (ExcD y (.ref C) dd)=H2 at sy hy ⊢
   refine ⟨C,_,_,Z,hy,.inl (KK.k7.at m7),C,_,_,Z,hy,.inl (KK.k3.at m3),C,_,_,Z,hy,.inl (KK.k0.at m0),?_⟩
   refine ⟨le_line (Nat.le_of_ble_eq_true rfl),fun A1 n1=>?_⟩
   have u1:=Same.upd (o:=.lst [.bl (decide (7=m)),.bl (decide (3=m)),.bl (decide (0=m))]) n1
   have hA:upd H2 A1 (.lst [.bl (decide (7=m)),.bl (decide (3=m)),.bl (decide (0=m))]) A1=some (.lst ([decide (7=m),decide (3=m),decide (0=m)].map V.bl)):=upd_same
   have s1:=sy.trans u1
   have hy1:=u1 _ _ hy
   generalize upd H2 A1 (.lst [.bl (decide (7=m)),.bl (decide (3=m)),.bl (decide (0=m))])=H3 at s1 hA hy1 ⊢
   clear u1 n1
   refine ⟨le_line (Nat.le_of_ble_eq_true rfl),fun p1 hp1=>?_⟩
   have u2:=Same.upd (o:=.tup [.str ("refused" : Str),.str ("other" : Str)]) hp1
   have s2:=s1.trans u2
   have hA2:=u2 _ _ hA
   have hy2:=u2 _ _ hy1
   generalize upd H3 p1 (.tup [.str ("refused" : Str),.str ("other" : Str)])=H4 at s2 hA2 hy2 ⊢
   clear u2 hp1
   refine ⟨le_line (Nat.le_of_ble_eq_true rfl),fun t ht=>?_⟩
   have u3:=Same.upd (o:=.tup [.ref D1,.ref D5,.ref D6,.ref D4,.ref D2]) ht
   have hT:upd H4 t (.tup [.ref D1,.ref D5,.ref D6,.ref D4,.ref D2]) t=some (.tup ([D1,D5,D6,D4,D2].map V.ref)):=upd_same
   have s3:=s2.trans u3
   have hA3:=u3 _ _ hA2
   have hy3:=u3 _ _ hy2
   generalize upd H4 t (.tup [.ref D1,.ref D5,.ref D6,.ref D4,.ref D2])=H5 at s3 hA3 hy3 hT ⊢
   clear u3 ht
   refine ⟨C,_,false,Z,hy3,.inr ⟨[D1,D5,D6,D4,D2],hT,ka KK hm⟩,?_⟩
   refine ⟨C,_,true,Z,hy3,KK.k8,?_⟩
   have fin:∀ p H6,Same H5 H6->H6 p=some (.tup [.str ("refused" : Str),.str (nmOf m)])->Q (.ref p) H6:=fun p H6 s6 hp=>q p H6 (s3.trans s6) hp
   have hat:m=7->∃ d,dd=some d/\C=CW/\H5 d=some (.xd [("at",.int 0)]):=fun e=>by
    rcases hcase with ⟨rfl,_⟩ | ⟨rfl,_⟩ | ⟨_,e1,_,d,e2,e3⟩
    ·cases e
    ·cases e
    ·exact ⟨d,e2,e1,s3 _ _ e3⟩
   have k7:=KK.k7.at m7
   clear hcase q KK s1 s2 hA2 hy2 hA hy1 hT
   rcases hm with rfl | rfl | rfl
   ·refine ⟨⟨_,rfl,hA3⟩,_,hA3,rfl,?_⟩
    refine ⟨le_line (Nat.le_of_ble_eq_true rfl),fun L hL=>?_⟩
    have v1:=Same.upd (o:=.lst [.str ("wire" : Str),.str ("mark" : Str),.str ("letter" : Str)]) hL
    refine ⟨⟨_,rfl,v1 _ _ hA3⟩,_,v1 _ _ hA3,by decide,?_⟩
    refine ⟨_,gl upd_same (by decide) rfl,?_⟩
    refine ⟨le_line (Nat.le_of_ble_eq_true rfl),fun p hp=>?_⟩
    have v2:=v1.trans (Same.upd (o:=.tup [.str ("refused" : Str),.str (nmOf 0)]) hp)
    refine ⟨C,_,_,Z,v2 _ _ hy3,.inl k7,?_⟩
    exact fin p _ v2 upd_same
   ·refine ⟨⟨_,rfl,hA3⟩,_,hA3,rfl,?_⟩
    refine ⟨le_line (Nat.le_of_ble_eq_true rfl),fun L hL=>?_⟩
    have v1:=Same.upd (o:=.lst [.str ("wire" : Str),.str ("mark" : Str),.str ("letter" : Str)]) hL
    refine ⟨⟨_,rfl,v1 _ _ hA3⟩,_,v1 _ _ hA3,by decide,?_⟩
    refine ⟨_,gl upd_same (by decide) rfl,?_⟩
    refine ⟨le_line (Nat.le_of_ble_eq_true rfl),fun p hp=>?_⟩
    have v2:=v1.trans (Same.upd (o:=.tup [.str ("refused" : Str),.str (nmOf 3)]) hp)
    refine ⟨C,_,_,Z,v2 _ _ hy3,.inl k7,?_⟩
    exact fin p _ v2 upd_same
   ·obtain ⟨d,rfl,rfl,hd⟩:=hat rfl
    refine ⟨⟨_,rfl,hA3⟩,_,hA3,rfl,?_⟩
    refine ⟨le_line (Nat.le_of_ble_eq_true rfl),fun L hL=>?_⟩
    have v1:=Same.upd (o:=.lst [.str ("wire" : Str),.str ("mark" : Str),.str ("letter" : Str)]) hL
    refine ⟨⟨_,rfl,v1 _ _ hA3⟩,_,v1 _ _ hA3,by decide,?_⟩
    refine ⟨_,gl upd_same (by decide) rfl,?_⟩
    refine ⟨le_line (Nat.le_of_ble_eq_true rfl),fun p hp=>?_⟩
    have v2:=v1.trans (Same.upd (o:=.tup [.str ("refused" : Str),.str (nmOf 7)]) hp)
    refine ⟨C,_,_,Z,v2 _ _ hy3,.inl k7,?_⟩
    refine ⟨y,C,fI,d,.int 0,rfl,W,S,Z,v2 _ _ hy3,v2 _ _ hd,rfl,?_⟩
    exact fin p _ v2 upd_same
 ·exact h.elim
end
end K41
end
section
namespace K41
open PySem L2
section
variable {P:Program} {w:World} {K:PySem.W.Frag} {mg:Str->Option Value} {base:Heap}
abbrev sLWire:Stmt:=top 36
def spLWire:Sp:=fun vs H Q _=>match vs with
 | [cv,.ref t]=>∃ (k n:Nat) (rows:Om.Rows) (ls:List Nat),DV H cv (codeD k n rows)/\Om.CodeOk k n rows/\H t=some (.lst ((ni ls).map V.int))/\ls.length<=100/\(∀ l∈ls,l < 2 ^ k)/\Q (.str (bs (Om.send rows 0 ls).1)) H
 | _=>False
theorem scLWire:FnScope ["code","text","state","wire","letter","word"] ["code","text"] (defScope sLWire):=⟨rfl,rfl,rfl,by decide +kernel,rfl,by decide +kernel,by decide +kernel⟩
theorem ok_lwire (D:FnX K mg "_law_wire" sLWire ["code","text"]):Can P w K mg base "_law_wire" 1 ["code","text"] spLWire:=by
 refine can_fn (k:=0) D scLWire (fun vs H Q E h=>?_) (fun f cdv A outer s H vs Q E hr h=>?_)
 all_goals
  unfold spLWire at h
  split at h
 ·rfl
 ·exact h.elim
 ·rename_i cv t
  obtain ⟨k,n,rows,ls,hc,ok,ht,hlen,hls,q⟩:=h
  have nd:=scLWire.nd
  obtain ⟨a,b,ss,rfl,ha,hb,hss⟩:=code_inv hc
  refine ⟨_,(by walk_at "T.top"),?_⟩
  have hn:(ni ls).length=ls.length:=by unfold ni;simp
  refine ⟨⟨_,SqL.of ht⟩,for_by (it_list _ t ((ni ls).map V.int)) (fun i σ H2=>(∃ v4 v5,σ=[some (.ref a),some (.ref t),some (.int ((Om.send rows 0 (ls.take i)).2:Nat)),some (.str (bs (Om.send rows 0 (ls.take i)).1)),v4,v5])/\H2=H/\(Om.send rows 0 (ls.take i)).2 < rows.length)
   ⟨⟨none,none,rfl⟩,rfl,ok.s1⟩ (fun i σ H2 _ ⟨_,e,_⟩=>SqL.of (by rw [e];exact ht)) ?_ ?_⟩
  ·rintro i x σ H2 hi hx ⟨⟨v4,v5,rfl⟩,rfl,hlt⟩
   rw [List.getElem?_map,ni,List.getElem?_map] at hx
   obtain ⟨n',hn',rfl⟩:=Option.map_eq_some_iff.mp hx
   obtain ⟨l,hl,rfl⟩:=Option.map_eq_some_iff.mp hn'
   obtain ⟨st,e1,e2,e3,e4⟩:=Om.step_get ok hlt (hls l (List.mem_of_getElem? hl))
   obtain ⟨p,rs,f1,f2,f3⟩:=state_at hss e1
   obtain ⟨r,f4,f5⟩:=row_at f3 e2
   have ti:ls.take (i+1)=ls.take i++[l]:=by rw [List.take_add_one,hl];rfl
   have sn:Om.send rows 0 (ls.take i++[l])=((Om.send rows 0 (ls.take i)).1++(Om.step rows (Om.send rows 0 (ls.take i)).2 l).1,(Om.step rows (Om.send rows 0 (ls.take i)).2 l).2):=by
    rw [Om.send_app]
    show ((Om.send rows 0 (ls.take i)).1++((Om.step rows (Om.send rows 0 (ls.take i)).2 l).1++[]),(Om.step rows (Om.send rows 0 (ls.take i)).2 l).2)=_
    rw [List.append_nil]
   have hlen2:((Om.send rows 0 (ls.take (i+1))).1).length<=600:=by
    rw [(Om.send_ok ok (ls.take (i+1)) 0 ok.s1 fun x hx=>hls x (List.mem_of_mem_take hx)).1,List.length_take]
    have h6:=ok.n6
    calc n * min (i+1) ls.length<=6 * 100:=Nat.mul_le_mul h6 (by omega)
     _<=600:=by decide
   rw [ti,sn,List.length_append] at hlen2
   refine ⟨_,gt ha (by decide) rfl,_,gl hb (by omega) (by simpa using f1),.ref r,gl f2 (by omega) (by simpa using f4),?_⟩
   refine ⟨_,.inl f5,rfl,rfl,?_⟩
   refine ⟨by rw [bs_len,bs_len,sizeLine_eq];omega,?_⟩
   refine ⟨⟨some (.int (l:Nat)),some (.str (bs (Om.step rows (Om.send rows 0 (ls.take i)).2 l).1)),?_⟩,rfl,?_⟩
   ·rw [ti,sn,<-bs_app]
    rfl
   ·rw [ti,sn];exact e4
  ·rintro σ H2 ⟨⟨v4,v5,rfl⟩,rfl,hlt⟩
   have tl:ls.take ((ni ls).map V.int).length=ls:=List.take_of_length_le (by rw [List.length_map,hn];exact Nat.le_refl _)
   rw [tl]
   exact q
 ·exact h.elim
end
end K41
end
section
namespace K41
open PySem L2
section
variable {P:Program} {w:World} {K:PySem.W.Frag} {mg:Str->Option Value} {base:Heap}
theorem dvsB {H:Hp}:∀ ws:List (List Bool),DVs H (ws.map fun w=>V.str (bs w)) (ws.map fun w=>PyData.str (bs w))
 | []=>.nil
 | _ :: ws=>.cons (.str _) (dvsB ws)
theorem eqv_nil (ws:List (List Bool)):PyData.eqv (.list (ws.map fun w=>PyData.str (bs w))) (.list [])=decide (ws=[]):=by
 cases ws<;>simp [PyData.eqv,PyData.eqvAll]
def CutAt (u z:List Bool) (i:Nat) (fs:List (List Bool)) (h:List Bool):Prop:=∃ q qs,Om.cutM u (z.drop i)=q :: qs/\Om.cutM u z=fs++(h++q) :: qs
theorem CutAt.hit {u z:List Bool} {i:Nat} {fs:List (List Bool)} {h:List Bool} (u1:1<=u.length) (c:CutAt u z i fs h) (e:(z.drop i).take u.length=u):CutAt u z (i+u.length) (fs++[h]) []:=by
 obtain ⟨q,qs,e1,e2⟩:=c
 rw [Om.cutM_take u1 e,List.drop_drop] at e1
 injection e1 with e3 e4
 subst e3
 obtain ⟨q',qs',e5⟩:=Om.cutM_ne (u:=u) (z.drop (i+u.length))
 refine ⟨q',qs',e5,?_⟩
 rw [e2,<-e4,e5]
 simp
theorem CutAt.miss {u z:List Bool} {i:Nat} {fs:List (List Bool)} {h:List Bool} (u1:1<=u.length) (c:CutAt u z i fs h) (hi:i < z.length) (e:(z.drop i).take u.length≠u):CutAt u z (i+1) fs (h++[z[i]]):=by
 obtain ⟨q,qs,e1,e2⟩:=c
 obtain ⟨q',qs',e5⟩:=Om.cutM_ne (u:=u) (z.drop (i+1))
 rw [List.drop_eq_getElem_cons hi] at e1 e
 rw [Om.cutM_missE u1 e e5] at e1
 injection e1 with e3 e4
 refine ⟨q',qs',e5,?_⟩
 rw [e2,<-e3,e4]
 simp
theorem CutAt.done {u z:List Bool} {fs:List (List Bool)} {h:List Bool} (c:CutAt u z z.length fs h):Om.cutM u z=fs++[h]:=by
 obtain ⟨q,qs,e1,e2⟩:=c
 rw [List.drop_length,Om.cutM_nil] at e1
 injection e1 with e3 e4
 rw [e2,<-e3,<-e4,List.append_nil]
theorem begins_of {u z:List Bool} (u1:1<=u.length) {qs:List (List Bool)} (e:Om.cutM u z=[] :: qs) (h:qs≠[]):z.take u.length=u:=by
 cases z with
 | nil=>
  rw [Om.cutM_nil] at e
  injection e with _ e
  exact absurd e.symm h
 | cons b v=>
  refine Classical.byContradiction fun n=>?_
  obtain ⟨q,qs',e2⟩:=Om.cutM_ne (u:=u) v
  rw [Om.cutM_missE u1 n e2] at e
  injection e with e _
  cases e
abbrev sLParts:Stmt:=top 37
def spLParts:Sp:=fun vs H Q _=>match vs with
 | [.str m,.str x]=>∃ u z:List Bool,m=bs u/\x=bs z/\1<=u.length/\u.length<=8/\z.length<=60000 ∧
   ((¬ ∃ ws,ApOk u z ws)->∀ p H',Same H H'->H' p=some (.tup [.str ("refused" : Str),.str ("wire" : Str)])->Q (.ref p) H') ∧
   ∀ ws l H',ApOk u z ws->Same H H'->H l=none->H' l=some (.lst (ws.map fun w=>V.str (bs w)))->Q (.ref l) H'
 | _=>False
theorem scLParts:FnScope ["mark","wire","found","here","at"] ["mark","wire"] (defScope sLParts):=⟨rfl,rfl,rfl,by decide +kernel,rfl,by decide +kernel,by decide +kernel⟩
theorem ok_lparts (D:FnX K mg "_law_parts" sLParts ["mark","wire"]) (g1:mg "len" = none):Can P w K mg base "_law_parts" 1 ["mark","wire"] spLParts:=by
 refine can_fn (k:=0) D scLParts (fun vs H Q E h=>?_) (fun f cdv A outer s H vs Q E hr h=>?_)
 all_goals
  unfold spLParts at h
  split at h
 ·rfl
 ·exact h.elim
 ·rename_i m x
  obtain ⟨u,z,rfl,rfl,u1,u8,z6,qe,q⟩:=h
  have nd:=scLParts.nd
  refine ⟨_,(by walk_at "T.top"),?_⟩
  refine ⟨Nat.zero_le _,fun L hL=>?_⟩
  have zl:z.length<=sizeLine:=by rw [sizeLine_eq];omega
  refine ⟨fun mm σ H2=>∃ (i:Nat) (fs:List (List Bool)) (hh:List Bool),σ=[some (.str (bs u)),some (.str (bs z)),some (.ref L),some (.str (bs hh)),some (.int (i:Nat))]/\mm+i=z.length/\Same H H2/\H2 L=some (.lst (fs.map fun w=>V.str (bs w)))/\CutAt u z i fs hh/\fs.length<=i/\hh.length<=i,
   ⟨z.length,0,[],[],rfl,rfl,Same.upd hL,upd_same,(by
    obtain ⟨q,qs,e⟩:=Om.cutM_ne (u:=u) z
    exact ⟨q,qs,by rw [List.drop_zero];exact e,by rw [e];rfl⟩),Nat.le_refl _,Nat.le_refl _⟩,?_⟩
  rintro mm σ H2 ⟨i,fs,hh,rfl,hmm,s2,h2,ca,fl,hl⟩
  refine ⟨_,lenS zl,?_⟩
  refine ite2 (fun lt=>?_) (fun ge=>?_)
  ·have lt:i < z.length:=by
    have:=of_decide_eq_true lt
    omega
   refine ⟨fun σ' H'=>∃ (i':Nat) (fs:List (List Bool)) (hh:List Bool),i < i'/\i'<=z.length/\σ'=[some (.str (bs u)),some (.str (bs z)),some (.ref L),some (.str (bs hh)),some (.int (i':Nat))]/\Same H H'/\H' L=some (.lst (fs.map fun w=>V.str (bs w)))/\CutAt u z i' fs hh/\fs.length<=i'/\hh.length<=i',?_,?_⟩
   ·rintro σ' H' ⟨i',fs,hh,a1,a2,rfl,a3,a4,a5,a6,a7⟩
    exact ⟨z.length - i',by omega,i',fs,hh,rfl,by omega,a3,a4,a5,a6,a7⟩
   have own:∀ {o:HO},Same H (upd H2 L o):=fun b o e=>by rw [upd_ne (ne_of_none e hL)];exact s2 _ _ e
   refine ⟨_,lenS (le_line (by omega)),?_⟩
   refine ⟨by rw [bs_len];exact zl,?_⟩
   have es:Txt.slice (bs z) (some (i:Int)) (some ((i:Int)+(u.length:Int)))=bs ((z.drop i).take u.length):=by
    rw [bs_mkS,slice_cut _ (by rw [List.length_map];omega),<-List.map_drop,<-List.map_take]
    rfl
   rw [es]
   refine ite2 (fun c=>?_) (fun c=>?_)
   ·have c:(z.drop i).take u.length=u:=bs_inj (of_decide_eq_true c)
    have tl:=take_at c u1
    refine ⟨⟨_,rfl,h2⟩,_,h2,?_,?_⟩
    ·rw [List.length_map,sizeLine_eq];omega
    refine ⟨_,lenS (le_line (by omega)),?_⟩
    refine ⟨i+u.length,fs++[hh],[],by omega,tl,rfl,own,?_,ca.hit u1 c,by rw [List.length_append];simp;omega,Nat.zero_le _⟩
    rw [upd_same,List.map_append]
    rfl
   ·have c:(z.drop i).take u.length≠u:=fun e=>c (decide_eq_true (by rw [e]))
    refine ⟨_,gs zl (by omega) (by rw [show ((i:Nat):Int).toNat=i by omega];exact List.getElem?_eq_getElem lt),?_⟩
    refine ⟨by rw [bs_len,bs_len,sizeLine_eq];simp;omega,?_⟩
    refine ⟨i+1,fs,hh++[z[i]],by omega,lt,?_,s2,h2,ca.miss u1 lt c,by omega,by rw [List.length_append];simp;omega⟩
    rw [bs_app]
    rfl
  ·have ei:i=z.length:=by
    by_cases e:i < z.length
    ·exact absurd (decide_eq_true (by omega)) ge
    ·omega
   subst ei
   have cd:=ca.done
   refine ⟨Nat.zero_le _,fun N hN=>?_⟩
   have s3:=s2.trans (Same.upd (o:=.lst []) hN)
   have h3:=Same.upd (o:=.lst []) hN _ _ h2
   have hn:upd H2 N (.lst []) N=some (.lst []):=upd_same
   generalize upd H2 N (.lst [])=H3 at s3 h3 hn ⊢
   have ref:(¬ ∃ ws,ApOk u z ws)->∀ p,H3 p=none->Q (.ref p) (upd H3 p (.tup [.str ("refused" : Str),.str ("wire" : Str)])):=fun nb p hp=>qe nb p _ (s3.trans (Same.upd hp)) upd_same
   refine ⟨_,_,.lst h3 (dvsB fs),.lst hn .nil,ws_shaped fs,nil_shaped,?_⟩
   rw [eqv_nil]
   cases fs with
   | nil=>
    refine ⟨le_line (Nat.le_of_ble_eq_true rfl),ref fun ⟨ws,e⟩=>?_⟩
    unfold ApOk at e
    rw [cd] at e
    simp at e
   | cons c fs=>
    refine ⟨_,gl h3 (by decide) rfl,?_⟩
    refine ite2 (fun y=>?_) (fun y0=>?_)
    ·refine ⟨le_line (Nat.le_of_ble_eq_true rfl),ref fun ⟨ws,e⟩=>?_⟩
     unfold ApOk at e
     rw [cd] at e
     injection e with e _
     subst e
     exact absurd y (by decide +kernel)
    refine ite2 (fun y=>?_) (fun y1=>?_)
    ·refine ⟨le_line (Nat.le_of_ble_eq_true rfl),ref fun ⟨ws,e⟩=>?_⟩
     unfold ApOk at e
     rw [cd] at e
     injection e with _ e
     obtain ⟨_,e⟩:=List.append_inj' e rfl
     injection e with e _
     subst e
     exact absurd y (by decide +kernel)
    have ecn:c=[]:=by
     cases c with
     | nil=>rfl
     | cons b c=>exact absurd (by rw [decide_eq_false (by intro z;rw [bs_nil] at z;cases bs_inj z)];rfl) y0
    have eyn:hh=[]:=by
     cases hh with
     | nil=>rfl
     | cons b c=>exact absurd (by rw [decide_eq_false (by intro z;rw [bs_nil] at z;cases bs_inj z)];rfl) y1
    subst ecn
    subst eyn
    have tk:z.take u.length=u:=begins_of u1 cd (by simp)
    refine ⟨_,lenS (le_line (by omega)),?_⟩
    refine ⟨by rw [bs_len];exact zl,?_⟩
    have es:Txt.slice (bs z) none (some ((u.length:Nat):Int))=bs u:=by
     rw [bs_toZ (by omega),show ((u.length:Nat):Int).toNat=u.length by omega,tk]
    rw [es]
    refine ite2 (fun y=>?_) (fun _=>?_)
    ·rw [decide_eq_true rfl] at y
     exact absurd y (by decide)
    refine ⟨_,h3,fun r hr=>?_⟩
    rw [List.map_cons,cut_1]
    exact q fs r _ cd (s3.trans (Same.upd hr)) (s3.free hr) upd_same
 ·exact h.elim
end
end K41
end
section
namespace K41
open PySem L2
section
variable {P:Program} {w:World} {K:PySem.W.Frag} {mg:Str->Option Value} {base:Heap}
theorem bs_fromA (z:List Bool) {j:Int} (h:0<=j):Txt.slice (bs z) (some j) none=bs (z.drop j.toNat):=by
 rw [bs_mkS,slice_from _ _ h,<-List.map_drop]
 rfl
abbrev sSpoilt:Stmt:=top 41
def spSpoilt:Sp:=fun vs H Q _=>match vs with
 | [.str x,.int c]=>∃ z:List Bool,x=bs z/\z.length<=20000/\∀ z':List Bool,z'.length<=2 * z.length+1->Q (.str (bs z')) H
 | _=>False
theorem scSpoilt:FnScope ["wire","cell","way","at"] ["wire","cell"] (defScope sSpoilt):=⟨rfl,rfl,rfl,by decide +kernel,rfl,by decide +kernel,by decide +kernel⟩
theorem ok_spoilt (D:FnX K mg "_law_spoilt" sSpoilt ["wire","cell"]) (g1:mg "len" = none):Can P w K mg base "_law_spoilt" 1 ["wire","cell"] spSpoilt:=by
 refine can_fn (k:=0) D scSpoilt (fun vs H Q E h=>?_) (fun f cdv A outer s H vs Q E hr h=>?_)
 all_goals
  unfold spSpoilt at h
  split at h
 ·rfl
 ·exact h.elim
 ·rename_i x c
  obtain ⟨z,rfl,z2,q⟩:=h
  have nd:=scSpoilt.nd
  refine ⟨_,(by walk_at "T.top"),?_⟩
  have zl:z.length<=sizeLine:=by rw [sizeLine_eq];omega
  refine ⟨(by omega:(0:Int) < 4),?_⟩
  refine ⟨⟨by omega,by omega⟩,?_⟩
  refine ⟨_,lenS zl,?_⟩
  refine ⟨(by omega:(0:Int) < (z.length:Int)+1),?_⟩
  have a0:0<=(c / 4) % ((z.length:Int)+1):=Int.emod_nonneg _ (by omega)
  have a1:(c / 4) % ((z.length:Int)+1) < (z.length:Int)+1:=Int.emod_lt_of_pos _ (by omega)
  obtain ⟨a,ea⟩ : ∃ a:Nat,(c / 4) % ((z.length:Int)+1)=(a:Int):=⟨_,(Int.toNat_of_nonneg a0).symm⟩
  have al:a<=z.length:=by omega
  dsimp only [gName]
  rw [ea]
  have sl:(bs z).length<=sizeLine:=by rw [bs_len];exact zl
  have e1:Txt.slice (bs z) none (some (a:Int))=bs (z.take a):=by rw [bs_toZ (by omega),show ((a:Nat):Int).toNat=a by omega]
  have e2:Txt.slice (bs z) (some ((a:Int)+1)) none=bs (z.drop (a+1)):=by rw [bs_fromA z (by omega),show ((a:Int)+1).toNat=a+1 by omega]
  have e3:Txt.slice (bs z) (some (a:Int)) none=bs (z.drop a):=by rw [bs_fromA z (by omega),show ((a:Nat):Int).toNat=a by omega]
  have r0:0<=(c / 3) % 2:=Int.emod_nonneg _ (by omega)
  have r1:(c / 3) % 2 < 2:=Int.emod_lt_of_pos _ (by omega)
  refine ite2 (fun _=>?_) (fun _=>?_)
  ·refine ⟨sl,sl,?_⟩
   rw [e1,e2]
   refine ⟨by rw [bs_len,bs_len,sizeLine_eq,List.length_take,List.length_drop];omega,?_⟩
   rw [bs_app]
   exact q _ (by rw [List.length_append,List.length_take,List.length_drop];omega)
  refine ite2 (fun _=>?_) (fun _=>?_)
  ·refine ⟨sl,⟨by omega,by omega⟩,(by omega:(0:Int) < 2),_,g01 r0 r1,?_⟩
   rw [e1]
   refine ⟨by rw [bs_len,bs_len,sizeLine_eq,List.length_take];simp;omega,sl,?_⟩
   rw [e3,bs_app]
   refine ⟨by rw [bs_len,bs_len,sizeLine_eq,List.length_append,List.length_take,List.length_drop];simp;omega,?_⟩
   rw [bs_app]
   exact q _ (by rw [List.length_append,List.length_append,List.length_take,List.length_drop];simp;omega)
  refine ite2 (fun _=>?_) (fun _=>?_)
  ·refine ⟨sl,⟨by omega,by omega⟩,(by omega:(0:Int) < 2),_,g01 r0 r1,?_⟩
   rw [e1]
   refine ⟨by rw [bs_len,bs_len,sizeLine_eq,List.length_take];simp;omega,sl,?_⟩
   rw [e2,bs_app]
   refine ⟨by rw [bs_len,bs_len,sizeLine_eq,List.length_append,List.length_take,List.length_drop];simp;omega,?_⟩
   rw [bs_app]
   exact q _ (by rw [List.length_append,List.length_append,List.length_take,List.length_drop];simp;omega)
  refine ⟨sl,sl,?_⟩
  rw [e1,e3]
  refine ⟨by rw [bs_len,bs_len,sizeLine_eq,List.length_take,List.length_drop];omega,sl,?_⟩
  rw [e1,bs_app]
  refine ⟨by rw [bs_len,bs_len,sizeLine_eq,List.length_append,List.length_take,List.length_drop];omega,?_⟩
  rw [bs_app]
  exact q _ (by rw [List.length_append,List.length_append,List.length_take,List.length_drop];omega)
 ·exact h.elim
end
end K41
end
section
namespace K41
open PySem L2
section
variable {P:Program} {w:World} {K:PySem.W.Frag} {mg:Str->Option Value} {base:Heap}
theorem cutW (ws:List (List Bool)) (lo hi:Option Int):∃ ws':List (List Bool),cutV (ws.map fun w=>V.str (bs w)) lo hi=ws'.map (fun w=>V.str (bs w))/\(∀ x∈ws',x∈ws)/\ws'.length<=ws.length:=by
 unfold cutV
 rw [<-List.map_drop,<-List.map_take]
 exact ⟨_,rfl,fun x hx=>List.mem_of_mem_drop (List.mem_of_mem_take hx),by rw [List.length_take,List.length_drop];omega⟩
abbrev sLMark:Stmt:=top 39
def spLMark (P0:Addr):Sp:=fun vs H Q _=>match vs with
 | [cv,.int c,.bl b]=>∃ (k n:Nat) (rows:Om.Rows),DV H cv (codeD k n rows)/\Om.CodeOk k n rows/\Tab P0 (lamPos lamTb) qTb H/\(∀ H',SameT P0 H H'->Tab P0 (lamPos lamTb) qTb H'->Q .non H') ∧
   ∀ (u:List Bool) H',1<=u.length->u.length<=8->(b=true↔¬ Om.Fac rows u/\¬ Om.BadP rows u)->SameT P0 H H'->Tab P0 (lamPos lamTb) qTb H'->Q (.str (bs u)) H'
 | _=>False
theorem scLMark:FnScope ["code","cell","clean","large","turn","length","some","at"] ["code","cell","clean"] (defScope sLMark):=⟨rfl,rfl,rfl,by decide +kernel,rfl,by decide +kernel,by decide +kernel⟩
local macro_rules | `(tactic| walk_at "T.sc")=>`(tactic| (have ndc:(["mark","code","clean"]:List Str).Nodup:=(by decide +kernel));((with_reducible refine' s_comp "some" 6 ["mark","code","clean"] [0,2] ?b1 ?b0 ?b2 (fun cl C s H fp=>?b3) (fun cl C s H fp=>?b4) (fun cl C s H fp=>?b5));(case b1=>exact ndc);(case b0=>assumption);(case b2=>walk_at "T.i");(case b3=>walk_at "T.g");(case b4=>walk_at "T.pf");(case b5=>walk_at "T.e")))
theorem ok_lmark {P0:Addr} (D:FnX K mg "_law_mark" sLMark ["code","cell","clean"]) (g1:mg "int" = none) (g2:mg "len" = none) (g3:mg "range" = none) (c1:Can P w K mg base "marks" 6 ["code","length"] (spMarks P0)) (c2:Can P w K mg base "is_clean" 7 ["code","mark"] (spClean P0)):Can P w K mg base "_law_mark" 8 ["code","cell","clean"] (spLMark P0):=by
 refine can_fn (k:=7) D scLMark (fun vs H Q E h=>?_) (fun f cdv A outer s H vs Q E hr h=>?_)
 all_goals
  unfold spLMark at h
  split at h
 ·rfl
 ·exact h.elim
 ·rename_i cv c b
  obtain ⟨k,n,rows,hc,ok,tb,qn,q⟩:=h
  have nd:=scLMark.nd
  refine ⟨_,(by walk_at "T.top"),?_⟩
  obtain ⟨ps0,hP⟩:=tb.tbl
  have G0:Same (wo1 P0 H) H:=wo1.same (SameT.refl _ _)
  have GP:wo1 P0 H P0=none:=by unfold wo1;rw [if_pos rfl]
  have dvc:=DV.wo1 hP hc
  have back:∀ {H':Hp},Same (wo1 P0 H) H'->SameT P0 H H':=fun s b o n e=>s b o (wo1.at e n)
  generalize wo1 P0 H=G at G0 GP dvc back
  obtain ⟨a0,b0,ss0,rfl,ha0,hb0,hss0⟩:=code_inv dvc
  have r1:=ok.s1
  have r8:=ok.s8
  obtain ⟨q0,rs0,e01,e02,e03⟩:=state_at hss0 (s:=0) (st:=rows[0]) (List.getElem?_eq_getElem r1)
  have keep:∀ {X Y:Hp},Same G X->SameT P0 X Y->Same G Y:=fun {X Y} s1 s2 b o e=>s2 _ _ (fun z=>by rw [z,GP] at e;cases e) (s1 _ _ e)
  have sl0:ss0.length=rows.length:=by rw [hss0.length,List.length_map]
  have n6:=ok.n6
  have pr:0<=((n:Nat):Int) * (ss0.length:Int)/\((n:Nat):Int) * (ss0.length:Int)<=48:=by
   have h1:n * ss0.length<=6 * 8:=Nat.mul_le_mul n6 (by omega)
   rw [<-Int.natCast_mul]
   omega
  refine ⟨_,gt (G0 _ _ ha0) (by decide) rfl,_,gt (G0 _ _ ha0) (by decide) rfl,_,lenL (G0 _ _ hb0),.inl ⟨by omega,by omega⟩,_,gt (G0 _ _ ha0) (by decide) rfl,.ref q0,gl (G0 _ _ hb0) (by decide) (by simpa using e01),_,lenL (G0 _ _ e02),.inl ⟨by omega,by omega⟩,?_⟩
  obtain ⟨lv,elv,hlv⟩ : ∃ lv:Int,(if decide ((60:Int) < ((n:Nat):Int) * (ss0.length:Int) * (rs0.length:Int))=true then 1 else 0)=lv/\(lv=0\/lv=1):=by
   cases decide ((60:Int) < ((n:Nat):Int) * (ss0.length:Int) * (rs0.length:Int))
   ·exact ⟨0,rfl,.inl rfl⟩
   ·exact ⟨1,rfl,.inr rfl⟩
  dsimp only [gName]
  refine ⟨le_line (Nat.le_of_ble_eq_true rfl),fun p0 hp0=>?_⟩
  have s5:Same H (upd H p0 (.lst [.int 8,.int 4])):=Same.upd hp0
  have G5:=G0.trans s5
  have t5:=tb.mono s5
  have pick:∃ m:Nat,m<=8/\getV (upd H p0 (.lst [.int 8,.int 4])) (.ref p0) lv=some (.int (m:Nat)):=by
   rcases hlv with rfl | rfl
   ·exact ⟨8,by decide,gl upd_same (by decide) rfl⟩
   ·exact ⟨4,by decide,gl upd_same (by decide) rfl⟩
  obtain ⟨m,m8,em⟩:=pick
  refine ⟨_,by rw [<-elv] at em;exact em,?_⟩
  generalize upd H p0 (.lst [.int 8,.int 4])=H5 at G5 t5
  refine ⟨by omega,by omega,for_by (it_range 0 _) (fun i σ H7=>∃ v4 v5 v6 v7:Option V,σ=[some (.ref a0),some (.int c),some (.bl b),some (.int lv),v4,v5,v6,v7]/\Same G H7/\Tab P0 (lamPos lamTb) qTb H7)
   ⟨none,none,none,none,by rw [<-elv];rfl,G5,t5⟩ (fun _ _ _ _ _=>trivial) ?_ ?_⟩
  ·rintro i x σ H7 hi hx ⟨v4,v5,v6,v7,rfl,G7,t7⟩
   rw [List.length_map,List.length_range] at hi
   have ex:x=V.int (0+(i:Nat)):=by
    rw [List.getElem?_map,List.getElem?_range hi] at hx
    exact (Option.some.inj hx).symm
   subst ex
   have l0:=Int.emod_nonneg (c+3 * (0+(i:Int))) (show (8:Int)≠0 by decide)
   have l1:=Int.emod_lt_of_pos (c+3 * (0+(i:Int))) (show (0:Int) < 8 by decide)
   obtain ⟨l,el⟩ : ∃ l:Nat,1+(c+3 * (0+(i:Int))) % 8=(l:Nat):=⟨(1+(c+3 * (0+(i:Int))) % 8).toNat,by omega⟩
   dsimp only [gName]
   refine ⟨.inl ⟨by omega,by omega⟩,(by omega:(0:Int) < 8),?_⟩
   refine ⟨k,n,rows,l,el,by omega,by omega,dvc.mono G7,ok,t7,fun F H9 s9 t9 nF hF=>?_⟩
   have G9:=keep G7 s9
   have m256:=markS_le (rows:=rows) (L:=l) (by omega)
   have ml:∀ x∈markS rows l,x.length=l:=fun x hx=>(markS_mem.mp hx).1
   dsimp only [gName]
   refine ⟨⟨by omega,by omega⟩,_,lenL hF,(by omega:(0:Int) < _+1),?_⟩
   generalize markS rows l=ms at hF m256 ml ⊢
   dsimp only [gName]
   obtain ⟨x1,ex1,y1,z1⟩:=cutW ms (some (c / 7 % ((((ms.map fun w=>V.str (bs w)).length:Nat):Int)+1))) none
   obtain ⟨x2,ex2,y2,z2⟩:=cutW ms none (some (c / 7 % ((((ms.map fun w=>V.str (bs w)).length:Nat):Int)+1)))
   refine ⟨_,hF,fun n1 hn1=>?_⟩
   rw [ex1]
   have h1:upd H9 n1 (.lst (x1.map fun w=>V.str (bs w))) n1=some (.lst (x1.map fun w=>V.str (bs w))):=upd_same
   have s1:=Same.upd (o:=.lst (x1.map fun w=>V.str (bs w))) hn1
   generalize upd H9 n1 (.lst (x1.map fun w=>V.str (bs w)))=Ha at h1 s1 ⊢
   refine ⟨_,s1 _ _ hF,fun n2 hn2=>?_⟩
   rw [ex2]
   have h2:upd Ha n2 (.lst (x2.map fun w=>V.str (bs w))) n2=some (.lst (x2.map fun w=>V.str (bs w))):=upd_same
   have s2':=Same.upd (o:=.lst (x2.map fun w=>V.str (bs w))) hn2
   have h1:=s2' _ _ h1
   have s2:=s1.trans s2'
   generalize upd Ha n2 (.lst (x2.map fun w=>V.str (bs w)))=Hb at h1 h2 s2 ⊢
   refine ⟨_,_,h1,h2,by rw [List.length_map,List.length_map];exact le_line (by omega),fun n3 hn3=>?_⟩
   rw [<-List.map_append]
   have h3:upd Hb n3 (.lst ((x1++x2).map fun w=>V.str (bs w))) n3=some (.lst ((x1++x2).map fun w=>V.str (bs w))):=upd_same
   have s3:=s2.trans (Same.upd (o:=.lst ((x1++x2).map fun w=>V.str (bs w))) hn3)
   have y3:∀ x∈x1++x2,x.length=l:=fun x hx=>by
    rcases List.mem_append.mp hx with hx | hx
    ·exact ml x (y1 x hx)
    ·exact ml x (y2 x hx)
   have z3:(x1++x2).length<=512:=by rw [List.length_append];omega
   generalize upd Hb n3 (.lst ((x1++x2).map fun w=>V.str (bs w)))=Hc at h3 s3 ⊢
   generalize x1++x2=x3 at h3 y3 z3
   clear h1 h2 hn1 hn2 hn3 s1 s2 s2'
   refine ⟨le_line (Nat.le_of_ble_eq_true rfl),fun n4 hn4=>?_⟩
   have s4:=Same.upd (o:=.lst [.int 20,.int 6]) hn4
   have pk:∃ m2:Int,getV (upd Hc n4 (.lst [.int 20,.int 6])) (.ref n4) lv=some (.int m2):=by
    rcases hlv with rfl | rfl
    ·exact ⟨20,gl upd_same (by decide) rfl⟩
    ·exact ⟨6,gl upd_same (by decide) rfl⟩
   obtain ⟨m2,em2⟩:=pk
   refine ⟨_,em2,?_⟩
   have h3:=s4 _ _ h3
   have s4:=s3.trans s4
   generalize upd Hc n4 (.lst [.int 20,.int 6])=Hd at h3 s4 ⊢
   obtain ⟨x4,ex4,y4,z4⟩:=cutW x3 none (some m2)
   refine ⟨_,h3,fun n5 hn5=>?_⟩
   rw [ex4]
   have h5:upd Hd n5 (.lst (x4.map fun w=>V.str (bs w))) n5=some (.lst (x4.map fun w=>V.str (bs w))):=upd_same
   have s5':=s4.trans (Same.upd (o:=.lst (x4.map fun w=>V.str (bs w))) hn5)
   have y5:∀ x∈x4,x.length=l:=fun x hx=>y3 x (y4 x hx)
   generalize upd Hd n5 (.lst (x4.map fun w=>V.str (bs w)))=He at h5 s5' ⊢
   have Ge:=G9.trans s5'
   have te:=t9.mono s5'
   clear h3 s3 s4 hn4 hn5 ex1 ex2 ex4 em2 y3 y1 y2 z1 z2
   dsimp only [gName]
   refine ⟨⟨_,SqL.of h5⟩,fun D1 hD1=>?_⟩
   have sD:=Same.upd (o:=.lst []) hD1
   have nD:n5≠D1:=fun z=>by rw [z,hD1] at h5;cases h5
   have GD:G D1=none:=Ge.free hD1
   have own:∀ {X:Hp} {o:HO},Same G X->Same G (upd X D1 o):=fun s b o e=>by rw [upd_ne (ne_of_none e GD)];exact s _ _ e
   refine comp_by (it_list _ n5 (x4.map fun w=>V.str (bs w))) (fun i τ H8 ys=>(∃ v,τ=[v,some (.ref a0),some (.bl b)])/\Same G H8/\Tab P0 (lamPos lamTb) qTb H8/\H8 n5=some (.lst (x4.map fun w=>V.str (bs w)))/\H8 D1=some (.lst ys)/\∃ zs:List (List Bool),ys=(zs.map fun w=>V.str (bs w))/\zs.length<=i/\∀ x∈zs,x.length=l/\(b=true↔¬ Om.Fac rows x/\¬ Om.BadP rows x)) (by rw [List.length_map];exact le_line (by omega))
    ⟨⟨_,rfl⟩,own Ge,te.mono sD,sD _ _ h5,upd_same,[],rfl,Nat.le_refl _,fun x hx=>absurd hx (by simp)⟩ ?_ ?_ ?_
   ·rintro j τ H8 ys hj ⟨_,_,_,h8,hd,zs,rfl,lz,_⟩
    exact ⟨SqL.of h8,hd,by rw [List.length_map];exact lz⟩
   ·rintro j x τ H8 ys hj hx ⟨⟨v,rfl⟩,G8,t8,h8,hd,zs,rfl,lz,gz⟩
    rw [List.getElem?_map] at hx
    obtain ⟨u,hu,rfl⟩:=Option.map_eq_some_iff.mp hx
    have ul:=y5 u (List.mem_of_getElem? hu)
    refine .inl ⟨k,n,rows,u,rfl,by omega,by omega,dvc.mono G8,ok,t8,fun b1 Hx sx tx hb=>?_⟩
    have Gx:=keep G8 sx
    have hx8:=lst_T h8 t8 sx
    have hdx:=lst_T hd t8 sx
    refine ite2 (fun eb=>?_) (fun eb=>?_)
    ·have eb:b1=b:=of_decide_eq_true eb
     subst eb
     refine ⟨hdx,⟨_,rfl⟩,own Gx,tx.upd hdx,by rw [upd_ne nD];exact hx8,upd_same,zs++[u],by rw [List.map_append];rfl,by rw [List.length_append];simp;omega,fun y hy=>?_⟩
     rcases List.mem_append.mp hy with hy | hy
     ·exact gz y hy
     ·rw [List.mem_singleton.mp hy];exact ⟨ul,hb⟩
    ·exact ⟨⟨_,rfl⟩,Gx,tx,hx8,hdx,zs,rfl,by omega,gz⟩
   ·rintro τ H8 ys ⟨_,G8,t8,h8,hd,zs,rfl,lz,gz⟩
    dsimp only [gName]
    refine ⟨Nat.zero_le _,fun N hN=>?_⟩
    have sN:=Same.upd (o:=.lst []) hN
    refine ⟨_,_,.lst (sN _ _ hd) (dvsB zs),.lst upd_same .nil,ws_shaped zs,nil_shaped,?_⟩
    rw [eqv_nil]
    cases zs with
    | nil=>exact ⟨_,_,_,_,rfl,G8.trans sN,t8.mono sN⟩
    | cons u zs=>
     obtain ⟨ul,ub⟩:=gz u (List.mem_cons_self ..)
     refine ⟨_,gl (sN _ _ hd) (by decide) rfl,?_⟩
     exact q u _ (by omega) (by omega) ub (back (G8.trans sN)) (t8.mono sN)
  ·rintro σ H7 ⟨v4,v5,v6,v7,rfl,G7,t7⟩
   exact qn H7 (back G7) t7
 ·exact h.elim
end
end K41
end
section
namespace K41
open PySem L2
section
variable {P:Program} {w:World} {K:PySem.W.Frag} {mg:Str->Option Value} {base:Heap}
def refD (z:Str):PyData:=.tuple [.str ("refused" : Str),.str z]
theorem refD_DV {H:Hp} {p:Addr} {z:Str} (h:H p=some (.tup [.str ("refused" : Str),.str z])):DV H (.ref p) (refD z):=.tup h (.cons (.str _) (.cons (.str _) .nil))
theorem told_markF {P0 CM CL CW F1 F2:Addr} {cv mk:V} {l:Addr} {H:Hp} {Q:VK} {E:XK} {k n:Nat} {rows:Om.Rows} {fs:List V} (hc:DV H cv (codeD k n rows)) (ok:Om.CodeOk k n rows) (tb:Tab P0 (lamPos lamTb) qTb H) (hm:MkOk H mk) (nc:¬ ClnM rows mk) (hl:H l=some (.lst fs)) (f40:fs.length<=40)
  (q:∀ p H',SameT P0 H H'->Tab P0 (lamPos lamTb) qTb H'->H' p=some (.tup [.str ("refused" : Str),.str ("mark" : Str)])->Q (.ref p) H'):spTold P0 CM CL CW F1 F2 [.ref F1,cv,mk,.ref l] H Q E:=
 .inl ⟨rfl,k,n,rows,fs,[],hc,ok,tb,hm,hl,f40,Nat.zero_le _,(fun j ls e=>by simp at e),fun _ H' s t=>⟨CM,3,"mark",rfl,.inl ⟨rfl,rfl,rfl⟩,fun p H'' s' hp=>q p H'' (s.trans s'.t) (t.mono s') hp⟩,fun u e a b c d=>absurd ⟨u,e,a,b,c,d⟩ nc⟩
theorem told_markA {P0 CM CL CW F1 F2:Addr} {cv mk x:V} {H:Hp} {Q:VK} {E:XK} {k n:Nat} {rows:Om.Rows} (hc:DV H cv (codeD k n rows)) (ok:Om.CodeOk k n rows) (tb:Tab P0 (lamPos lamTb) qTb H) (hm:MkOk H mk) (nc:¬ ClnM rows mk)
  (q:∀ p H',SameT P0 H H'->Tab P0 (lamPos lamTb) qTb H'->H' p=some (.tup [.str ("refused" : Str),.str ("mark" : Str)])->Q (.ref p) H'):spTold P0 CM CL CW F1 F2 [.ref F2,cv,mk,x] H Q E:=
 .inr ⟨rfl,k,n,rows,hc,ok,tb,hm,fun _ H' s t=>⟨CM,3,"mark",rfl,.inl ⟨rfl,rfl,rfl⟩,fun p H'' s' hp=>q p H'' (s.trans s'.t) (t.mono s') hp⟩,fun u e a b c d=>absurd ⟨u,e,a,b,c,d⟩ nc⟩
theorem ref_shaped_mark:SeqAt.shaped (refD "mark")=true:=by decide +kernel
theorem ref_eq_mark:PyData.eqv (refD "mark") (refD "mark")=true:=by decide +kernel
abbrev sNClean:Stmt:=top 40
def spNClean (P0:Addr):Sp:=fun vs H Q _=>match vs with
 | [cv,.int c]=>∃ (k n:Nat) (rows:Om.Rows),DV H cv (codeD k n rows)/\Om.CodeOk k n rows/\Tab P0 (lamPos lamTb) qTb H/\∀ H',SameT P0 H H'->Tab P0 (lamPos lamTb) qTb H'->Q (.bl true) H'
 | _=>False
theorem scNClean:FnScope ["code","cell","mark","frames","wire"] ["code","cell"] (defScope sNClean):=⟨rfl,rfl,rfl,by decide +kernel,rfl,by decide +kernel,by decide +kernel⟩
local macro_rules | `(tactic| walk_at "T.e")=>`(tactic| first | ((with_reducible refine' e_clsX "framed" ?a0 ?a9);(case a0=>with_reducible assumption);(case a9=>rfl)) | ((with_reducible refine' e_clsX "apart" ?a0 ?a9);(case a0=>with_reducible assumption);(case a9=>rfl)))
theorem ok_nclean {P0 CM CL CW F1 F2:Addr} (D:FnX K mg "_law_not_clean" sNClean ["code","cell"]) (f1:mg "framed" = some (.ref F1)) (f2:mg "apart" = some (.ref F2)) (c1:Can P w K mg base "_law_mark" 8 ["code","cell","clean"] (spLMark P0)) (c2:Can P w K mg base "_law_told" 10 ["asked","code","mark","thing"] (spTold P0 CM CL CW F1 F2)):Can P w K mg base "_law_not_clean" 11 ["code","cell"] (spNClean P0):=by
 refine can_fn (k:=10) D scNClean (fun vs H Q E h=>?_) (fun f cdv A outer s H vs Q E hr h=>?_)
 all_goals
  unfold spNClean at h
  split at h
 ·rfl
 ·exact h.elim
 ·rename_i cv c
  obtain ⟨k,n,rows,hc,ok,tb,q⟩:=h
  have nd:=scNClean.nd
  refine ⟨_,(by walk_at "T.top"),?_⟩
  refine ⟨k,n,rows,hc,ok,tb,fun H1 s1 t1=>q H1 s1 t1,fun u H1 u1 u8 ub s1 t1=>?_⟩
  have nc:¬ ClnM rows (.str (bs u)):=fun z=>by
   have:=ub.mpr ((ClnM.sgn u1 u8).mp z)
   cases this
  have mk:∀ {X:Hp},MkOk X (.str (bs u)):=fun {X}=>.inl ⟨u,rfl,u1,u8⟩
  have hc1:=hc.monoT tb s1
  refine ⟨Nat.zero_le _,fun a1 h1=>?_⟩
  refine ⟨le_line (Nat.le_of_ble_eq_true rfl),fun a2 h2=>?_⟩
  refine ⟨le_line (Nat.le_of_ble_eq_true rfl),fun a3 h3=>?_⟩
  refine ⟨le_line (Nat.le_of_ble_eq_true rfl),fun a4 h4=>?_⟩
  refine ⟨Nat.zero_le _,fun a5 h5=>?_⟩
  refine ⟨le_line (Nat.le_of_ble_eq_true rfl),fun a6 h6=>?_⟩
  refine ⟨le_line (Nat.le_of_ble_eq_true rfl),fun a7 h7=>?_⟩
  refine ⟨le_line (Nat.le_of_ble_eq_true rfl),fun a8 h8=>?_⟩
  have k1:=Same.upd (o:=.lst []) h1
  have k2:=Same.upd (o:=.lst [.int 0]) h2
  have k3:=Same.upd (o:=.lst [.ref a2]) h3
  have k4:=Same.upd (o:=.lst [.int 0]) h4
  have k5:=Same.upd (o:=.lst []) h5
  have k6:=Same.upd (o:=.lst [.int 0]) h6
  have k7:=Same.upd (o:=.lst [.ref a4,.ref a5,.ref a6]) h7
  have k8:=Same.upd (o:=.lst [.ref a1,.ref a3,.ref a7]) h8
  have e1:=(((((((k2.trans k3).trans k4).trans k5).trans k6).trans k7).trans k8) a1 _ upd_same)
  have e3:=(((((k4.trans k5).trans k6).trans k7).trans k8) a3 _ upd_same)
  have e7:=k8 a7 _ upd_same
  have e8:=upd_same (H:=upd (upd (upd (upd (upd (upd (upd H1 a1 (.lst [])) a2 (.lst [.int 0])) a3 (.lst [.ref a2])) a4 (.lst [.int 0])) a5 (.lst [])) a6 (.lst [.int 0])) a7 (.lst [.ref a4,.ref a5,.ref a6])) (a:=a8) (o:=.lst [.ref a1,.ref a3,.ref a7])
  have ks:=((((((k1.trans k2).trans k3).trans k4).trans k5).trans k6).trans k7).trans k8
  generalize upd (upd (upd (upd (upd (upd (upd (upd H1 a1 (.lst [])) a2 (.lst [.int 0])) a3 (.lst [.ref a2])) a4 (.lst [.int 0])) a5 (.lst [])) a6 (.lst [.int 0])) a7 (.lst [.ref a4,.ref a5,.ref a6])) a8 (.lst [.ref a1,.ref a3,.ref a7])=Hf at e1 e3 e7 e8 ks ⊢
  clear k1 k2 k3 k4 k5 k6 k7 k8 h1 h2 h3 h4 h5 h6 h7 h8
  have tf:=t1.mono ks
  have cf:=hc1.mono ks
  have sf:=s1.trans ks.t
  refine ⟨⟨_,SqL.of e8⟩,for_by (it_list _ a8 [.ref a1,.ref a3,.ref a7]) (fun i σ Hx=>(∃ v3 v4,σ=[some cv,some (.int c),some (.str (bs u)),v3,v4])/\SameT P0 Hf Hx/\Tab P0 (lamPos lamTb) qTb Hx)
   ⟨⟨none,none,rfl⟩,SameT.refl _ _,tf⟩ (fun i σ Hx _ ⟨_,sx,_⟩=>SqL.of (lst_T e8 tf sx)) ?_ ?_⟩
  ·rintro i x σ Hx hi hx ⟨⟨v3,v4,rfl⟩,sx,tx⟩
   have ex:∃ l fs,x = .ref l/\Hx l=some (.lst fs)/\fs.length<=40:=by
    match i,hi,hx with
    | 0,_,hx=>cases hx;exact ⟨_,_,rfl,lst_T e1 tf sx,by simp⟩
    | 1,_,hx=>cases hx;exact ⟨_,_,rfl,lst_T e3 tf sx,by simp⟩
    | 2,_,hx=>cases hx;exact ⟨_,_,rfl,lst_T e7 tf sx,by simp⟩
   obtain ⟨l,fs,rfl,hl,f40⟩:=ex
   refine told_markF (E:=E0) (cf.monoT tf sx) ok tx mk nc hl f40 fun p Hy sy ty hp=>?_
   refine ⟨le_line (Nat.le_of_ble_eq_true rfl),fun r hr=>?_⟩
   have sr:=Same.upd (o:=.tup [.str ("refused" : Str),.str ("mark" : Str)]) hr
   refine ⟨refD "mark",refD "mark",refD_DV (sr _ _ hp),refD_DV upd_same,ref_shaped_mark,ref_shaped_mark,?_⟩
   rw [ref_eq_mark]
   exact ⟨⟨_,_,rfl⟩,(sx.trans sy).trans sr.t,ty.mono sr⟩
  ·rintro σ Hx ⟨⟨v3,v4,rfl⟩,sx,tx⟩
   refine ⟨le_line (Nat.le_of_ble_eq_true rfl),fun a9 h9=>?_⟩
   have k9:=Same.upd (o:=.lst [.str (bs u),.str ("2" : Str),.non]) h9
   have e9:upd Hx a9 (.lst [.str (bs u),.str ("2" : Str),.non]) a9=some (.lst [.str (bs u),.str ("2" : Str),.non]):=upd_same
   have sg:=sx.trans k9.t
   have tg:=tx.mono k9
   generalize upd Hx a9 (.lst [.str (bs u),.str ("2" : Str),.non])=Hg at e9 sg tg ⊢
   have cg:=cf.monoT tf sg
   refine ⟨⟨_,SqL.of e9⟩,for_by (it_list _ a9 [.str (bs u),.str ("2" : Str),.non]) (fun i σ Hx=>(∃ v3 v4,σ=[some cv,some (.int c),some (.str (bs u)),v3,v4])/\SameT P0 Hg Hx/\Tab P0 (lamPos lamTb) qTb Hx)
    ⟨⟨_,_,rfl⟩,SameT.refl _ _,tg⟩ (fun i σ Hx _ ⟨_,sx,_⟩=>SqL.of (lst_T e9 tg sx)) ?_ ?_⟩
   ·rintro i x σ Hy hi hx ⟨⟨v3,v4,rfl⟩,sy,ty⟩
    refine told_markA (E:=E0) (cg.monoT tg sy) ok ty mk nc fun p Hz sz tz hp=>?_
    refine ⟨le_line (Nat.le_of_ble_eq_true rfl),fun r hr=>?_⟩
    have sr:=Same.upd (o:=.tup [.str ("refused" : Str),.str ("mark" : Str)]) hr
    refine ⟨refD "mark",refD "mark",refD_DV (sr _ _ hp),refD_DV upd_same,ref_shaped_mark,ref_shaped_mark,?_⟩
    rw [ref_eq_mark]
    exact ⟨⟨_,_,rfl⟩,(sy.trans sz).trans sr.t,tz.mono sr⟩
   ·rintro σ Hy ⟨⟨v3,v4,rfl⟩,sy,ty⟩
    exact q _ (sf.trans (sg.trans sy)) ty
 ·exact h.elim
end
end K41
end
section
namespace K41
open PySem L2
section
variable {P:Program} {w:World} {K:PySem.W.Frag} {mg:Str->Option Value} {base:Heap}
def FrmB (k:Nat) (H:Hp) (x:V):Prop:=∃ (l:Addr) (fs:List V) (lss:List (List Nat)) (v:V),x = .ref l/\H l=some (.lst fs)/\fs.length<=40/\lss.length<=fs.length/\(∀ (j:Nat) ls,lss[j]? = some ls->∃ v,fs[j]? = some v/\FrG k H v ls)/\fs[lss.length]? = some v/\FrB k H v
theorem FrmB.mono {k:Nat} {H H':Hp} {x:V} (h:FrmB k H x) (s:Same H H'):FrmB k H' x:=by
 obtain ⟨l,fs,lss,v,h1,h2,h3,h4,h5,h6,h7⟩:=h
 exact ⟨l,fs,lss,v,h1,s _ _ h2,h3,h4,fun j ls e=>let ⟨v,a,b⟩:=h5 j ls e;⟨v,a,b.mono s⟩,h6,h7.mono s⟩
theorem FrmB.monoT {k:Nat} {H H':Hp} {x:V} {P0:Addr} {pos:Pos} {qual:Str} (h:FrmB k H x) (t:Tab P0 pos qual H) (s:SameT P0 H H'):FrmB k H' x:=by
 obtain ⟨l,fs,lss,v,h1,h2,h3,h4,h5,h6,h7⟩:=h
 exact ⟨l,fs,lss,v,h1,lst_T h2 t s,h3,h4,fun j ls e=>let ⟨v,a,b⟩:=h5 j ls e;⟨v,a,b.monoT t s⟩,h6,h7.monoT t s⟩
theorem fr0 {k:Nat} {H:Hp} {a:Addr} (h:H a=some (.lst [.int 0])):FrG k H (.ref a) [0]:=⟨a,rfl,h,by simp,fun l hl=>by rw [List.mem_singleton.mp hl];exact Nat.two_pow_pos k⟩
theorem frN {k:Nat} {H:Hp} {a:Addr} (h:H a=some (.lst [])):FrG k H (.ref a) []:=⟨a,rfl,h,by simp,fun l hl=>absurd hl (by simp)⟩
theorem told_lett {P0 CM CL CW F1 F2:Addr} {cv x:V} {u:List Bool} {H:Hp} {Q:VK} {E:XK} {k n:Nat} {rows:Om.Rows} (hc:DV H cv (codeD k n rows)) (ok:Om.CodeOk k n rows) (tb:Tab P0 (lamPos lamTb) qTb H) (u1:1<=u.length) (u8:u.length<=8) (cl:¬ Om.Fac rows u/\¬ Om.BadP rows u) (fb:FrmB k H x)
  (q:∀ p H',SameT P0 H H'->Tab P0 (lamPos lamTb) qTb H'->H' p=some (.tup [.str ("refused" : Str),.str ("letter" : Str)])->Q (.ref p) H'):spTold P0 CM CL CW F1 F2 [.ref F1,cv,.str (bs u),x] H Q E:=by
 obtain ⟨l,fs,lss,v,rfl,h2,h3,h4,h5,h6,h7⟩:=fb
 refine .inl ⟨rfl,k,n,rows,fs,lss,hc,ok,tb,.inl ⟨u,rfl,u1,u8⟩,h2,h3,h4,h5,fun nc=>absurd ((ClnM.sgn u1 u8).mpr cl) nc,fun u' e _ _ _ _=>?_⟩
 exact .inr ⟨v,h6,h7,fun H' s t=>⟨CL,0,"letter",rfl,.inr (.inl ⟨rfl,rfl,rfl⟩),fun p H'' s' hp=>q p H'' (s.trans s'.t) (t.mono s') hp⟩⟩
theorem ref_shaped_let:SeqAt.shaped (refD "letter")=true:=by decide +kernel
theorem ref_eq_let:PyData.eqv (refD "letter") (refD "letter")=true:=by decide +kernel
abbrev sLRef:Stmt:=top 42
def spLRef (P0:Addr):Sp:=fun vs H Q _=>match vs with
 | [cv,.str m,bv]=>∃ (k n:Nat) (rows:Om.Rows) (u:List Bool) (d:PyData),DV H cv (codeD k n rows)/\Om.CodeOk k n rows/\Tab P0 (lamPos lamTb) qTb H/\m=bs u/\1<=u.length/\u.length<=8/\¬ Om.Fac rows u/\¬ Om.BadP rows u/\(∀ X,DV X bv d)/\ltV k bv=false ∧
   ∀ H',SameT P0 H H'->Tab P0 (lamPos lamTb) qTb H'->Q (.bl true) H'
 | _=>False
theorem scLRef:FnScope ["code","mark","bad","frames","odd"] ["code","mark","bad"] (defScope sLRef):=⟨rfl,rfl,rfl,by decide +kernel,rfl,by decide +kernel,by decide +kernel⟩
local macro_rules | `(tactic| walk_at "T.e")=>`(tactic| first | ((with_reducible refine' e_clsX "framed" ?a0 ?a9);(case a0=>with_reducible assumption);(case a9=>rfl)) | ((with_reducible refine' e_clsX "apart" ?a0 ?a9);(case a0=>with_reducible assumption);(case a9=>rfl)) | (with_reducible exact e_dict))
theorem ok_lref {P0 CM CL CW F1 F2:Addr} (D:FnX K mg "_law_refused" sLRef ["code","mark","bad"]) (f1:mg "framed" = some (.ref F1)) (f2:mg "apart" = some (.ref F2)) (c2:Can P w K mg base "_law_told" 10 ["asked","code","mark","thing"] (spTold P0 CM CL CW F1 F2)):Can P w K mg base "_law_refused" 11 ["code","mark","bad"] (spLRef P0):=by
 refine can_fn (k:=10) D scLRef (fun vs H Q E h=>?_) (fun f cdv A outer s H vs Q E hr h=>?_)
 all_goals
  unfold spLRef at h
  split at h
 ·rfl
 ·exact h.elim
 ·rename_i cv m bv
  obtain ⟨k,n,rows,u,d,hc,ok,tb,rfl,u1,u8,nf,nb,hd,hb,q⟩:=h
  have nd:=scLRef.nd
  refine ⟨_,(by walk_at "T.top"),?_⟩
  refine ⟨le_line (Nat.le_of_ble_eq_true rfl),fun a1 na1=>?_⟩
  have sa1:=Same.upd (o:=.lst [.int 0]) na1
  have fa1:upd H a1 (.lst [.int 0]) a1=some (.lst [.int 0]):=upd_same
  have sT:Same H _:=sa1
  generalize upd H a1 (.lst [.int 0])=X0 at fa1 sT ⊢
  clear sa1 na1
  refine ⟨le_line (Nat.le_of_ble_eq_true rfl),fun a2 na2=>?_⟩
  have sa2:=Same.upd (o:=.lst [.int 0,bv]) na2
  have fa2:upd X0 a2 (.lst [.int 0,bv]) a2=some (.lst [.int 0,bv]):=upd_same
  have fa1:=sa2 _ _ fa1
  have sT:=sT.trans sa2
  generalize upd X0 a2 (.lst [.int 0,bv])=X1 at fa1 fa2 sT ⊢
  clear sa2 na2
  refine ⟨le_line (Nat.le_of_ble_eq_true rfl),fun a3 na3=>?_⟩
  have sa3:=Same.upd (o:=.lst [.ref a1,.ref a2]) na3
  have fa3:upd X1 a3 (.lst [.ref a1,.ref a2]) a3=some (.lst [.ref a1,.ref a2]):=upd_same
  have fa1:=sa3 _ _ fa1
  have fa2:=sa3 _ _ fa2
  have sT:=sT.trans sa3
  generalize upd X1 a3 (.lst [.ref a1,.ref a2])=X2 at fa1 fa2 fa3 sT ⊢
  clear sa3 na3
  refine ⟨le_line (Nat.le_of_ble_eq_true rfl),fun b1 nb1=>?_⟩
  have sb1:=Same.upd (o:=.lst [bv]) nb1
  have fb1:upd X2 b1 (.lst [bv]) b1=some (.lst [bv]):=upd_same
  have fa1:=sb1 _ _ fa1
  have fa2:=sb1 _ _ fa2
  have fa3:=sb1 _ _ fa3
  have sT:=sT.trans sb1
  generalize upd X2 b1 (.lst [bv])=X3 at fa1 fa2 fa3 fb1 sT ⊢
  clear sb1 nb1
  refine ⟨le_line (Nat.le_of_ble_eq_true rfl),fun b2 nb2=>?_⟩
  have sb2:=Same.upd (o:=.lst [.int 0]) nb2
  have fb2:upd X3 b2 (.lst [.int 0]) b2=some (.lst [.int 0]):=upd_same
  have fa1:=sb2 _ _ fa1
  have fa2:=sb2 _ _ fa2
  have fa3:=sb2 _ _ fa3
  have fb1:=sb2 _ _ fb1
  have sT:=sT.trans sb2
  generalize upd X3 b2 (.lst [.int 0])=X4 at fa1 fa2 fa3 fb1 fb2 sT ⊢
  clear sb2 nb2
  refine ⟨le_line (Nat.le_of_ble_eq_true rfl),fun b3 nb3=>?_⟩
  have sb3:=Same.upd (o:=.lst [.ref b1,.ref b2]) nb3
  have fb3:upd X4 b3 (.lst [.ref b1,.ref b2]) b3=some (.lst [.ref b1,.ref b2]):=upd_same
  have fa1:=sb3 _ _ fa1
  have fa2:=sb3 _ _ fa2
  have fa3:=sb3 _ _ fa3
  have fb1:=sb3 _ _ fb1
  have fb2:=sb3 _ _ fb2
  have sT:=sT.trans sb3
  generalize upd X4 b3 (.lst [.ref b1,.ref b2])=X5 at fa1 fa2 fa3 fb1 fb2 fb3 sT ⊢
  clear sb3 nb3
  refine ⟨le_line (Nat.le_of_ble_eq_true rfl),fun c1 nc1=>?_⟩
  have sc1:=Same.upd (o:=.lst [.int 0]) nc1
  have fc1:upd X5 c1 (.lst [.int 0]) c1=some (.lst [.int 0]):=upd_same
  have fa1:=sc1 _ _ fa1
  have fa2:=sc1 _ _ fa2
  have fa3:=sc1 _ _ fa3
  have fb1:=sc1 _ _ fb1
  have fb2:=sc1 _ _ fb2
  have fb3:=sc1 _ _ fb3
  have sT:=sT.trans sc1
  generalize upd X5 c1 (.lst [.int 0])=X6 at fa1 fa2 fa3 fb1 fb2 fb3 fc1 sT ⊢
  clear sc1 nc1
  refine ⟨le_line (Nat.le_of_ble_eq_true rfl),fun c2 nc2=>?_⟩
  have sc2:=Same.upd (o:=.lst [.int 0]) nc2
  have fc2:upd X6 c2 (.lst [.int 0]) c2=some (.lst [.int 0]):=upd_same
  have fa1:=sc2 _ _ fa1
  have fa2:=sc2 _ _ fa2
  have fa3:=sc2 _ _ fa3
  have fb1:=sc2 _ _ fb1
  have fb2:=sc2 _ _ fb2
  have fb3:=sc2 _ _ fb3
  have fc1:=sc2 _ _ fc1
  have sT:=sT.trans sc2
  generalize upd X6 c2 (.lst [.int 0])=X7 at fa1 fa2 fa3 fb1 fb2 fb3 fc1 fc2 sT ⊢
  clear sc2 nc2
  refine ⟨le_line (Nat.le_of_ble_eq_true rfl),fun c3 nc3=>?_⟩
  have sc3:=Same.upd (o:=.lst [bv,.int 0]) nc3
  have fc3:upd X7 c3 (.lst [bv,.int 0]) c3=some (.lst [bv,.int 0]):=upd_same
  have fa1:=sc3 _ _ fa1
  have fa2:=sc3 _ _ fa2
  have fa3:=sc3 _ _ fa3
  have fb1:=sc3 _ _ fb1
  have fb2:=sc3 _ _ fb2
  have fb3:=sc3 _ _ fb3
  have fc1:=sc3 _ _ fc1
  have fc2:=sc3 _ _ fc2
  have sT:=sT.trans sc3
  generalize upd X7 c3 (.lst [bv,.int 0])=X8 at fa1 fa2 fa3 fb1 fb2 fb3 fc1 fc2 fc3 sT ⊢
  clear sc3 nc3
  refine ⟨le_line (Nat.le_of_ble_eq_true rfl),fun c4 nc4=>?_⟩
  have sc4:=Same.upd (o:=.lst [.ref c1,.ref c2,.ref c3]) nc4
  have fc4:upd X8 c4 (.lst [.ref c1,.ref c2,.ref c3]) c4=some (.lst [.ref c1,.ref c2,.ref c3]):=upd_same
  have fa1:=sc4 _ _ fa1
  have fa2:=sc4 _ _ fa2
  have fa3:=sc4 _ _ fa3
  have fb1:=sc4 _ _ fb1
  have fb2:=sc4 _ _ fb2
  have fb3:=sc4 _ _ fb3
  have fc1:=sc4 _ _ fc1
  have fc2:=sc4 _ _ fc2
  have fc3:=sc4 _ _ fc3
  have sT:=sT.trans sc4
  generalize upd X8 c4 (.lst [.ref c1,.ref c2,.ref c3])=X9 at fa1 fa2 fa3 fb1 fb2 fb3 fc1 fc2 fc3 fc4 sT ⊢
  clear sc4 nc4
  refine ⟨le_line (Nat.le_of_ble_eq_true rfl),fun d1 nd1=>?_⟩
  have sd1:=Same.upd (o:=.lst [.int 0]) nd1
  have fd1:upd X9 d1 (.lst [.int 0]) d1=some (.lst [.int 0]):=upd_same
  have fa1:=sd1 _ _ fa1
  have fa2:=sd1 _ _ fa2
  have fa3:=sd1 _ _ fa3
  have fb1:=sd1 _ _ fb1
  have fb2:=sd1 _ _ fb2
  have fb3:=sd1 _ _ fb3
  have fc1:=sd1 _ _ fc1
  have fc2:=sd1 _ _ fc2
  have fc3:=sd1 _ _ fc3
  have fc4:=sd1 _ _ fc4
  have sT:=sT.trans sd1
  generalize upd X9 d1 (.lst [.int 0])=X10 at fa1 fa2 fa3 fb1 fb2 fb3 fc1 fc2 fc3 fc4 fd1 sT ⊢
  clear sd1 nd1
  refine ⟨le_line (Nat.le_of_ble_eq_true rfl),fun d2 nd2=>?_⟩
  have sd2:=Same.upd (o:=.lst [.ref d1,.non]) nd2
  have fd2:upd X10 d2 (.lst [.ref d1,.non]) d2=some (.lst [.ref d1,.non]):=upd_same
  have fa1:=sd2 _ _ fa1
  have fa2:=sd2 _ _ fa2
  have fa3:=sd2 _ _ fa3
  have fb1:=sd2 _ _ fb1
  have fb2:=sd2 _ _ fb2
  have fb3:=sd2 _ _ fb3
  have fc1:=sd2 _ _ fc1
  have fc2:=sd2 _ _ fc2
  have fc3:=sd2 _ _ fc3
  have fc4:=sd2 _ _ fc4
  have fd1:=sd2 _ _ fd1
  have sT:=sT.trans sd2
  generalize upd X10 d2 (.lst [.ref d1,.non])=X11 at fa1 fa2 fa3 fb1 fb2 fb3 fc1 fc2 fc3 fc4 fd1 fd2 sT ⊢
  clear sd2 nd2
  refine ⟨le_line (Nat.le_of_ble_eq_true rfl),fun e1 ne1=>?_⟩
  have se1:=Same.upd (o:=.tup [.int 0]) ne1
  have fe1:upd X11 e1 (.tup [.int 0]) e1=some (.tup [.int 0]):=upd_same
  have fa1:=se1 _ _ fa1
  have fa2:=se1 _ _ fa2
  have fa3:=se1 _ _ fa3
  have fb1:=se1 _ _ fb1
  have fb2:=se1 _ _ fb2
  have fb3:=se1 _ _ fb3
  have fc1:=se1 _ _ fc1
  have fc2:=se1 _ _ fc2
  have fc3:=se1 _ _ fc3
  have fc4:=se1 _ _ fc4
  have fd1:=se1 _ _ fd1
  have fd2:=se1 _ _ fd2
  have sT:=sT.trans se1
  generalize upd X11 e1 (.tup [.int 0])=X12 at fa1 fa2 fa3 fb1 fb2 fb3 fc1 fc2 fc3 fc4 fd1 fd2 fe1 sT ⊢
  clear se1 ne1
  refine ⟨le_line (Nat.le_of_ble_eq_true rfl),fun e2 ne2=>?_⟩
  have se2:=Same.upd (o:=.lst [.ref e1]) ne2
  have fe2:upd X12 e2 (.lst [.ref e1]) e2=some (.lst [.ref e1]):=upd_same
  have fa1:=se2 _ _ fa1
  have fa2:=se2 _ _ fa2
  have fa3:=se2 _ _ fa3
  have fb1:=se2 _ _ fb1
  have fb2:=se2 _ _ fb2
  have fb3:=se2 _ _ fb3
  have fc1:=se2 _ _ fc1
  have fc2:=se2 _ _ fc2
  have fc3:=se2 _ _ fc3
  have fc4:=se2 _ _ fc4
  have fd1:=se2 _ _ fd1
  have fd2:=se2 _ _ fd2
  have fe1:=se2 _ _ fe1
  have sT:=sT.trans se2
  generalize upd X12 e2 (.lst [.ref e1])=X13 at fa1 fa2 fa3 fb1 fb2 fb3 fc1 fc2 fc3 fc4 fd1 fd2 fe1 fe2 sT ⊢
  clear se2 ne2
  refine ⟨Nat.zero_le _,fun g1 ng1=>?_⟩
  have sg1:=Same.upd (o:=.lst []) ng1
  have fg1:upd X13 g1 (.lst []) g1=some (.lst []):=upd_same
  have fa1:=sg1 _ _ fa1
  have fa2:=sg1 _ _ fa2
  have fa3:=sg1 _ _ fa3
  have fb1:=sg1 _ _ fb1
  have fb2:=sg1 _ _ fb2
  have fb3:=sg1 _ _ fb3
  have fc1:=sg1 _ _ fc1
  have fc2:=sg1 _ _ fc2
  have fc3:=sg1 _ _ fc3
  have fc4:=sg1 _ _ fc4
  have fd1:=sg1 _ _ fd1
  have fd2:=sg1 _ _ fd2
  have fe1:=sg1 _ _ fe1
  have fe2:=sg1 _ _ fe2
  have sT:=sT.trans sg1
  generalize upd X13 g1 (.lst [])=X14 at fa1 fa2 fa3 fb1 fb2 fb3 fc1 fc2 fc3 fc4 fd1 fd2 fe1 fe2 fg1 sT ⊢
  clear sg1 ng1
  refine ⟨le_line (Nat.le_of_ble_eq_true rfl),fun g2 ng2=>?_⟩
  have sg2:=Same.upd (o:=.lst [.ref g1,.str ("0" : Str)]) ng2
  have fg2:upd X14 g2 (.lst [.ref g1,.str ("0" : Str)]) g2=some (.lst [.ref g1,.str ("0" : Str)]):=upd_same
  have fa1:=sg2 _ _ fa1
  have fa2:=sg2 _ _ fa2
  have fa3:=sg2 _ _ fa3
  have fb1:=sg2 _ _ fb1
  have fb2:=sg2 _ _ fb2
  have fb3:=sg2 _ _ fb3
  have fc1:=sg2 _ _ fc1
  have fc2:=sg2 _ _ fc2
  have fc3:=sg2 _ _ fc3
  have fc4:=sg2 _ _ fc4
  have fd1:=sg2 _ _ fd1
  have fd2:=sg2 _ _ fd2
  have fe1:=sg2 _ _ fe1
  have fe2:=sg2 _ _ fe2
  have fg1:=sg2 _ _ fg1
  have sT:=sT.trans sg2
  generalize upd X14 g2 (.lst [.ref g1,.str ("0" : Str)])=X15 at fa1 fa2 fa3 fb1 fb2 fb3 fc1 fc2 fc3 fc4 fd1 fd2 fe1 fe2 fg1 fg2 sT ⊢
  clear sg2 ng2
  refine fun h1 nh1=>?_
  have sh1:=Same.upd (o:=.dK []) nh1
  have fh1:upd X15 h1 (.dK []) h1=some (.dK []):=upd_same
  have fa1:=sh1 _ _ fa1
  have fa2:=sh1 _ _ fa2
  have fa3:=sh1 _ _ fa3
  have fb1:=sh1 _ _ fb1
  have fb2:=sh1 _ _ fb2
  have fb3:=sh1 _ _ fb3
  have fc1:=sh1 _ _ fc1
  have fc2:=sh1 _ _ fc2
  have fc3:=sh1 _ _ fc3
  have fc4:=sh1 _ _ fc4
  have fd1:=sh1 _ _ fd1
  have fd2:=sh1 _ _ fd2
  have fe1:=sh1 _ _ fe1
  have fe2:=sh1 _ _ fe2
  have fg1:=sh1 _ _ fg1
  have fg2:=sh1 _ _ fg2
  have sT:=sT.trans sh1
  generalize upd X15 h1 (.dK [])=X16 at fa1 fa2 fa3 fb1 fb2 fb3 fc1 fc2 fc3 fc4 fd1 fd2 fe1 fe2 fg1 fg2 fh1 sT ⊢
  clear sh1 nh1
  refine ⟨le_line (Nat.le_of_ble_eq_true rfl),fun h2 nh2=>?_⟩
  have sh2:=Same.upd (o:=.lst [.ref h1]) nh2
  have fh2:upd X16 h2 (.lst [.ref h1]) h2=some (.lst [.ref h1]):=upd_same
  have fa1:=sh2 _ _ fa1
  have fa2:=sh2 _ _ fa2
  have fa3:=sh2 _ _ fa3
  have fb1:=sh2 _ _ fb1
  have fb2:=sh2 _ _ fb2
  have fb3:=sh2 _ _ fb3
  have fc1:=sh2 _ _ fc1
  have fc2:=sh2 _ _ fc2
  have fc3:=sh2 _ _ fc3
  have fc4:=sh2 _ _ fc4
  have fd1:=sh2 _ _ fd1
  have fd2:=sh2 _ _ fd2
  have fe1:=sh2 _ _ fe1
  have fe2:=sh2 _ _ fe2
  have fg1:=sh2 _ _ fg1
  have fg2:=sh2 _ _ fg2
  have fh1:=sh2 _ _ fh1
  have sT:=sT.trans sh2
  generalize upd X16 h2 (.lst [.ref h1])=X17 at fa1 fa2 fa3 fb1 fb2 fb3 fc1 fc2 fc3 fc4 fd1 fd2 fe1 fe2 fg1 fg2 fh1 fh2 sT ⊢
  clear sh2 nh2
  refine ⟨le_line (Nat.le_of_ble_eq_true rfl),fun i1 ni1=>?_⟩
  have si1:=Same.upd (o:=.lst [.int 0]) ni1
  have fi1:upd X17 i1 (.lst [.int 0]) i1=some (.lst [.int 0]):=upd_same
  have fa1:=si1 _ _ fa1
  have fa2:=si1 _ _ fa2
  have fa3:=si1 _ _ fa3
  have fb1:=si1 _ _ fb1
  have fb2:=si1 _ _ fb2
  have fb3:=si1 _ _ fb3
  have fc1:=si1 _ _ fc1
  have fc2:=si1 _ _ fc2
  have fc3:=si1 _ _ fc3
  have fc4:=si1 _ _ fc4
  have fd1:=si1 _ _ fd1
  have fd2:=si1 _ _ fd2
  have fe1:=si1 _ _ fe1
  have fe2:=si1 _ _ fe2
  have fg1:=si1 _ _ fg1
  have fg2:=si1 _ _ fg2
  have fh1:=si1 _ _ fh1
  have fh2:=si1 _ _ fh2
  have sT:=sT.trans si1
  generalize upd X17 i1 (.lst [.int 0])=X18 at fa1 fa2 fa3 fb1 fb2 fb3 fc1 fc2 fc3 fc4 fd1 fd2 fe1 fe2 fg1 fg2 fh1 fh2 fi1 sT ⊢
  clear si1 ni1
  refine ⟨le_line (Nat.le_of_ble_eq_true rfl),fun z1 nz1=>?_⟩
  have sz1:=Same.upd (o:=.lst [.ref a3,.ref b3,.ref c4,.ref d2,.ref e2,.ref g2,.ref h2,.ref i1]) nz1
  have fz1:upd X18 z1 (.lst [.ref a3,.ref b3,.ref c4,.ref d2,.ref e2,.ref g2,.ref h2,.ref i1]) z1=some (.lst [.ref a3,.ref b3,.ref c4,.ref d2,.ref e2,.ref g2,.ref h2,.ref i1]):=upd_same
  have fa1:=sz1 _ _ fa1
  have fa2:=sz1 _ _ fa2
  have fa3:=sz1 _ _ fa3
  have fb1:=sz1 _ _ fb1
  have fb2:=sz1 _ _ fb2
  have fb3:=sz1 _ _ fb3
  have fc1:=sz1 _ _ fc1
  have fc2:=sz1 _ _ fc2
  have fc3:=sz1 _ _ fc3
  have fc4:=sz1 _ _ fc4
  have fd1:=sz1 _ _ fd1
  have fd2:=sz1 _ _ fd2
  have fe1:=sz1 _ _ fe1
  have fe2:=sz1 _ _ fe2
  have fg1:=sz1 _ _ fg1
  have fg2:=sz1 _ _ fg2
  have fh1:=sz1 _ _ fh1
  have fh2:=sz1 _ _ fh2
  have fi1:=sz1 _ _ fi1
  have sT:=sT.trans sz1
  generalize upd X18 z1 (.lst [.ref a3,.ref b3,.ref c4,.ref d2,.ref e2,.ref g2,.ref h2,.ref i1])=X19 at fa1 fa2 fa3 fb1 fb2 fb3 fc1 fc2 fc3 fc4 fd1 fd2 fe1 fe2 fg1 fg2 fh1 fh2 fi1 fz1 sT ⊢
  clear sz1 nz1
  have tf:=tb.mono sT
  have cf:=hc.mono sT
  have sf:=sT.t (P:=P0)
  have B1:∀ {l:Addr} {xs:List V} {ds:List PyData},X19 l=some (.lst xs)->DVs X19 xs ds->xs.length<=100->xs.all (ltV k)=false->FrB k X19 (.ref l):=fun h1 h2 h3 h4=>.inr ⟨_,_,_,rfl,h1,h2,h3,h4⟩
  have all:∀ x∈[V.ref a3,.ref b3,.ref c4,.ref d2,.ref e2,.ref g2,.ref h2,.ref i1],FrmB k X19 x:=by
   intro x hx
   simp only [List.mem_cons,List.not_mem_nil,or_false] at hx
   rcases hx with rfl | rfl | rfl | rfl | rfl | rfl | rfl | rfl
   ·refine ⟨_,_,[[0]],.ref a2,rfl,fa3,by simp,by simp,fun j ls e=>?_,rfl,B1 fa2 (.cons (.int 0) (.cons (hd _) .nil)) (by simp) (by simp [hb])⟩
    match j,e with
    | 0,e=>cases e;exact ⟨_,rfl,fr0 fa1⟩
   ·exact ⟨_,_,[],.ref b1,rfl,fb3,by simp,by simp,fun j ls e=>by simp at e,rfl,B1 fb1 (.cons (hd _) .nil) (by simp) (by simp [hb])⟩
   ·refine ⟨_,_,[[0],[0]],.ref c3,rfl,fc4,by simp,by simp,fun j ls e=>?_,rfl,B1 fc3 (.cons (hd _) (.cons (.int 0) .nil)) (by simp) (by simp [hb])⟩
    match j,e with
    | 0,e=>cases e;exact ⟨_,rfl,fr0 fc1⟩
    | 1,e=>cases e;exact ⟨_,rfl,fr0 fc2⟩
   ·refine ⟨_,_,[[0]],.non,rfl,fd2,by simp,by simp,fun j ls e=>?_,rfl,.inl ⟨_,rfl,by decide⟩⟩
    match j,e with
    | 0,e=>cases e;exact ⟨_,rfl,fr0 fd1⟩
   ·refine ⟨_,_,[],.ref e1,rfl,fe2,by simp,by simp,fun j ls e=>by simp at e,rfl,.inl ⟨"tuple",?_,by decide⟩⟩
    show (match X19 e1 with | some (.lst _)=>some "list" | some (.tup _)=>some "tuple" | some (.dK _)=>some "dict" | _=>none)=some "tuple"
    rw [fe1]
   ·refine ⟨_,_,[[]],.str "0",rfl,fg2,by simp,by simp,fun j ls e=>?_,rfl,.inl ⟨_,rfl,by decide⟩⟩
    match j,e with
    | 0,e=>cases e;exact ⟨_,rfl,frN fg1⟩
   ·refine ⟨_,_,[],.ref h1,rfl,fh2,by simp,by simp,fun j ls e=>by simp at e,rfl,.inl ⟨"dict",?_,by decide⟩⟩
    show (match X19 h1 with | some (.lst _)=>some "list" | some (.tup _)=>some "tuple" | some (.dK _)=>some "dict" | _=>none)=some "dict"
    rw [fh1]
   ·exact ⟨_,_,[],.int 0,rfl,fi1,by simp,by simp,fun j ls e=>by simp at e,rfl,.inl ⟨_,rfl,by decide⟩⟩
  clear B1 fa1 fa2 fa3 fb1 fb2 fb3 fc1 fc2 fc3 fc4 fd1 fd2 fe1 fe2 fg1 fg2 fh1 fh2 fi1
  refine ⟨⟨_,SqL.of fz1⟩,for_by (it_list _ z1 _) (fun i σ Hx=>(∃ v3 v4,σ=[some cv,some (.str (bs u)),some bv,v3,v4])/\SameT P0 X19 Hx/\Tab P0 (lamPos lamTb) qTb Hx)
   ⟨⟨none,none,rfl⟩,SameT.refl _ _,tf⟩ (fun i σ Hx _ ⟨_,sx,_⟩=>SqL.of (lst_T fz1 tf sx)) ?_ ?_⟩
  ·rintro i x σ Hx hi hx ⟨⟨v3,v4,rfl⟩,sx,tx⟩
   have fx:=(all x (List.mem_of_getElem? hx)).monoT tf sx
   refine told_lett (E:=E0) (cf.monoT tf sx) ok tx u1 u8 ⟨nf,nb⟩ fx fun p Hy sy ty hp=>?_
   refine ⟨le_line (Nat.le_of_ble_eq_true rfl),fun r hr=>?_⟩
   have sr:=Same.upd (o:=.tup [.str ("refused" : Str),.str ("letter" : Str)]) hr
   refine ⟨refD "letter",refD "letter",refD_DV (sr _ _ hp),refD_DV upd_same,ref_shaped_let,ref_shaped_let,?_⟩
   rw [ref_eq_let]
   exact ⟨⟨_,_,rfl⟩,(sx.trans sy).trans sr.t,ty.mono sr⟩
  ·rintro σ Hx ⟨⟨v3,v4,rfl⟩,sx,tx⟩
   have cx:=cf.monoT tf sx
   have sfx:=sf.trans sx
   clear all cf sx fz1
   obtain ⟨a0,b0,ss0,rfl,ha0,hb0,hss0⟩:=code_inv cx
   have rp:=ok.s1
   obtain ⟨q0,rs0,e01,e02,e03⟩:=state_at hss0 (s:=0) (st:=rows[0]) (List.getElem?_eq_getElem ok.s1)
   have p1:0 < rows[0].length:=by rw [ok.len _ (List.getElem_mem ok.s1)];exact Nat.two_pow_pos k
   obtain ⟨r0,r1,r2⟩:=row_at e03 (l:=0) (r:=rows[0][0]) (List.getElem?_eq_getElem p1)
   have rl:=ok.row _ (List.getElem_mem ok.s1) _ (List.getElem_mem p1)
   have fw:Om.Fac rows rows[0][0].1:=Om.fac_word ok (by rw [List.getD_eq_getElem?_getD,List.getElem?_eq_getElem ok.s1];exact List.getElem_mem p1)
   have n1:=ok.n1
   have n6:=ok.n6
   refine ⟨_,gt ha0 (by decide) rfl,.ref q0,gl hb0 (by decide) (by simpa using e01),.ref r0,gl e02 (by decide) (by simpa using r1),.str (bs rows[0][0].1),gt r2 (by decide) rfl,?_⟩
   generalize rows[0][0].1=wd at rl fw ⊢
   have wl:wd.length=n:=rl.1
   clear rl
   have notM:∀ x∈[V.str "",.str "9",.non,.str (bs wd)],(∀ X:Hp,MkOk X x)/\¬ ClnM rows x:=by
    intro x hx
    simp only [List.mem_cons,List.not_mem_nil,or_false] at hx
    rcases hx with rfl | rfl | rfl | rfl
    ·refine ⟨fun X=>.inr (.inr ⟨_,rfl,by decide +kernel,.inl (by decide +kernel)⟩),fun ⟨u,e,b1,_⟩=>?_⟩
     have e:=congrArg Str.length (V.str.inj e)
     rw [bs_len,show (("" : Str)).length=0 by decide +kernel] at e
     omega
    ·refine ⟨fun X=>.inr (.inr ⟨_,rfl,by decide +kernel,.inr (.inr (by decide +kernel))⟩),fun ⟨u,e,b1,_⟩=>?_⟩
     have e:=V.str.inj e
     have:=strip_bs u
     rw [<-e] at this
     exact absurd this (by decide +kernel)
    ·exact ⟨fun X=>.inr (.inl ⟨_,rfl,by decide⟩),fun ⟨u,e,_⟩=>by cases e⟩
    ·exact ⟨fun X=>.inl ⟨wd,rfl,by omega,by omega⟩,fun ⟨u,e,_,_,g,_⟩=>by cases bs_inj (V.str.inj e);exact g fw⟩
   refine ⟨le_line (Nat.le_of_ble_eq_true rfl),fun o1 no1=>?_⟩
   have so:=Same.upd (o:=.lst [V.str "",.str "9",.non,.str (bs wd)]) no1
   have fo:upd Hx o1 (.lst [V.str "",.str "9",.non,.str (bs wd)]) o1=some (.lst [V.str "",.str "9",.non,.str (bs wd)]):=upd_same
   have tg:=tx.mono so
   have cg:=cx.mono so
   have sg:=sfx.trans so.t
   generalize upd Hx o1 (.lst [V.str "",.str "9",.non,.str (bs wd)])=Hg at fo tg cg sg ⊢
   refine ⟨⟨_,SqL.of fo⟩,for_by (it_list _ o1 _) (fun i σ Hx=>(∃ v3 v4,σ=[some (.ref a0),some (.str (bs u)),some bv,v3,v4])/\SameT P0 Hg Hx/\Tab P0 (lamPos lamTb) qTb Hx)
    ⟨⟨_,_,rfl⟩,SameT.refl _ _,tg⟩ (fun i σ Hx _ ⟨_,sx,_⟩=>SqL.of (lst_T fo tg sx)) ?_ ?_⟩
   ·rintro i x σ Hy hi hx ⟨⟨v3',v4',rfl⟩,sy,ty⟩
    obtain ⟨mk,nc⟩:=notM x (List.mem_of_getElem? hx)
    have cy:=cg.monoT tg sy
    refine ⟨le_line (Nat.le_of_ble_eq_true rfl),fun j1 nj1=>?_⟩
    refine ⟨le_line (Nat.le_of_ble_eq_true rfl),fun j2 nj2=>?_⟩
    refine ⟨Nat.zero_le _,fun j3 nj3=>?_⟩
    refine ⟨le_line (Nat.le_of_ble_eq_true rfl),fun j4 nj4=>?_⟩
    have k1:=Same.upd (o:=.lst [bv]) nj1
    have k2:=Same.upd (o:=.lst [.ref j1]) nj2
    have k3:=Same.upd (o:=.lst []) nj3
    have k4:=Same.upd (o:=.lst [.ref j2,.ref j3]) nj4
    have e2:=(k3.trans k4) j2 _ upd_same
    have e3:=k4 j3 _ upd_same
    have ks:=((k1.trans k2).trans k3).trans k4
    have e4:upd (upd (upd (upd Hy j1 (.lst [bv])) j2 (.lst [.ref j1])) j3 (.lst [])) j4 (.lst [.ref j2,.ref j3]) j4=some (.lst [.ref j2,.ref j3]):=upd_same
    generalize upd (upd (upd (upd Hy j1 (.lst [bv])) j2 (.lst [.ref j1])) j3 (.lst [])) j4 (.lst [.ref j2,.ref j3])=Hj at e2 e3 e4 ks ⊢
    clear k1 k2 k3 k4
    have tj:=ty.mono ks
    have cj:=cy.mono ks
    have sj:=sy.trans ks.t
    refine ⟨⟨_,SqL.of e4⟩,for_by (it_list _ j4 [.ref j2,.ref j3]) (fun i σ Hx=>(∃ v3,σ=[some (.ref a0),some (.str (bs u)),some bv,v3,some x])/\SameT P0 Hj Hx/\Tab P0 (lamPos lamTb) qTb Hx)
     ⟨⟨_,rfl⟩,SameT.refl _ _,tj⟩ (fun i σ Hx _ ⟨_,sx,_⟩=>SqL.of (lst_T e4 tj sx)) ?_ ?_⟩
    ·rintro i y σ Hz hi hy ⟨⟨v3,rfl⟩,sz,tz⟩
     have ey:∃ l fs,y = .ref l/\Hz l=some (.lst fs)/\fs.length<=40:=by
      match i,hi,hy with
      | 0,_,hy=>cases hy;exact ⟨_,_,rfl,lst_T e2 tj sz,by simp⟩
      | 1,_,hy=>cases hy;exact ⟨_,_,rfl,lst_T e3 tj sz,by simp⟩
     obtain ⟨l,fs,rfl,hl,f40⟩:=ey
     refine told_markF (E:=E0) (cj.monoT tj sz) ok tz (mk _) nc hl f40 fun p Hw sw tw hp=>?_
     refine ⟨le_line (Nat.le_of_ble_eq_true rfl),fun r hr=>?_⟩
     have sr:=Same.upd (o:=.tup [.str ("refused" : Str),.str ("mark" : Str)]) hr
     refine ⟨refD "mark",refD "mark",refD_DV (sr _ _ hp),refD_DV upd_same,ref_shaped_mark,ref_shaped_mark,?_⟩
     rw [ref_eq_mark]
     exact ⟨⟨_,rfl⟩,(sz.trans sw).trans sr.t,tw.mono sr⟩
    ·rintro σ Hz ⟨⟨v3,rfl⟩,sz,tz⟩
     refine told_markA (E:=E0) (cj.monoT tj sz) ok tz (mk _) nc fun p Hw sw tw hp=>?_
     refine ⟨le_line (Nat.le_of_ble_eq_true rfl),fun r hr=>?_⟩
     have sr:=Same.upd (o:=.tup [.str ("refused" : Str),.str ("mark" : Str)]) hr
     refine ⟨refD "mark",refD "mark",refD_DV (sr _ _ hp),refD_DV upd_same,ref_shaped_mark,ref_shaped_mark,?_⟩
     rw [ref_eq_mark]
     exact ⟨⟨_,_,rfl⟩,((sj.trans sz).trans sw).trans sr.t,tw.mono sr⟩
   ·rintro σ Hy ⟨⟨v3',v4',rfl⟩,sy,ty⟩
    exact q _ (sg.trans sy) ty
 ·exact h.elim
end
end K41
end
section
namespace K41
open PySem L2
section
variable {P:Program} {w:World} {K:PySem.W.Frag} {mg:Str->Option Value} {base:Heap}
theorem canY_at {x:Str} {k:Nat} {ps:List Str} {sp:Sp} (C:CanY P w K mg base x k ps sp):∃ f,mg x=some (.ref f):=let ⟨f,_,_,h,_⟩:=C;⟨f,h⟩
def wrs (rows:Om.Rows) (lss:List (List Nat)):List (List Bool):=lss.map fun ls=>(Om.send rows 0 ls).1
theorem due_flat (rows:Om.Rows) (u:List Bool) (lss:List (List Nat)):dueT rows u lss=u++((wrs rows lss).map fun w=>w++u).flatten:=by
 unfold dueT wrs
 rw [List.map_map]
 rfl
theorem due_ap {k n:Nat} {rows:Om.Rows} (ok:Om.CodeOk k n rows) {u:List Bool} (u1:1<=u.length) (nf:¬ Om.Fac rows u) (nb:¬ Om.BadP rows u) {lss:List (List Nat)} (h:∀ ls∈lss,∀ l∈ls,l < 2 ^ k):ApOk u (dueT rows u lss) (wrs rows lss):=by
 unfold ApOk
 rw [due_flat,Om.cutM_hit u1,Om.cutM_due u1]
 intro v hv
 obtain ⟨ls,hls,rfl⟩:=List.mem_map.mp hv
 exact Om.clean_wire u1 nf nb (Om.wr_send ok ls 0 ok.s1 (h ls hls))
theorem due_count {k n:Nat} {rows:Om.Rows} (ok:Om.CodeOk k n rows) {u:List Bool} (u1:1<=u.length) (nf:¬ Om.Fac rows u) (nb:¬ Om.BadP rows u) {lss:List (List Nat)} (h:∀ ls∈lss,∀ l∈ls,l < 2 ^ k):Txt.count (bs (dueT rows u lss)) (bs u)=(lss.length:Int)+1:=by
 have e:=count_bs (w:=dueT rows u lss) u1
 have a:Om.cutM u (dueT rows u lss)=_:=due_ap ok u1 nf nb h
 rw [a] at e
 unfold wrs at e
 simp only [List.length_cons,List.length_append,List.length_map,List.length_nil] at e
 omega
theorem ApOk.one {u z:List Bool} {a b:List (List Bool)} (h:ApOk u z a) (k:ApOk u z b):a=b:=by
 unfold ApOk at h k
 rw [h] at k
 injection k with _ k
 exact List.append_cancel_right k
theorem due_nil (rows:Om.Rows) (u:List Bool):dueT rows u []=u:=by unfold dueT;simp
theorem mark_ap {u:List Bool} (u1:1<=u.length):ApOk u u []:=by
 unfold ApOk
 have:=Om.cutM_hit u1 []
 rw [List.append_nil] at this
 rw [this]
 rfl
theorem told_due {P0 CM CL CW F1 F2:Addr} {cv:V} {l:Addr} {u:List Bool} {H:Hp} {Q:VK} {E:XK} {k n:Nat} {rows:Om.Rows} {fs:List V} {lss:List (List Nat)} (hc:DV H cv (codeD k n rows)) (ok:Om.CodeOk k n rows) (tb:Tab P0 (lamPos lamTb) qTb H) (u1:1<=u.length) (u8:u.length<=8) (cl:¬ Om.Fac rows u/\¬ Om.BadP rows u) (hl:H l=some (.lst fs)) (f40:fs.length<=40) (le:lss.length=fs.length)
  (hg:∀ (j:Nat) ls,lss[j]? = some ls->∃ v,fs[j]? = some v/\FrG k H v ls) (q:∀ H',SameT P0 H H'->Tab P0 (lamPos lamTb) qTb H'->Q (.str (bs (dueT rows u lss))) H'):spTold P0 CM CL CW F1 F2 [.ref F1,cv,.str (bs u),.ref l] H Q E:=by
 refine .inl ⟨rfl,k,n,rows,fs,lss,hc,ok,tb,.inl ⟨u,rfl,u1,u8⟩,hl,f40,Nat.le_of_eq le,hg,fun nc=>absurd ((ClnM.sgn u1 u8).mpr cl) nc,fun u' e _ _ _ _=>?_⟩
 cases bs_inj (V.str.inj e)
 exact .inl ⟨le,q⟩
theorem told_apart {P0 CM CL CW F1 F2:Addr} {cv:V} {u z:List Bool} {H:Hp} {Q:VK} {E:XK} {k n:Nat} {rows:Om.Rows} (hc:DV H cv (codeD k n rows)) (ok:Om.CodeOk k n rows) (tb:Tab P0 (lamPos lamTb) qTb H) (u1:1<=u.length) (u8:u.length<=8) (cl:¬ Om.Fac rows u/\¬ Om.BadP rows u) (z6:z.length<=60000)
  (qe:(¬ ∃ ws,ApOk u z ws)->∀ p H',SameT P0 H H'->Tab P0 (lamPos lamTb) qTb H'->H' p=some (.tup [.str ("refused" : Str),.str ("wire" : Str)])->Q (.ref p) H')
  (q:∀ ws l H',ApOk u z ws->SameT P0 H H'->Tab P0 (lamPos lamTb) qTb H'->H l=none->H' l=some (.lst (ws.map fun w=>V.str (bs w)))->Q (.ref l) H'):spTold P0 CM CL CW F1 F2 [.ref F2,cv,.str (bs u),.str (bs z)] H Q E:=by
 refine .inr ⟨rfl,k,n,rows,hc,ok,tb,.inl ⟨u,rfl,u1,u8⟩,fun nc=>absurd ((ClnM.sgn u1 u8).mpr cl) nc,fun u' e _ _ _ _=>?_⟩
 cases bs_inj (V.str.inj e)
 refine .inr ⟨z,rfl,z6,fun nw d H' s t hd=>⟨CW,7,"wire",rfl,.inr (.inr ⟨rfl,rfl,rfl,d,rfl,upd_same⟩),fun p H'' s' hp=>?_⟩,q⟩
 have s2:=(Same.upd (o:=.xd [("at",.int 0)]) hd).trans s'
 exact qe nw p H'' (s.trans s2.t) (t.mono s2) hp
theorem told_odd {P0 CM CL CW F1 F2:Addr} {cv x:V} {u:List Bool} {H:Hp} {Q:VK} {E:XK} {k n:Nat} {rows:Om.Rows} {Tx:String} (hc:DV H cv (codeD k n rows)) (ok:Om.CodeOk k n rows) (tb:Tab P0 (lamPos lamTb) qTb H) (u1:1<=u.length) (u8:u.length<=8) (cl:¬ Om.Fac rows u/\¬ Om.BadP rows u) (hx:tyN H x=some Tx) (ns:Tx≠"str")
  (qe:∀ p H',SameT P0 H H'->Tab P0 (lamPos lamTb) qTb H'->H' p=some (.tup [.str ("refused" : Str),.str ("wire" : Str)])->Q (.ref p) H'):spTold P0 CM CL CW F1 F2 [.ref F2,cv,.str (bs u),x] H Q E:=by
 refine .inr ⟨rfl,k,n,rows,hc,ok,tb,.inl ⟨u,rfl,u1,u8⟩,fun nc=>absurd ((ClnM.sgn u1 u8).mpr cl) nc,fun u' e _ _ _ _=>?_⟩
 refine .inl ⟨Tx,hx,ns,fun d H' s t hd=>⟨CW,7,"wire",rfl,.inr (.inr ⟨rfl,rfl,rfl,d,rfl,upd_same⟩),fun p H'' s' hp=>?_⟩⟩
 have s2:=(Same.upd (o:=.xd [("at",.int 0)]) hd).trans s'
 exact qe p H'' (s.trans s2.t) (t.mono s2) hp
theorem ref_shaped_wire:SeqAt.shaped (refD "wire")=true:=by decide +kernel
theorem ref_eq_wire:PyData.eqv (refD "wire") (refD "wire")=true:=by decide +kernel
theorem eqv_ws (ws:List (List Bool)):PyData.eqv (.list (ws.map fun w=>PyData.str (bs w))) (.list (ws.map fun w=>PyData.str (bs w)))=true:=SeqAt.eqv_refl _ (SeqAt.canLay_of_shaped (ws_shaped ws))
end
end K41
end
section
namespace K41
open PySem L2
section
def FrA (k:Nat) (L:Addr) (H:Hp) (fs:List V) (lss:List (List Nat)):Prop:=fs.length=lss.length/\∀ (j:Nat) ls,lss[j]? = some ls->∃ t,fs[j]? = some (.ref t)/\t≠L/\H t=some (.lst ((ni ls).map V.int))/\ls.length<=100/\∀ l∈ls,l < 2 ^ k
theorem FrA.nil {k:Nat} {L:Addr} {H:Hp}:FrA k L H [] []:=⟨rfl,fun j ls e=>by simp at e⟩
theorem FrA.mono {k:Nat} {L:Addr} {H H':Hp} {fs:List V} {lss:List (List Nat)} (h:FrA k L H fs lss) (s:Same H H'):FrA k L H' fs lss:=⟨h.1,fun j ls e=>let ⟨t,a,b,c,d⟩:=h.2 j ls e;⟨t,a,b,s _ _ c,d⟩⟩
theorem FrA.upd {k:Nat} {L:Addr} {H:Hp} {fs:List V} {lss:List (List Nat)} {o:HO} (h:FrA k L H fs lss):FrA k L (upd H L o) fs lss:=⟨h.1,fun j ls e=>let ⟨t,a,b,c,d⟩:=h.2 j ls e;⟨t,a,b,by rw [upd_ne b];exact c,d⟩⟩
theorem FrA.snoc {k:Nat} {L t:Addr} {H:Hp} {fs:List V} {lss:List (List Nat)} {ls:List Nat} (h:FrA k L H fs lss) (n:t≠L) (ht:H t=some (.lst ((ni ls).map V.int))) (l1:ls.length<=100) (lb:∀ l∈ls,l < 2 ^ k):FrA k L H (fs++[.ref t]) (lss++[ls]):=by
 refine ⟨by rw [List.length_append,List.length_append,h.1];rfl,fun j ms e=>?_⟩
 by_cases z:j < lss.length
 ·rw [List.getElem?_append_left z] at e
  obtain ⟨t',a,r⟩:=h.2 j ms e
  exact ⟨t',by rw [List.getElem?_append_left (by rw [h.1];exact z)];exact a,r⟩
 ·have jl:j < (lss++[ls]).length:=(List.getElem?_eq_some_iff.mp e).1
  have:j=lss.length:=by rw [List.length_append] at jl;simp at jl;omega
  subst this
  rw [List.getElem?_append_right (Nat.le_refl _),Nat.sub_self] at e
  cases e
  exact ⟨t,by rw [<-h.1,List.getElem?_append_right (Nat.le_refl _),Nat.sub_self];rfl,n,ht,l1,lb⟩
def Frs (k:Nat) (H:Hp) (l:Addr) (lss:List (List Nat)):Prop:=∃ fs:List V,H l=some (.lst fs)/\fs.length=lss.length/\∀ (j:Nat) ls,lss[j]? = some ls->∃ v,fs[j]? = some v/\FrG k H v ls
theorem FrA.frs {k:Nat} {L:Addr} {H:Hp} {fs:List V} {lss:List (List Nat)} (h:FrA k L H fs lss) (hL:H L=some (.lst fs)):Frs k H L lss:=⟨fs,hL,h.1,fun j ls e=>let ⟨t,a,b,c,d⟩:=h.2 j ls e;⟨_,a,t,rfl,c,d⟩⟩
theorem Frs.mono {k:Nat} {l:Addr} {H H':Hp} {lss:List (List Nat)} (h:Frs k H l lss) (s:Same H H'):Frs k H' l lss:=let ⟨fs,a,b,c⟩:=h;⟨fs,s _ _ a,b,fun j ls e=>let ⟨v,x,y⟩:=c j ls e;⟨v,x,y.mono s⟩⟩
theorem Frs.wo1 {k:Nat} {l P0:Addr} {H:Hp} {lss:List (List Nat)} {ps:Array Value} (h:Frs k H l lss) (hP:H P0=some (.tbl ps)):Frs k (wo1 P0 H) l lss:=let ⟨fs,a,b,c⟩:=h;⟨fs,wo1.at a (ne_of a hP (fun z=>nomatch z)),b,fun j ls e=>let ⟨v,x,t,y1,y2,y3⟩:=c j ls e;⟨v,x,t,y1,wo1.at y2 (ne_of y2 hP (fun z=>nomatch z)),y3⟩⟩
def frD (lss:List (List Nat)):PyData:=.list (lss.map fun ls=>.list ((ni ls).map PyData.int))
theorem Frs.dv {k:Nat} {l:Addr} {H:Hp} {lss:List (List Nat)} (h:Frs k H l lss):DV H (.ref l) (frD lss):=by
 obtain ⟨fs,a,b,c⟩:=h
 refine .lst a (DVs.ofGet (by rw [b,List.length_map]) fun i v d h1 h2=>?_)
 rw [List.getElem?_map] at h2
 obtain ⟨ls,e,rfl⟩:=Option.map_eq_some_iff.mp h2
 obtain ⟨v',e1,t,rfl,e3,_⟩:=c i ls e
 rw [h1] at e1
 cases e1
 exact ints_DV e3
theorem frD_shaped (lss:List (List Nat)):SeqAt.shaped (frD lss)=true:=shaped_list (k:=1) (fun d hd=>by
 obtain ⟨ls,_,rfl⟩:=List.mem_map.mp hd
 exact ints_lay _) (fun d hd=>by
 obtain ⟨ls,_,rfl⟩:=List.mem_map.mp hd
 rw [PyData.depth]
 have:=depth_all (k:=0) (ds:=(ni ls).map PyData.int) fun d hd=>by
  obtain ⟨n,_,rfl⟩:=List.mem_map.mp hd
  exact Nat.le_refl _
 omega) (by decide)
theorem frD_eq (lss:List (List Nat)):PyData.eqv (frD lss) (frD lss)=true:=SeqAt.eqv_refl _ (SeqAt.canLay_of_shaped (frD_shaped lss))
theorem bs_sum (ws:List (List Bool)):((ws.map bs).map (·.length)).sum=ws.flatten.length:=by
 rw [List.length_flatten,List.map_map]
 congr 1
 refine List.map_congr_left fun x _=>?_
 exact bs_len x
end
end K41
end
section
namespace K41
open PySem L2
section
variable {P:Program} {w:World} {K:PySem.W.Frag} {mg:Str->Option Value} {base:Heap}
theorem seq_nx {t u:TS} {D:Ends} {σ:St} {H:Hp} (M:St->Hp->Prop) (h1:∀ σ' H',M σ' H'->u D σ' H') (h2:∀ nx:St->Hp->Prop,(∀ σ' H',M σ' H'->nx σ' H')->t { D with nx:=nx } σ H):tSeq t u D σ H:=h2 (u D) h1
abbrev sLaw:Stmt:=top 43
def spLaw (P0:Addr) (K:PySem.W.Frag):Sp:=fun vs H Q _=>match vs with
 | [.ref a]=>∃ ns:List Int,SqL K H a (ns.map V.int)/\ns.length<=63/\Tab P0 (lamPos lamTb) qTb H/\∀ H',Q (.bl true) H'
 | _=>False
theorem scLaw:FnScope ["script","code","handed","mark","many","rounds","k","cell","frames","j","long","wires","due","given","wire","odd"] ["script"] (defScope sLaw):=⟨rfl,rfl,rfl,by decide +kernel,rfl,by decide +kernel,by decide +kernel⟩
local macro_rules | `(tactic| walk_at "T.c")=>`(tactic| (have ndc:(["i","cell","many","j"]:List Str).Nodup:=(by decide +kernel));((with_reducible refine' c_comp ["i","cell","many","j"] [7,4,9] ?b1 ?b2 (fun cl C s H fp=>?b3) (fun cl C s H fp=>?b4) (fun cl C s H fp=>?b5));(case b1=>exact ndc);(case b2=>walk_at "T.i");(case b3=>walk_at "T.g");(case b4=>walk_at "T.pf");(case b5=>walk_at "T.e")))
local macro_rules | `(tactic| walk_at "T.sc")=>`(tactic| (have ndc:(["text","code"]:List Str).Nodup:=(by decide +kernel));((with_reducible refine' s_comp "wires" 11 ["text","code"] [1] ?b1 ?b0 ?b2 (fun cl C s H fp=>?b3) (fun cl C s H fp=>?b4) (fun cl C s H fp=>?b5));(case b1=>exact ndc);(case b0=>assumption);(case b2=>walk_at "T.i");(case b3=>walk_at "T.g");(case b4=>walk_at "T.pf");(case b5=>walk_at "T.e")))
local macro_rules | `(tactic| walk_at "T.c")=>`(tactic| (have ndc:(["wire","mark"]:List Str).Nodup:=(by decide +kernel));((with_reducible refine' c_comp ["wire","mark"] [3] ?b1 ?b2 (fun cl C s H fp=>?b3) (fun cl C s H fp=>?b4) (fun cl C s H fp=>?b5));(case b1=>exact ndc);(case b2=>walk_at "T.i");(case b3=>walk_at "T.g");(case b4=>walk_at "T.pf");(case b5=>walk_at "T.e")))
local macro_rules | `(tactic| walk_at "T.sc")=>`(tactic| (have ndc:(["text"]:List Str).Nodup:=(by decide +kernel));((with_reducible refine' s_comp "given" 13 ["text"] [] ?b1 ?b0 ?b2 (fun cl C s H fp=>?b3) (fun cl C s H fp=>?b4) (fun cl C s H fp=>?b5));(case b1=>exact ndc);(case b0=>assumption);(case b2=>walk_at "T.i");(case b3=>walk_at "T.g");(case b4=>walk_at "T.pf");(case b5=>walk_at "T.e")))
local macro_rules | `(tactic| walk_at "T.e")=>`(tactic| first | ((with_reducible refine' e_clsX "framed" ?a0 ?a9);(case a0=>with_reducible assumption);(case a9=>rfl)) | ((with_reducible refine' e_clsX "apart" ?a0 ?a9);(case a0=>with_reducible assumption);(case a9=>rfl)))
local macro_rules | `(tactic| walk_at "T.b")=>`(tactic| ((with_reducible refine' fn_lenS ?a0 ?a9 ?a1);(case a0=>with_reducible assumption);(case a9=>rfl);(case a1=>((with_reducible refine' a_cons ?c1 ?c2);(case c1=>with_reducible exact vn "script" 0);(case c2=>with_reducible exact pa_nil)))))
theorem ok_law {f:Addr} {fd:FuncData} {P0 CM CL CW F1 F2:Addr} (D:Fun K "law" "law" sLaw f fd) (g1:mg "range" = none) (g2:mg "len" = none) (g3:mg "int" = none) (g4:mg "max" = none) (g5:mg "min" = none) (g6:mg "list" = none) (f1:mg "framed" = some (.ref F1)) (f2:mg "apart" = some (.ref F2))
  (c1:Can P w K mg base "_law_code" 2 ["script"] (spLCode K)) (c2:Can P w K mg base "_law_copy" 1 ["code"] spCopyF) (c3:Can P w K mg base "_law_cell" 1 ["script","k"] (spCell K)) (c4:Can P w K mg base "_law_mark" 8 ["code","cell","clean"] (spLMark P0)) (c5:Can P w K mg base "_law_not_clean" 11 ["code","cell"] (spNClean P0))
  (c6:Can P w K mg base "_law_told" 10 ["asked","code","mark","thing"] (spTold P0 CM CL CW F1 F2)) (c7:Can P w K mg base "_law_wire" 1 ["code","text"] spLWire) (c8:Can P w K mg base "_law_parts" 1 ["mark","wire"] spLParts) (c9:Can P w K mg base "_law_spoilt" 1 ["wire","cell"] spSpoilt) (c10:Can P w K mg base "_law_refused" 11 ["code","mark","bad"] (spLRef P0)):FnOk P w K mg base CX0 12 f fd ["script"] (spLaw P0 K):=by
 refine D.ok (k:=11) scLaw (fun vs H Q E h=>?_) (fun cdv A outer s H vs Q E hr h=>?_)
 all_goals
  unfold spLaw at h
  split at h
 ·rfl
 ·exact h.elim
 ·rename_i a
  obtain ⟨ns,hS,h63,tb,q⟩:=h
  have nd:=scLaw.nd
  refine ⟨_,(by walk_at "T.top"),?_⟩
  refine ⟨ns,hS,fun cv k n rows H1 s1 d1 ok=>?_⟩
  refine ⟨k,n,rows,d1,ok.s8,fun ah bh qs H2 s2 na C2=>?_⟩
  have tb2:Tab P0 (lamPos lamTb) qTb H2:=(tb.mono s1).mono s2
  obtain ⟨ps0,hP⟩:=tb2.tbl
  have G0:Same (wo1 P0 H2) H2:=wo1.same (SameT.refl _ _)
  have GP:wo1 P0 H2 P0=none:=by unfold wo1;rw [if_pos rfl]
  have dvc:=(d1.mono s2).wo1 hP
  have dvh:=C2.dv.wo1 hP
  have hSG:=((s1.trans s2).seq hS).wo1 hP
  generalize wo1 P0 H2=G at G0 GP dvc dvh hSG
  obtain ⟨a0,b0,ss0,rfl,ha0,hb0,hss0⟩:=code_inv dvc
  have rp:=ok.s1
  have r8:=ok.s8
  obtain ⟨q0,rs0,e01,e02,e03⟩:=state_at hss0 (s:=0) (st:=rows[0]) (List.getElem?_eq_getElem rp)
  have keep:∀ {X Y:Hp},Same G X->SameT P0 X Y->Same G Y:=fun {X Y} s1 s2 b o e=>s2 _ _ (fun z=>by rw [z,GP] at e;cases e) (s1 _ _ e)
  have p1:0 < rows[0].length:=by rw [ok.len _ (List.getElem_mem rp)];exact Nat.two_pow_pos k
  obtain ⟨r0,r1,r2⟩:=row_at e03 (l:=0) (r:=rows[0][0]) (List.getElem?_eq_getElem p1)
  have rl:=(ok.row _ (List.getElem_mem rp) _ (List.getElem_mem p1)).1
  have fw:Om.Fac rows rows[0][0].1:=Om.fac_word ok (by rw [List.getD_eq_getElem?_getD,List.getElem?_eq_getElem rp];exact List.getElem_mem p1)
  have n1:=ok.n1
  have n6:=ok.n6
  dsimp only [gName]
  refine ⟨ns,G0.seq hSG,by omega,by omega,fun c19=>?_⟩
  refine ⟨k,n,rows,dvh.mono G0,ok,tb2,fun H3 s3 t3=>?_,fun u H3 u1 u8 ub s3 t3=>?_⟩
  ·have G3:=keep G0 s3
   refine ⟨ns,G3.seq hSG,by omega,by omega,fun c18=>?_⟩
   refine ⟨k,n,rows,dvh.mono G3,ok,t3,fun H4 s4 t4=>?_⟩
   have G4:=keep G3 s4
   refine ⟨_,gt (G4 _ _ ha0) (by decide) rfl,.ref q0,gl (G4 _ _ hb0) (by decide) (by simpa using e01),.ref r0,gl (G4 _ _ e02) (by decide) (by simpa using r1),.str (bs rows[0][0].1),gt (G4 _ _ r2) (by decide) rfl,?_⟩
   refine ⟨Nat.zero_le _,fun l nl=>?_⟩
   have sl:=Same.upd (o:=.lst []) nl
   refine told_markF (E:=E0) (dvh.mono (G4.trans sl)) ok (t4.mono sl) (.inl ⟨_,rfl,by omega,by omega⟩) (fun ⟨u,e,_,_,g,_⟩=>by cases bs_inj (V.str.inj e);exact g fw) upd_same (by simp) fun p Hy sy ty hp=>?_
   refine ⟨le_line (Nat.le_of_ble_eq_true rfl),fun r hr=>?_⟩
   have sr:=Same.upd (o:=.tup [.str ("refused" : Str),.str ("mark" : Str)]) hr
   refine ⟨refD "mark",refD "mark",refD_DV (sr _ _ hp),refD_DV upd_same,ref_shaped_mark,ref_shaped_mark,?_⟩
   rw [ref_eq_mark]
   exact q _
  have cl:=ub.mp rfl
  clear ub
  have G3:=keep G0 s3
  refine ⟨ns,G3.seq hSG,by omega,by omega,fun c18=>?_⟩
  refine ⟨k,n,rows,dvh.mono G3,ok,t3,fun H4 s4 t4=>?_⟩
  have G4:=keep G3 s4
  have rsl:rs0.length=2 ^ k:=by rw [e03.length,List.length_map];exact ok.len _ (List.getElem_mem rp)
  have sl0:ss0.length=rows.length:=by rw [hss0.length,List.length_map]
  refine ⟨_,gt (G4 _ _ ha0) (by decide) rfl,.ref q0,gl (G4 _ _ hb0) (by decide) (by simpa using e01),_,lenL (G4 _ _ e02),?_⟩
  rw [rsl]
  dsimp only [gName]
  refine ⟨le_line (Nat.le_of_ble_eq_true rfl),fun p0 hp0=>?_⟩
  have s5:Same H4 (upd H4 p0 (.lst [.int 6,.int 1])):=Same.upd hp0
  have G5:=G4.trans s5
  have t5:=t4.mono s5
  have pick:∀ c:Bool,∃ m:Nat,1<=m/\m<=6/\getV (upd H4 p0 (.lst [.int 6,.int 1])) (.ref p0) (if c=true then 1 else 0)=some (.int (m:Nat)):=fun c=>by
   cases c
   ·exact ⟨6,by decide,by decide,gl upd_same (by decide) rfl⟩
   ·exact ⟨1,by decide,by decide,gl upd_same (by decide) rfl⟩
  have pr:0<=((n:Nat):Int) * (ss0.length:Int)/\((n:Nat):Int) * (ss0.length:Int)<=48:=by
   have h1:n * ss0.length<=6 * 8:=Nat.mul_le_mul n6 (by omega)
   rw [<-Int.natCast_mul]
   omega
  refine ⟨_,gt (G5 _ _ ha0) (by decide) rfl,_,gt (G5 _ _ ha0) (by decide) rfl,_,lenL (G5 _ _ hb0),.inl ⟨by omega,by omega⟩,.inl ⟨by omega,by omega⟩,?_⟩
  obtain ⟨m,m1,m6,em⟩:=pick (decide ((60:Int) < ((n:Nat):Int) * (ss0.length:Int) * ((2 ^ k:Nat):Int)))
  refine ⟨_,em,?_⟩
  generalize upd H4 p0 (.lst [.int 6,.int 1])=H5 at G5 t5
  dsimp only [gName]
  clear em pick hp0 s5 s4 t4 G4 s3 t3 G3 H4 hss0 e03 r0 r1 r2 rl fw
  have bd:∀ L:Int,21<=20+(if (if (m:Int) < L - 20 then (m:Int) else L - 20) > 1 then (if (m:Int) < L - 20 then (m:Int) else L - 20) else 1)/\20+(if (if (m:Int) < L - 20 then (m:Int) else L - 20) > 1 then (if (m:Int) < L - 20 then (m:Int) else L - 20) else 1)<=26:=fun L=>by
   by_cases z1:(m:Int) < L - 20
   ·rw [if_pos z1]
    by_cases z2:(m:Int) > 1
    ·rw [if_pos z2];omega
    ·rw [if_neg z2];omega
   ·rw [if_neg z1]
    by_cases z2:L - 20 > 1
    ·rw [if_pos z2];omega
    ·rw [if_neg z2];omega
  have p8:2 ^ k<=8:=by
   have:=ok.k1
   have:=ok.k3
   have:k=1\/k=2\/k=3:=by omega
   rcases this with rfl | rfl | rfl<;>decide
  have pk:0 < 2 ^ k:=Nat.two_pow_pos k
  refine seq_nx (fun σ H7=>∃ v6 v7 v8 v9 v10 v11 v12 v13 v14 v15:Option V,σ=[some (.ref a),some (.ref a0),some (.ref ah),some (.str (bs u)),some (.int ((2 ^ k:Nat):Int)),some (.int (m:Nat)),v6,v7,v8,v9,v10,v11,v12,v13,v14,v15]/\Same G H7/\Tab P0 (lamPos lamTb) qTb H7) ?_ (fun nx fin=>?_)
  rotate_left
  ·refine ⟨_,G5.seq hSG,?_⟩
   rw [List.length_map]
   have bd:=bd (ns.length:Int)
   refine ⟨⟨by decide,by decide,Int.le_trans (by decide) bd.1,Int.lt_of_le_of_lt bd.2 (by decide)⟩,?_⟩
   generalize (20+(if (if (m:Int) < (ns.length:Int) - 20 then (m:Int) else (ns.length:Int) - 20) > 1 then (if (m:Int) < (ns.length:Int) - 20 then (m:Int) else (ns.length:Int) - 20) else 1))=top at bd ⊢
   refine for_by (it_range 20 _) (fun i σ H7=>∃ v6 v7 v8 v9 v10 v11 v12 v13 v14 v15:Option V,σ=[some (.ref a),some (.ref a0),some (.ref ah),some (.str (bs u)),some (.int ((2 ^ k:Nat):Int)),some (.int (m:Nat)),v6,v7,v8,v9,v10,v11,v12,v13,v14,v15]/\Same G H7/\Tab P0 (lamPos lamTb) qTb H7)
    ⟨none,none,none,none,none,none,none,none,none,none,rfl,G5,t5⟩ (fun _ _ _ _ _=>trivial) ?_ fin
   clear G5 t5 H5 fin
   rintro i x σ H7 hi hx ⟨v6,v7,v8,v9,v10,v11,v12,v13,v14,v15,rfl,G7,t7⟩
   rw [List.length_map,List.length_range] at hi
   have ex:x=V.int (20+(i:Nat)):=by
    rw [List.getElem?_map,List.getElem?_range hi] at hx
    exact (Option.some.inj hx).symm
   subst ex
   refine ⟨ns,G7.seq hSG,by omega,by omega,fun c=>?_⟩
   dsimp only [gName]
   refine ⟨Nat.zero_le _,fun L hL=>?_⟩
   have GL:G L=none:=G7.free hL
   have ownL:∀ {X:Hp} {o:HO},Same G X->Same G (upd X L o):=fun s b o e=>by rw [upd_ne (ne_of_none e GL)];exact s _ _ e
   have s8:=Same.upd (o:=.lst []) hL
   have hL8:upd H7 L (.lst []) L=some (.lst []):=upd_same
   have G8:=G7.trans s8
   have t8:=t7.mono s8
   generalize upd H7 L (.lst [])=H8 at hL8 G8 t8 ⊢
   clear s8 hL G7 t7
   dsimp only [gName]
   refine seq_nx (fun σ H9=>∃ (lss:List (List Nat)) (v9 v10:Option V),σ=[some (.ref a),some (.ref a0),some (.ref ah),some (.str (bs u)),some (.int ((2 ^ k:Nat):Int)),some (.int (m:Nat)),some (.int (20+(i:Nat))),some (.int c),some (.ref L),v9,v10,v11,v12,v13,v14,v15]/\Same G H9/\Tab P0 (lamPos lamTb) qTb H9/\lss.length<=20/\Frs k H9 L lss) ?_ (fun nx fin=>?_)
   rotate_left
   ·refine ⟨(by decide:(0:Int) < 6),⟨by decide,by decide⟩,(by decide:(0:Int) < 8),.inl ⟨by decide,by decide⟩,?_⟩
    have m0:=Int.emod_nonneg c (show (6:Int)≠0 by decide)
    have m1:=Int.emod_lt_of_pos c (show (0:Int) < 6 by decide)
    have bN:0<=c % 6+15 * (if decide (c / 3 % 8=1)=true then 1 else 0)/\c % 6+15 * (if decide (c / 3 % 8=1)=true then 1 else 0)<=20:=by split<;>omega
    refine ⟨Int.le_trans (by decide) bN.1,Int.lt_of_le_of_lt bN.2 (by decide),?_⟩
    generalize c % 6+15 * (if decide (c / 3 % 8=1)=true then 1 else 0)=N at bN ⊢
    refine for_by (it_range 0 _) (fun i' σ H9=>∃ (lss:List (List Nat)) (fs:List V) (v9 v10:Option V),σ=[some (.ref a),some (.ref a0),some (.ref ah),some (.str (bs u)),some (.int ((2 ^ k:Nat):Int)),some (.int (m:Nat)),some (.int (20+(i:Nat))),some (.int c),some (.ref L),v9,v10,v11,v12,v13,v14,v15]/\Same G H9/\Tab P0 (lamPos lamTb) qTb H9/\lss.length=i'/\FrA k L H9 fs lss/\H9 L=some (.lst fs))
     ⟨[],[],v9,v10,rfl,G8,t8,rfl,FrA.nil,hL8⟩ (fun _ _ _ _ _=>trivial) ?_ ?_
    ·clear G8 t8 hL8 fin
     rintro j x σ H9 hj hx ⟨lss,fs,v9,v10,rfl,G9,t9,ll,fa,hL9⟩
     rw [List.length_map,List.length_range] at hj
     have ex:x=V.int (j:Nat):=by
      rw [List.getElem?_map,List.getElem?_range hj] at hx
      have:=(Option.some.inj hx).symm
      rw [this];simp
     subst ex
     have hj20:j < 20:=by omega
     refine seq_nx (fun σ Hx=>∃ lg:Int,σ=[some (.ref a),some (.ref a0),some (.ref ah),some (.str (bs u)),some (.int ((2 ^ k:Nat):Int)),some (.int (m:Nat)),some (.int (20+(i:Nat))),some (.int c),some (.ref L),some (.int (j:Nat)),some (.int lg),v11,v12,v13,v14,v15]/\H9=Hx/\0<=lg/\lg<=66) ?_ (fun nx fin=>?_)
     rotate_left
     ·refine ⟨⟨by omega,by omega⟩,(by decide:(0:Int) < 7),⟨by decide,by decide⟩,(by decide:(0:Int) < 8),.inl ⟨by decide,by decide⟩,?_⟩
      have l0:=Int.emod_nonneg (c / (11+(j:Int))) (show (7:Int)≠0 by decide)
      have l1:=Int.emod_lt_of_pos (c / (11+(j:Int))) (show (0:Int) < 7 by decide)
      have bL:0<=c / (11+(j:Int)) % 7+60 * (if decide (c / 5 % 8=(j:Int))=true then 1 else 0)/\c / (11+(j:Int)) % 7+60 * (if decide (c / 5 % 8=(j:Int))=true then 1 else 0)<=66:=by split<;>omega
      exact fin _ _ ⟨_,rfl,rfl,bL.1,bL.2⟩
     rintro σ Hx ⟨lg,rfl,rfl,bL⟩
     refine ⟨⟨_,rfl,hL9⟩,Int.le_trans (by decide) bL.1,Int.lt_of_le_of_lt bL.2 (by decide),fun T hT=>?_⟩
     have ownT:∀ {X:Hp} {o:HO},Same H9 X->Same H9 (upd X T o):=fun s b o e=>by rw [upd_ne (ne_of_none e hT)];exact s _ _ e
     refine comp_by (it_range 0 _) (fun i' τ H10 ys=>(∃ v,τ=[v,some (.int c),some (.int ((2 ^ k:Nat):Int)),some (.int (j:Nat))])/\Same H9 H10/\H10 T=some (.lst ys)/\∃ ls:List Nat,ys=(ni ls).map V.int/\ls.length=i'/\∀ l∈ls,l < 2 ^ k) (by rw [List.length_map,List.length_range];exact le_line (by omega))
      ⟨⟨none,rfl⟩,Same.upd hT,upd_same,[],rfl,rfl,by simp⟩ ?_ ?_ ?_
     ·rintro i' τ H10 ys hi' ⟨_,_,h10,ls,rfl,ll,_⟩
      refine ⟨trivial,h10,?_⟩
      unfold ni
      simp
      omega
     ·rintro i' x τ H10 ys hi' hx ⟨⟨v,rfl⟩,s10,h10,ls,rfl,ll,lb⟩
      rw [List.length_map,List.length_range] at hi'
      have ex:x=V.int (i':Nat):=by
       rw [List.getElem?_map,List.getElem?_range hi'] at hx
       have:=(Option.some.inj hx).symm
       rw [this];simp
      subst ex
      have r0:=Int.emod_nonneg (c / (6+5 * (j:Int)+3 * (i':Int))) (show (((2 ^ k:Nat):Int))≠0 by omega)
      have r1:=Int.emod_lt_of_pos (c / (6+5 * (j:Int)+3 * (i':Int))) (show (0:Int) < ((2 ^ k:Nat):Int) by omega)
      refine ⟨.inl ⟨by decide,by decide⟩,.inl ⟨by decide,by decide⟩,⟨by omega,by omega⟩,by omega,h10,⟨_,rfl⟩,ownT s10,upd_same,ls++[(c / (6+5 * (j:Int)+3 * (i':Int)) % ((2 ^ k:Nat):Int)).toNat],?_,by rw [List.length_append,ll];rfl,fun l hl=>?_⟩
      ·unfold ni
       rw [List.map_append,List.map_append]
       congr 1
       have:(((c / (6+5 * (j:Int)+3 * (i':Int)) % ((2 ^ k:Nat):Int)).toNat:Nat):Int)=c / (6+5 * (j:Int)+3 * (i':Int)) % ((2 ^ k:Nat):Int):=by omega
       rw [List.map_cons,List.map_cons,this]
       rfl
      ·rcases List.mem_append.mp hl with hl | hl
       ·exact lb l hl
       ·rw [List.mem_singleton.mp hl];omega
     ·rintro τ H10 ys ⟨_,s10,h10,ls,rfl,ll',lb⟩
      rw [List.length_map,List.length_range] at ll'
      have hL10:=s10 _ _ hL9
      have nT:T≠L:=fun z=>by rw [z,hL9] at hT;cases hT
      refine ⟨_,hL10,lt_line (by rw [fa.1];omega),?_⟩
      refine ⟨lss++[ls],fs++[.ref T],_,_,rfl,ownL (G9.trans s10),(t9.mono s10).upd hL10,by rw [List.length_append,ll];rfl,((fa.mono s10).snoc nT h10 (by omega) lb).upd,upd_same⟩
    ·rintro σ H9 ⟨lss,fs,v9,v10,rfl,G9,t9,ll,fa,hL9⟩
     rw [List.length_map,List.length_range] at ll
     exact fin _ _ ⟨lss,v9,v10,rfl,G9,t9,by omega,fa.frs hL9⟩
   clear G8 t8 hL8
   rintro σ H9 ⟨lss,v9,v10,rfl,G9,t9,l20,fr9⟩
   obtain ⟨fs,hL9,fl,fg⟩:=fr9
   have hls:∀ ls∈lss,ls.length<=100/\∀ l∈ls,l < 2 ^ k:=fun ls h=>by
    obtain ⟨j,hj⟩:=List.mem_iff_getElem?.mp h
    obtain ⟨v,_,t,_,_,z⟩:=fg j ls hj
    exact z
   have hls2:∀ ls∈lss,∀ l∈ls,l < 2 ^ k:=fun ls h=>(hls ls h).2
   refine seq_nx (fun σ Hx=>∃ W:Addr,σ=[some (.ref a),some (.ref a0),some (.ref ah),some (.str (bs u)),some (.int ((2 ^ k:Nat):Int)),some (.int (m:Nat)),some (.int (20+(i:Nat))),some (.int c),some (.ref L),v9,v10,some (.ref W),v12,v13,v14,v15]/\Same H9 Hx/\Hx W=some (.lst ((wrs rows lss).map fun w=>V.str (bs w)))) ?_ (fun nx fin=>?_)
   rotate_left
   ·refine ⟨⟨_,SqL.of hL9⟩,fun W hW=>?_⟩
    have ownW:∀ {X:Hp} {o:HO},Same H9 X->Same H9 (upd X W o):=fun s b o e=>by rw [upd_ne (ne_of_none e hW)];exact s _ _ e
    refine comp_by (it_list _ L fs) (fun i' τ Hx ys=>(∃ v,τ=[v,some (.ref a0)])/\Same H9 Hx/\Hx W=some (.lst ys)/\ys=((wrs rows (lss.take i')).map fun w=>V.str (bs w))) (le_line (by omega)) ⟨⟨none,rfl⟩,Same.upd hW,upd_same,rfl⟩ ?_ ?_ ?_
    ·rintro i' τ Hx ys hi' ⟨_,sx,hx,rfl⟩
     exact ⟨SqL.of (sx _ _ hL9),hx,by unfold wrs;simp;omega⟩
    ·rintro i' x τ Hx ys hi' hx ⟨⟨v,rfl⟩,sx,hw,rfl⟩
     have il:i' < lss.length:=by omega
     obtain ⟨v',e1,t,rfl,e2,e3,e4⟩:=fg i' _ (List.getElem?_eq_getElem il)
     rw [hx] at e1
     cases e1
     refine ⟨k,n,rows,_,dvc.mono (G9.trans sx),ok,sx _ _ e2,e3,e4,hw,⟨_,rfl⟩,ownW sx,upd_same,?_⟩
     unfold wrs
     rw [List.take_add_one,List.getElem?_eq_getElem il,List.map_append,List.map_append]
     rfl
    ·rintro τ Hx ys ⟨_,sx,hw,rfl⟩
     rw [fl,List.take_length] at hw
     exact fin _ _ ⟨W,rfl,sx,hw⟩
   rintro σ H10 ⟨W,rfl,s10,hW10⟩
   have dl:=due_len ok u8 hls
   refine seq_nx (fun σ Hx=>σ=[some (.ref a),some (.ref a0),some (.ref ah),some (.str (bs u)),some (.int ((2 ^ k:Nat):Int)),some (.int (m:Nat)),some (.int (20+(i:Nat))),some (.int c),some (.ref L),v9,v10,some (.ref W),some (.str (bs (dueT rows u lss))),v13,v14,v15]/\Same H10 Hx) ?_ (fun nx fin=>?_)
   rotate_left
   ·refine ⟨rfl,⟨_,SqL.of hW10⟩,fun J hJ=>?_⟩
    have ownJ:∀ {X:Hp} {o:HO},Same H10 X->Same H10 (upd X J o):=fun s b o e=>by rw [upd_ne (ne_of_none e hJ)];exact s _ _ e
    have wl:(wrs rows lss).length=lss.length:=by unfold wrs;rw [List.length_map]
    have w600:∀ w∈wrs rows lss,w.length<=600:=fun w hw=>by
     unfold wrs at hw
     obtain ⟨ls,h,rfl⟩:=List.mem_map.mp hw
     rw [(Om.send_ok ok ls 0 ok.s1 (hls ls h).2).1]
     have h1:=(hls ls h).1
     calc n * ls.length<=6 * 100:=Nat.mul_le_mul n6 h1
      _<=600:=by decide
    refine comp_by (it_list _ W ((wrs rows lss).map fun w=>V.str (bs w))) (fun i' τ Hx ys=>(∃ v,τ=[v,some (.str (bs u))])/\Same H10 Hx/\Hx J=some (.lst ys)/\ys=((((wrs rows lss).take i').map fun w=>w++u).map bs).map V.str) (by rw [List.length_map];exact le_line (by omega)) ⟨⟨none,rfl⟩,Same.upd hJ,upd_same,rfl⟩ ?_ ?_ ?_
    ·rintro i' τ Hx ys hi' ⟨_,sx,hx,rfl⟩
     exact ⟨SqL.of (sx _ _ hW10),hx,by simp;omega⟩
    ·rintro i' x τ Hx ys hi' hx ⟨⟨v,rfl⟩,sx,hw,rfl⟩
     rw [List.length_map] at hi'
     rw [List.getElem?_map,List.getElem?_eq_getElem hi'] at hx
     cases hx
     have:=w600 _ (List.getElem_mem hi')
     refine ⟨by rw [bs_len,bs_len,sizeLine_eq];omega,hw,⟨_,rfl⟩,ownJ sx,upd_same,?_⟩
     rw [List.take_add_one,List.getElem?_eq_getElem hi',bs_app,List.map_append,List.map_append,List.map_append]
     rfl
    ·rintro τ Hx ys ⟨_,sx,hw,rfl⟩
     rw [List.length_map,List.take_length] at hw
     have fl2:((wrs rows lss).map fun w=>w++u).flatten.length+u.length=(dueT rows u lss).length:=by rw [due_flat,List.length_append];omega
     refine ⟨_,hw,?_,?_⟩
     ·rw [bs_sum,show (("" : Str)).length=0 by decide +kernel,Nat.mul_zero]
      omega
     rw [bs_join]
     refine ⟨by rw [bs_len,bs_len,sizeLine_eq];omega,?_⟩
     rw [bs_app,<-due_flat]
     exact fin _ _ ⟨rfl,sx⟩
   rintro σ H11 ⟨rfl,s11⟩
   have s911:=s10.trans s11
   have hL11:=s911 _ _ hL9
   refine seq_nx (fun σ Hx=>∃ B:Addr,σ=[some (.ref a),some (.ref a0),some (.ref ah),some (.str (bs u)),some (.int ((2 ^ k:Nat):Int)),some (.int (m:Nat)),some (.int (20+(i:Nat))),some (.int c),some (.ref L),v9,v10,some (.ref W),some (.str (bs (dueT rows u lss))),some (.ref B),v14,v15]/\Same H11 Hx/\Frs k Hx B lss) ?_ (fun nx fin=>?_)
   rotate_left
   ·refine ⟨⟨_,SqL.of hL11⟩,fun B hB=>?_⟩
    have ownB:∀ {X:Hp} {o:HO},Same H11 X->Same H11 (upd X B o):=fun s b o e=>by rw [upd_ne (ne_of_none e hB)];exact s _ _ e
    refine comp_by (it_list _ L fs) (fun i' τ Hx ys=>(∃ v,τ=[v])/\Same H11 Hx/\Hx B=some (.lst ys)/\FrA k B Hx ys (lss.take i')) (le_line (by omega)) ⟨⟨none,rfl⟩,Same.upd hB,upd_same,FrA.nil⟩ ?_ ?_ ?_
    ·rintro i' τ Hx ys hi' ⟨_,sx,hx,fa⟩
     exact ⟨SqL.of (sx _ _ hL11),hx,by rw [fa.1,List.length_take];omega⟩
    ·rintro i' x τ Hx ys hi' hx ⟨⟨v,rfl⟩,sx,hw,fa⟩
     have il:i' < lss.length:=by omega
     obtain ⟨v',e1,t,rfl,e2,e3,e4⟩:=fg i' _ (List.getElem?_eq_getElem il)
     rw [hx] at e1
     cases e1
     refine ⟨_,.inl ((s911.trans sx) _ _ e2),fun l hl=>?_⟩
     have sl:=Same.upd (o:=.lst ((ni lss[i']).map V.int)) hl
     have nl:l≠B:=fun z=>by rw [z,hw] at hl;cases hl
     refine ⟨sl _ _ hw,⟨_,rfl⟩,ownB (sx.trans sl),upd_same,?_⟩
     rw [List.take_add_one,List.getElem?_eq_getElem il]
     exact ((fa.mono sl).snoc nl upd_same e3 e4).upd
    ·rintro τ Hx ys ⟨_,sx,hw,fa⟩
     rw [fl,List.take_length] at fa
     exact fin _ _ ⟨B,rfl,sx,fa.frs hw⟩
   rintro σ H12 ⟨B,rfl,s12,frB0⟩
   have s912:=s911.trans s12
   have t12:=t9.mono s912
   have G12:=G9.trans s912
   obtain ⟨ps1,hP1⟩:=t12.tbl
   have frL:=(Frs.wo1 (⟨fs,s912 _ _ hL9,fl,fun j ls e=>let ⟨v,x,y⟩:=fg j ls e;⟨v,x,y.mono s912⟩⟩ : Frs k H12 L lss) hP1)
   have frB:=frB0.wo1 hP1
   clear frB0
   have hW12:wo1 P0 H12 W=some (.lst ((wrs rows lss).map fun w=>V.str (bs w))):=wo1.at ((s11.trans s12) _ _ hW10) (ne_of ((s11.trans s12) _ _ hW10) hP1 (fun z=>nomatch z))
   have G1s:Same (wo1 P0 H12) H12:=wo1.same (SameT.refl _ _)
   have G1P:wo1 P0 H12 P0=none:=by unfold wo1;rw [if_pos rfl]
   have GG1:Same G (wo1 P0 H12):=fun b o e=>wo1.at (G12 _ _ e) (fun z=>by rw [z,GP] at e;cases e)
   generalize wo1 P0 H12=G1 at frL frB hW12 G1s G1P GG1
   have keep1:∀ {X Y:Hp},Same G1 X->SameT P0 X Y->Same G1 Y:=fun {X Y} s1 s2 b o e=>s2 _ _ (fun z=>by rw [z,G1P] at e;cases e) (s1 _ _ e)
   have dvh1:=dvh.mono GG1
   clear s912 s911 s12 hP1 G12 hL11 hW10 s11 s10 hL9 fg G9 t9 H9 H10 H11 fl fs
   refine seq_nx (fun σ Hx=>σ=[some (.ref a),some (.ref a0),some (.ref ah),some (.str (bs u)),some (.int ((2 ^ k:Nat):Int)),some (.int (m:Nat)),some (.int (20+(i:Nat))),some (.int c),some (.ref L),v9,v10,some (.ref W),some (.str (bs (dueT rows u lss))),some (.ref B),v14,v15]/\Same G1 Hx/\Tab P0 (lamPos lamTb) qTb Hx) ?_ (fun nx fin=>?_)
   rotate_left
   ·obtain ⟨fs,e1,e2,e3⟩:=frB.mono G1s
    refine told_due (E:=E0) (dvh1.mono G1s) ok t12 u1 u8 cl e1 (by omega) e2.symm e3 fun H' s' t'=>?_
    have g':=keep1 G1s s'
    refine iteQ (by simp) ?_
    refine ⟨_,_,(frB.mono g').dv,(frL.mono g').dv,frD_shaped _,frD_shaped _,?_⟩
    rw [frD_eq]
    exact fin _ _ ⟨rfl,g',t'⟩
   clear t12 G1s H12
   rintro σ H12 ⟨rfl,G1s,t12⟩
   refine seq_nx (fun σ Hx=>σ=[some (.ref a),some (.ref a0),some (.ref ah),some (.str (bs u)),some (.int ((2 ^ k:Nat):Int)),some (.int (m:Nat)),some (.int (20+(i:Nat))),some (.int c),some (.ref L),v9,v10,some (.ref W),some (.str (bs (dueT rows u lss))),some (.ref B),v14,v15]/\Same G1 Hx/\Tab P0 (lamPos lamTb) qTb Hx) ?_ (fun nx fin=>?_)
   rotate_left
   ·obtain ⟨fs,e1,e2,e3⟩:=frL.mono G1s
    have ap:=due_ap ok u1 cl.1 cl.2 hls2
    refine ⟨rfl,_,lenL e1,?_⟩
    refine iteQ (by rw [due_count ok u1 cl.1 cl.2 hls2,e2];simp) ?_
    refine told_apart (E:=E0) (dvh1.mono G1s) ok t12 u1 u8 cl (by omega) (fun nw=>absurd ⟨_,ap⟩ nw) fun ws l H' ap' s' t' nl hl=>?_
    cases ApOk.one ap ap'
    have g':=keep1 G1s s'
    refine ⟨_,_,.lst hl (dvsB _),.lst (g' _ _ hW12) (dvsB _),ws_shaped _,ws_shaped _,?_⟩
    rw [eqv_ws]
    exact fin _ _ ⟨rfl,g',t'⟩
   clear t12 G1s H12
   rintro σ H12 ⟨rfl,G1s,t12⟩
   refine seq_nx (fun σ Hx=>σ=[some (.ref a),some (.ref a0),some (.ref ah),some (.str (bs u)),some (.int ((2 ^ k:Nat):Int)),some (.int (m:Nat)),some (.int (20+(i:Nat))),some (.int c),some (.ref L),v9,v10,some (.ref W),some (.str (bs (dueT rows u lss))),some (.ref B),v14,v15]/\Same G1 Hx/\Tab P0 (lamPos lamTb) qTb Hx) ?_ (fun nx fin=>?_)
   rotate_left
   ·refine ⟨Nat.zero_le _,fun l0 hl0=>?_⟩
    have s0:=Same.upd (o:=.lst []) hl0
    refine told_due (E:=E0) (lss:=[]) (dvh1.mono (G1s.trans s0)) ok (t12.mono s0) u1 u8 cl upd_same (Nat.zero_le _) rfl (fun j ls e=>by simp at e) fun H' s' t'=>?_
    have g':=keep1 (G1s.trans s0) s'
    refine iteQ (by rw [due_nil];simp) ?_
    refine told_apart (E:=E0) (dvh1.mono g') ok t' u1 u8 cl (by omega) (fun nw=>absurd ⟨_,mark_ap u1⟩ nw) fun ws l H'' ap' s'' t'' nl hl=>?_
    cases ApOk.one (mark_ap u1) ap'
    have g'':=keep1 g' s''
    refine ⟨Nat.zero_le _,fun N hN=>?_⟩
    have sN:=Same.upd (o:=.lst []) hN
    refine ⟨_,_,.lst (sN _ _ hl) .nil,.lst upd_same .nil,nil_shaped,nil_shaped,?_⟩
    exact fin _ _ ⟨rfl,g''.trans sN,t''.mono sN⟩
   clear t12 G1s H12
   rintro σ H12 ⟨rfl,G1s,t12⟩
   refine seq_nx (fun σ Hx=>∃ v14,σ=[some (.ref a),some (.ref a0),some (.ref ah),some (.str (bs u)),some (.int ((2 ^ k:Nat):Int)),some (.int (m:Nat)),some (.int (20+(i:Nat))),some (.int c),some (.ref L),v9,v10,some (.ref W),some (.str (bs (dueT rows u lss))),some (.ref B),v14,v15]/\Same G1 Hx/\Tab P0 (lamPos lamTb) qTb Hx) ?_ (fun nx fin=>?_)
   rotate_left
   ·refine ⟨⟨by decide,by decide⟩,_,rfl,by omega,fun z1 lz1=>⟨⟨by decide,by decide⟩,_,rfl,by omega,fun z2 lz2=>?_⟩⟩
    refine ⟨by rw [bs_len,sizeLine_eq];omega,?_⟩
    rw [bs_fromA u (by decide),bs_nil]
    refine ⟨le_line (Nat.le_of_ble_eq_true rfl),fun Z hZ=>?_⟩
    have sZ:=Same.upd (o:=.lst [.str (bs z1),.str (bs z2),.str (bs (u.drop (1:Int).toNat)),.str (bs [])]) hZ
    have kZ:upd H12 Z (.lst [.str (bs z1),.str (bs z2),.str (bs (u.drop (1:Int).toNat)),.str (bs [])]) Z=some (.lst [.str (bs z1),.str (bs z2),.str (bs (u.drop (1:Int).toNat)),.str (bs [])]):=upd_same
    have gZ:=G1s.trans sZ
    have tZ:=t12.mono sZ
    generalize upd H12 Z (.lst [.str (bs z1),.str (bs z2),.str (bs (u.drop (1:Int).toNat)),.str (bs [])])=HZ at kZ gZ tZ ⊢
    refine ⟨⟨_,SqL.of kZ⟩,for_by (it_list _ Z _) (fun i' σ Hx=>(∃ v14,σ=[some (.ref a),some (.ref a0),some (.ref ah),some (.str (bs u)),some (.int ((2 ^ k:Nat):Int)),some (.int (m:Nat)),some (.int (20+(i:Nat))),some (.int c),some (.ref L),v9,v10,some (.ref W),some (.str (bs (dueT rows u lss))),some (.ref B),v14,v15])/\SameT P0 HZ Hx/\Tab P0 (lamPos lamTb) qTb Hx)
     ⟨⟨v14,rfl⟩,SameT.refl _ _,tZ⟩ (fun i' σ Hx _ ⟨_,sx,_⟩=>SqL.of (lst_T kZ tZ sx)) ?_ ?_⟩
    ·rintro i' x σ Hx hi' hx ⟨⟨v14',rfl⟩,sx,tx⟩
     have ex:∃ z:List Bool,x = .str (bs z)/\z.length<=60000:=by
      have hm:=List.mem_of_getElem? hx
      simp only [List.mem_cons,List.not_mem_nil,or_false] at hm
      rcases hm with rfl | rfl | rfl | rfl
      ·exact ⟨_,rfl,by omega⟩
      ·exact ⟨_,rfl,by omega⟩
      ·exact ⟨_,rfl,by rw [List.length_drop];omega⟩
      ·exact ⟨_,rfl,Nat.zero_le _⟩
     obtain ⟨z,rfl,z6⟩:=ex
     have gx:=keep1 gZ sx
     refine told_apart (E:=E0) (dvh1.mono gx) ok tx u1 u8 cl z6 (fun nw p H' s' t' hp=>?_) (fun ws l H' ap s' t' nl hl=>?_)
     ·refine ⟨u,z,rfl,rfl,u1,u8,z6,fun _ p' H'' s'' hp'=>?_,fun ws l H'' ap=>absurd ⟨ws,ap⟩ nw⟩
      refine ⟨refD "wire",refD "wire",refD_DV (s'' _ _ hp),refD_DV hp',ref_shaped_wire,ref_shaped_wire,?_⟩
      rw [ref_eq_wire]
      exact ⟨⟨_,rfl⟩,(sx.trans s').trans s''.t,t'.mono s''⟩
     ·refine ⟨u,z,rfl,rfl,u1,u8,z6,fun nw=>absurd ⟨ws,ap⟩ nw,fun ws' l' H'' ap' s'' nl' hl'=>?_⟩
      cases ApOk.one ap ap'
      refine ⟨_,_,.lst (s'' _ _ hl) (dvsB _),.lst hl' (dvsB _),ws_shaped _,ws_shaped _,?_⟩
      rw [eqv_ws]
      exact ⟨⟨_,rfl⟩,(sx.trans s').trans s''.t,t'.mono s''⟩
    ·rintro σ Hx ⟨⟨v14',rfl⟩,sx,tx⟩
     exact fin _ _ ⟨v14',rfl,keep1 gZ sx,tx⟩
   clear t12 G1s H12
   rintro σ H12 ⟨v14',rfl,G1s,t12⟩
   refine ⟨le_line (Nat.le_of_ble_eq_true rfl),fun Z hZ=>?_⟩
   have sZ:=Same.upd (o:=.lst [.int ((2 ^ k:Nat):Int),.int (-1),.non,.bl true,.str "0"]) hZ
   have kZ:upd H12 Z (.lst [.int ((2 ^ k:Nat):Int),.int (-1),.non,.bl true,.str "0"]) Z=some (.lst [.int ((2 ^ k:Nat):Int),.int (-1),.non,.bl true,.str "0"]):=upd_same
   have gZ:=G1s.trans sZ
   have tZ:=t12.mono sZ
   refine ⟨(by decide:(0:Int) < 5),?_⟩
   have c0:=Int.emod_nonneg c (show (5:Int)≠0 by decide)
   have c1:=Int.emod_lt_of_pos c (show (0:Int) < 5 by decide)
   have fin:∀ H',SameT P0 (upd H12 Z (.lst [.int ((2 ^ k:Nat):Int),.int (-1),.non,.bl true,.str "0"])) H'->Same G H':=fun H' s'=>GG1.trans (keep1 gZ s')
   generalize upd H12 Z (.lst [.int ((2 ^ k:Nat):Int),.int (-1),.non,.bl true,.str "0"])=HZ at kZ gZ tZ fin ⊢
   have c5:c % 5=0\/c % 5=1\/c % 5=2\/c % 5=3\/c % 5=4:=by omega
   have bad:∃ (bv:V) (d:PyData),getV HZ (.ref Z) (c % 5)=some bv/\(∀ X,DV X bv d)/\ltV k bv=false:=by
    rcases c5 with e | e | e | e | e<;>rw [e]
    ·exact ⟨_,_,gl kZ (by decide) rfl,fun X=>.int _,by unfold ltV;simp⟩
    ·exact ⟨_,_,gl kZ (by decide) rfl,fun X=>.int _,by unfold ltV;simp⟩
    ·exact ⟨_,_,gl kZ (by decide) rfl,fun X=>.non,by unfold ltV;rfl⟩
    ·exact ⟨_,_,gl kZ (by decide) rfl,fun X=>.bl _,by unfold ltV;rfl⟩
    ·exact ⟨_,_,gl kZ (by decide) rfl,fun X=>.str _,by unfold ltV;rfl⟩
   obtain ⟨bv,d,eb,hd,hlt⟩:=bad
   refine ⟨_,eb,?_⟩
   refine ⟨k,n,rows,u,d,dvh1.mono gZ,ok,tZ,rfl,u1,u8,cl.1,cl.2,hd,hlt,fun H' s' t'=>?_⟩
   exact ⟨_,_,_,_,_,_,_,_,_,_,rfl,fin _ s',t'⟩
  clear G5 t5 H5
  rintro σ H7 ⟨v6,v7,v8,v9,v10,v11,v12,v13,v14,v15,rfl,G7,t7⟩
  refine ⟨le_line (Nat.le_of_ble_eq_true rfl),fun l1 hl1=>⟨le_line (Nat.le_of_ble_eq_true rfl),fun l2 hl2=>⟨le_line (Nat.le_of_ble_eq_true rfl),fun Z hZ=>?_⟩⟩⟩
  have w1:=Same.upd (o:=.lst [.str "0"]) hl1
  have w2:=Same.upd (o:=.tup [.str (bs u)]) hl2
  have w3:=Same.upd (o:=.lst [.non,.int 5,.ref l1,.ref l2,.bl true]) hZ
  have k1:=(w2.trans w3) l1 _ upd_same
  have k2:=w3 l2 _ upd_same
  have kZ:upd (upd (upd H7 l1 (.lst [.str "0"])) l2 (.tup [.str (bs u)])) Z (.lst [.non,.int 5,.ref l1,.ref l2,.bl true]) Z=some (.lst [.non,.int 5,.ref l1,.ref l2,.bl true]):=upd_same
  have ww:=(w1.trans w2).trans w3
  generalize upd (upd (upd H7 l1 (.lst [.str "0"])) l2 (.tup [.str (bs u)])) Z (.lst [.non,.int 5,.ref l1,.ref l2,.bl true])=HZ at k1 k2 kZ ww ⊢
  clear w1 w2 w3
  have gZ:=G7.trans ww
  have tZ:=t7.mono ww
  have odd:∀ x∈[V.non,.int 5,.ref l1,.ref l2,.bl true],∃ Tx,tyN HZ x=some Tx/\Tx≠"str" := by
   intro x hx
   simp only [List.mem_cons,List.not_mem_nil,or_false] at hx
   rcases hx with rfl | rfl | rfl | rfl | rfl
   ·exact ⟨_,rfl,by decide⟩
   ·exact ⟨_,rfl,by decide⟩
   ·exact ⟨"list",by simp [tyN,k1],by decide⟩
   ·exact ⟨"tuple",by simp [tyN,k2],by decide⟩
   ·exact ⟨_,rfl,by decide⟩
  refine ⟨⟨_,SqL.of kZ⟩,for_by (it_list _ Z _) (fun i' σ Hx=>(∃ v15,σ=[some (.ref a),some (.ref a0),some (.ref ah),some (.str (bs u)),some (.int ((2 ^ k:Nat):Int)),some (.int (m:Nat)),v6,v7,v8,v9,v10,v11,v12,v13,v14,v15])/\SameT P0 HZ Hx/\Tab P0 (lamPos lamTb) qTb Hx)
   ⟨⟨v15,rfl⟩,SameT.refl _ _,tZ⟩ (fun i' σ Hx _ ⟨_,sx,_⟩=>SqL.of (lst_T kZ tZ sx)) ?_ ?_⟩
  ·rintro i' x σ Hx hi' hx ⟨⟨v15',rfl⟩,sx,tx⟩
   obtain ⟨Tx,h1,h2⟩:=odd x (List.mem_of_getElem? hx)
   refine told_odd (E:=E0) (dvh.mono (keep gZ sx)) ok tx u1 u8 cl (tyN_T h1 tZ sx) h2 fun p H' s' t' hp=>?_
   refine ⟨le_line (Nat.le_of_ble_eq_true rfl),fun r hr=>?_⟩
   have sr:=Same.upd (o:=.tup [.str ("refused" : Str),.str ("wire" : Str)]) hr
   refine ⟨refD "wire",refD "wire",refD_DV (sr _ _ hp),refD_DV upd_same,ref_shaped_wire,ref_shaped_wire,?_⟩
   rw [ref_eq_wire]
   exact ⟨⟨_,rfl⟩,(sx.trans s').trans sr.t,t'.mono sr⟩
  ·rintro σ Hx ⟨⟨v15',rfl⟩,sx,tx⟩
   have gx:=keep gZ sx
   refine ⟨_,_,dvh.mono gx,dvc.mono gx,codeD_shaped _ _ _,codeD_shaped _ _ _,?_⟩
   rw [codeD_eq]
   exact q _
 ·exact h.elim
end
end K41
end
section
namespace K41
open PySem L2
section
def keysStr (es:Array DictEntry):Bool:=es.all fun e=>match e.key with | .str _ _=>true | _=>false
theorem keysStr_of {es:Array DictEntry} (h:keysStr es=true):StrKeys es:=fun e he=>by
 have:=(Array.all_eq_true_iff_forall_mem.mp h) e he
 split at this
 ·rename_i n t z;exact ⟨n,t,z⟩
 ·cases this
theorem find_ns {K:PySem.W.Frag} {N:Addr} {c1:Value} {d1:Option Addr} {es:Array DictEntry} {ep:Nat} {sl1:Array (Option Value)} {x:Str} {v:Value} (hN:K.lookup N=some ⟨c1,d1,.dict es ep,sl1⟩) (e:PySem.W.nsIn K N x=some (some v)):nsFind es x=some v:=by
 unfold PySem.W.nsIn at e
 rw [hN] at e
 dsimp only at e
 split at e
 ·rename_i en he
  cases e
  unfold nsFind findBy
  rw [<-Array.find?_toList,he]
  rfl
 ·split at e<;>cases e
open PySem.W in
theorem exn_mk {K:PySem.W.Frag} {C:Addr} {nm q:Str} {N B:Addr} {bs:List Value} {hdct:Bool} {sn:List Str} {sub:List Value} {ab:Bool} {col:Option Bool} {dd:Option Addr} {k0 k1 k2 k3 k5:Option Value}
  {c1:Value} {d1:Option Addr} {es:Array DictEntry} {ep:Nat} {sl1:Array (Option Value)} {cB:Value} {ddB:Option Addr} {slB:Array (Option Value)} {nmB qB:Str} {bsB mroB subB:List Value} {NB:Addr} {hdB abB delB:Bool} {snB:List Str} {colB:Option Bool}
  {c2:Value} {d2:Option Addr} {esB:Array DictEntry} {epB:Nat} {sl2:Array (Option Value)}
  (hC:K.lookup C=some (excClassObj nm q C N bs (.ref B :: PySem.W.veM) hdct sn sub ab col dd k0 k1 k2 k3 k5 "ValueError.__new__")) (hN:K.lookup N=some ⟨c1,d1,.dict es ep,sl1⟩) (sN:keysStr es=true) (nN:(nsFind es "__init__").isNone=true)
  (hB:K.lookup B=some ⟨cB,ddB,.cls ⟨nmB,bsB,mroB,NB,qB,hdB,snB,subB,abB,colB,delB⟩,slB⟩) (hNB:K.lookup NB=some ⟨c2,d2,.dict esB epB,sl2⟩) (sB:keysStr esB=true) (nB:(nsFind esB "__init__").isNone=true):ExnOk K C:=by
 refine ⟨nm,q,N,bs,.ref B :: PySem.W.veM,hdct,sn,sub,ab,col,dd,k0,k1,k2,k3,k5,nsFind es,Option.isNone_iff_eq_none.mp nN,fun h X=>⟨X _ _ hC,⟨_,es,ep,X _ _ hN,rfl,keysStr_of sN,fun _=>rfl⟩,?_⟩⟩
 exact .own (X _ _ hB) ⟨_,esB,epB,X _ _ hNB,rfl,keysStr_of sB,fun _=>rfl⟩ (Option.isNone_iff_eq_none.mp nB) .base
def NW0 (K:PySem.W.Frag) (C:Addr):Prop:=∃ (fI:Addr) (fd:FuncData),ExnI K C fI/\Fun K "__init__" "NoWire.__init__" sInit fI fd/\Binds K fd ["self","at"] []
open PySem.W in
theorem nw_mk {K:PySem.W.Frag} {C fI:Addr} {nm q:Str} {N B:Addr} {bs:List Value} {sn:List Str} {sub:List Value} {ab:Bool} {col:Option Bool} {dd:Option Addr} {k0 k1 k2 k3 k5:Option Value}
  {c1:Value} {d1:Option Addr} {es:Array DictEntry} {ep:Nat} {sl1:Array (Option Value)} {cB:Value} {ddB:Option Addr} {slB:Array (Option Value)} {nmB qB:Str} {bsB mroB subB:List Value} {NB:Addr} {hdB abB delB:Bool} {snB:List Str} {colB:Option Bool}
  {c2:Value} {d2:Option Addr} {esB:Array DictEntry} {epB:Nat} {sl2:Array (Option Value)} {oc:Value} {od an:Option Addr} {osl:Array (Option Value)} {kV dc pm cd ct:Value}
  (hC:K.lookup C=some (excClassObj nm q C N bs (.ref B :: PySem.W.veM) true sn sub ab col dd k0 k1 k2 k3 k5 "ValueError.__new__")) (hN:K.lookup N=some ⟨c1,d1,.dict es ep,sl1⟩) (sN:keysStr es=true) (nN:nsIn K N "__init__" = some (some (.ref fI)))
  (hB:K.lookup B=some ⟨cB,ddB,.cls ⟨nmB,bsB,mroB,NB,qB,hdB,snB,subB,abB,colB,delB⟩,slB⟩) (hNB:K.lookup NB=some ⟨c2,d2,.dict esB epB,sl2⟩) (sB:keysStr esB=true) (nB:(nsFind esB "__init__").isNone=true)
  (hI:K.lookup fI=some ⟨oc,od,.func (fnOf "__init__" "NoWire.__init__" (defArgs sInit) (defBody sInit) (defScope sInit) .none kV dc pm an cd ct),osl⟩) (cI:oc = .type "function") (hc:codeIn K cd "NoWire.__init__" = true) (hk:keepIn K (.ref fI)=true):NW0 K C:=by
 have F:Fun K "__init__" "NoWire.__init__" sInit fI _:=⟨⟨oc,od,kV,dc,pm,an,cd,ct,osl,rfl,hI,hc⟩,hk⟩
 refine ⟨fI,_,⟨nm,q,N,B,bs,sn,sub,ab,col,dd,k0,k1,k2,k3,k5,nsFind es,_,find_ns hN nN,cI,fun h X=>⟨X _ _ hC,⟨_,es,ep,X _ _ hN,rfl,keysStr_of sN,fun _=>rfl⟩,?_,X _ _ hI⟩⟩,F,Binds.all fun us hl=>?_⟩
 ·exact .own (X _ _ hB) ⟨_,esB,epB,X _ _ hNB,rfl,keysStr_of sB,fun _=>rfl⟩ (Option.isNone_iff_eq_none.mp nB) .base
 ·match us,hl with
  | [a0,a1],_=>rfl
theorem nw_of {P:Program} {w:World} {K:PySem.W.Frag} {mg:Str->Option Value} {base:Heap} {C B:Addr} (Z:NW0 K C) (W:ExnB K B) (S:ExnS K C) (hB:mg "BeatError" = some (.ref B)) (hC:mg "NoWire" = some (.ref C)) (hk:PySem.W.keepIn K (.ref C)=true):NW P w K mg base C:=by
 obtain ⟨fI,fd,Z1,F,b⟩:=Z
 exact ⟨fI,fd,Z1,ok_init F Z1 W S hB,b,hC,hk⟩
theorem exnB_mk {K:PySem.W.Frag} {B:Addr} (a1:PySem.W.specialIn K (.ref B) "__getattribute__" = some (some (.builtin "type.__getattribute__"))) (a2:PySem.W.readsIn K B (.type "type")=true) (a3:PySem.W.findCls K (.ref B) (.type "type") "__init__" = some (.val (.builtin "ValueError.__init__"))):ExnB K B:=⟨a1,a2,a3⟩
theorem exnS_mk {K:PySem.W.Frag} {C:Addr} (a1:PySem.W.findIn K (.ref C) "__setattr__" = some (some (.builtin "object.__setattr__"))) (a2:PySem.W.findIn K (.ref C) "at" = some none):ExnS K C:=⟨a1,a2⟩
def Cl0 (K:PySem.W.Frag) (C:Addr) (x:Str) (b:Bool):Prop:=∃ D,PySem.W.nsIn K mainGlobals x=some (some (.ref D))/\PySem.W.kitOne K (.ref C) (.ref D)=some b
theorem cl0_mk {K:PySem.W.Frag} {C D:Addr} {x:Str} {b:Bool} (h:PySem.W.nsIn K mainGlobals x=some (some (.ref D))) (e:PySem.W.kitOne K (.ref C) (.ref D)=some b):Cl0 K C x b:=⟨D,h,e⟩
theorem cl0_of {K:PySem.W.Frag} {h:Heap} {mg:Str->Option Value} {C:Addr} {x:Str} {b:Bool} (X:K.In h) (G:h.Ns mainGlobals mg) (z:Cl0 K C x b):Cl K mg C x b:=let ⟨D,h1,e⟩:=z;⟨D,PySem.W.mg_of X G h1,e⟩
theorem xcls_mk {K:PySem.W.Frag} {C:Addr} (a1:PySem.W.findIn K (.ref C) "__getattribute__" = some (some (.builtin "BaseException.__getattribute__"))) (a2:PySem.W.findIn K (.ref C) "__getattr__" = some none) (a3:PySem.W.mroIn K C (.type "BaseException")=some true)
  (b:(PySem.W.clsIn K C).isSome=true) (c:PySem.W.findIn K (.ref C) "__class__" = some (some (.builtin "object.__class__")))
  (d:PySem.W.specialIn K (.builtin "object.__class__") "__get__" = some (some (.builtin "getset_descriptor.__get__"))) (e:PySem.W.takesIn K (.builtin "object.__class__")=some true) (f:PySem.W.mroIn K C (.type "object")=some true):PySem.W.ExCls K C:=⟨a1,a2,a3,b,c,d,e,f⟩
end
end K41
end
section
namespace K41
open PySem L2
theorem fnX_1 {K:PySem.W.Frag} {h:Heap} {mg:Str->Option Value} {x:Str} {st:Stmt} {p0:Str} (D:DefIn K x st) (X:K.In h) (G:h.Ns mainGlobals mg)
  (hb:∀ (kV doc pm:Value) (an:Option Addr) (cdv ct:Value) (a0:Value),bindArgs (PySem.W.fnOf x x (defArgs st) (defBody st) (defScope st) .none kV doc pm an cdv ct) ⟨[a0],[]⟩=pure ([p0].zip [a0])):FnX K mg x st [p0]:=
 D.fnX X G fun kV doc pm an cdv ct us hl=>match us,hl with
  | [a0],_=>hb kV doc pm an cdv ct a0
theorem fnX_2 {K:PySem.W.Frag} {h:Heap} {mg:Str->Option Value} {x:Str} {st:Stmt} {p0 p1:Str} (D:DefIn K x st) (X:K.In h) (G:h.Ns mainGlobals mg)
  (hb:∀ (kV doc pm:Value) (an:Option Addr) (cdv ct:Value) (a0 a1:Value),bindArgs (PySem.W.fnOf x x (defArgs st) (defBody st) (defScope st) .none kV doc pm an cdv ct) ⟨[a0,a1],[]⟩=pure ([p0,p1].zip [a0,a1])):FnX K mg x st [p0,p1]:=
 D.fnX X G fun kV doc pm an cdv ct us hl=>match us,hl with
  | [a0,a1],_=>hb kV doc pm an cdv ct a0 a1
theorem fnX_3 {K:PySem.W.Frag} {h:Heap} {mg:Str->Option Value} {x:Str} {st:Stmt} {p0 p1 p2:Str} (D:DefIn K x st) (X:K.In h) (G:h.Ns mainGlobals mg)
  (hb:∀ (kV doc pm:Value) (an:Option Addr) (cdv ct:Value) (a0 a1 a2:Value),bindArgs (PySem.W.fnOf x x (defArgs st) (defBody st) (defScope st) .none kV doc pm an cdv ct) ⟨[a0,a1,a2],[]⟩=pure ([p0,p1,p2].zip [a0,a1,a2])):FnX K mg x st [p0,p1,p2]:=
 D.fnX X G fun kV doc pm an cdv ct us hl=>match us,hl with
  | [a0,a1,a2],_=>hb kV doc pm an cdv ct a0 a1 a2
theorem fnX_4 {K:PySem.W.Frag} {h:Heap} {mg:Str->Option Value} {x:Str} {st:Stmt} {p0 p1 p2 p3:Str} (D:DefIn K x st) (X:K.In h) (G:h.Ns mainGlobals mg)
  (hb:∀ (kV doc pm:Value) (an:Option Addr) (cdv ct:Value) (a0 a1 a2 a3:Value),bindArgs (PySem.W.fnOf x x (defArgs st) (defBody st) (defScope st) .none kV doc pm an cdv ct) ⟨[a0,a1,a2,a3],[]⟩=pure ([p0,p1,p2,p3].zip [a0,a1,a2,a3])):FnX K mg x st [p0,p1,p2,p3]:=
 D.fnX X G fun kV doc pm an cdv ct us hl=>match us,hl with
  | [a0,a1,a2,a3],_=>hb kV doc pm an cdv ct a0 a1 a2 a3
theorem all_mk {l:PySem.W.OpenLaw} {w:World} {K:PySem.W.Frag} {h:Heap} {mg:Str->Option Value} {fa:Addr} (X:K.In h) (G:h.Ns mainGlobals mg) (hfa:mg "law" = some (.ref fa))
  (d1:DefIn K "texts_from" sTexts) (d2:DefIn K "tail_steps" sTailS) (d3:DefIn K "tails_behind" sTails) (d4:DefIn K "standing" sStand) (d5:DefIn K "is_mark" sMark) (d6:DefIn K "all_signs" sAll) (d7:DefIn K "marks" sMarks) (d8:DefIn K "is_clean" sClean) (d9:DefIn K "is_whole" sWhole) (d10:DefIn K "is_letter" sLetter) (d11:DefIn K "is_letter_list" sLetterL) (d12:DefIn K "sent" sSent) (d13:DefIn K "refuse_unclean" sRefU) (d14:DefIn K "framed" sFramed) (d15:DefIn K "apart" sApart) (d16:DefIn K "_law_copy" sCopy) (d17:DefIn K "_law_cell" sCell) (d18:DefIn K "_law_mixed" sMixed) (d19:DefIn K "_law_known" sKnown) (d20:DefIn K "_law_code" sLCode) (d21:DefIn K "_law_wire" sLWire) (d22:DefIn K "_law_parts" sLParts) (d23:DefIn K "_law_spoilt" sSpoilt) (d24:DefIn K "_law_mark" sLMark) (d25:DefIn K "_law_told" sTold) (d26:DefIn K "_law_not_clean" sNClean) (d27:DefIn K "_law_refused" sLRef) (dl:DefIn K "law" sLaw) {c0 P0:Addr} (ht:PySem.W.tabIn K "tails_behind" = some (c0,P0))
  (z1:PySem.W.nsIn K mainGlobals "len" = some none) (z2:PySem.W.nsIn K mainGlobals "range" = some none) (z3:PySem.W.nsIn K mainGlobals "isinstance" = some none) (z4:PySem.W.nsIn K mainGlobals "int" = some none) (z5:PySem.W.nsIn K mainGlobals "bool" = some none) (z6:PySem.W.nsIn K mainGlobals "str" = some none) (z7:PySem.W.nsIn K mainGlobals "list" = some none) (z8:PySem.W.nsIn K mainGlobals "max" = some none) (z9:PySem.W.nsIn K mainGlobals "min" = some none) (z10:PySem.W.nsIn K mainGlobals "enumerate" = some none) (z11:PySem.W.nsIn K mainGlobals "any" = some none) (z12:PySem.W.nsIn K mainGlobals "all" = some none) (z13:PySem.W.nsIn K mainGlobals "ValueError" = some none) (tx1:∃ tk,PySem.W.nsIn K mainGlobals "LONGEST" = some (some (.int 8 tk))) {xB:Addr} (hB:PySem.W.nsIn K mainGlobals "BeatError" = some (some (.ref xB))) (xW:ExnB K xB) {xNoMark:Addr} (h_NoMark:PySem.W.nsIn K mainGlobals "NoMark" = some (some (.ref xNoMark))) (xz_NoMark:PySem.W.ExCls K xNoMark) (xm_NoMark:PySem.W.exmOne K (.ref xNoMark) (.ref xB)=some true) (xo_NoMark:ExnOk K xNoMark) (q_NoMark_NoLetter:Cl0 K xNoMark "NoLetter" (decide (0=3))) (q_NoMark_NoCode:Cl0 K xNoMark "NoCode" (decide (1=3))) (q_NoMark_NoWindow:Cl0 K xNoMark "NoWindow" (decide (2=3))) (q_NoMark_NoMark:Cl0 K xNoMark "NoMark" (decide (3=3))) (q_NoMark_NoText:Cl0 K xNoMark "NoText" (decide (4=3))) (q_NoMark_NoName:Cl0 K xNoMark "NoName" (decide (5=3))) (q_NoMark_NoRow:Cl0 K xNoMark "NoRow" (decide (6=3))) (q_NoMark_NoWire:Cl0 K xNoMark "NoWire" (decide (7=3))) (kv_NoMark:PySem.W.kitOne K (.ref xNoMark) (.type "ValueError")=some true) {xNoLetter:Addr} (h_NoLetter:PySem.W.nsIn K mainGlobals "NoLetter" = some (some (.ref xNoLetter))) (xz_NoLetter:PySem.W.ExCls K xNoLetter) (xm_NoLetter:PySem.W.exmOne K (.ref xNoLetter) (.ref xB)=some true) (xo_NoLetter:ExnOk K xNoLetter) (q_NoLetter_NoLetter:Cl0 K xNoLetter "NoLetter" (decide (0=0))) (q_NoLetter_NoCode:Cl0 K xNoLetter "NoCode" (decide (1=0))) (q_NoLetter_NoWindow:Cl0 K xNoLetter "NoWindow" (decide (2=0))) (q_NoLetter_NoMark:Cl0 K xNoLetter "NoMark" (decide (3=0))) (q_NoLetter_NoText:Cl0 K xNoLetter "NoText" (decide (4=0))) (q_NoLetter_NoName:Cl0 K xNoLetter "NoName" (decide (5=0))) (q_NoLetter_NoRow:Cl0 K xNoLetter "NoRow" (decide (6=0))) (q_NoLetter_NoWire:Cl0 K xNoLetter "NoWire" (decide (7=0))) (kv_NoLetter:PySem.W.kitOne K (.ref xNoLetter) (.type "ValueError")=some true) {xNoWire:Addr} (h_NoWire:PySem.W.nsIn K mainGlobals "NoWire" = some (some (.ref xNoWire))) (xz_NoWire:PySem.W.ExCls K xNoWire) (xm_NoWire:PySem.W.exmOne K (.ref xNoWire) (.ref xB)=some true) (xn_NoWire:NW0 K xNoWire) (xS_NoWire:ExnS K xNoWire) (xk_NoWire:PySem.W.keepIn K (.ref xNoWire)=true) (q_NoWire_NoLetter:Cl0 K xNoWire "NoLetter" (decide (0=7))) (q_NoWire_NoCode:Cl0 K xNoWire "NoCode" (decide (1=7))) (q_NoWire_NoWindow:Cl0 K xNoWire "NoWindow" (decide (2=7))) (q_NoWire_NoMark:Cl0 K xNoWire "NoMark" (decide (3=7))) (q_NoWire_NoText:Cl0 K xNoWire "NoText" (decide (4=7))) (q_NoWire_NoName:Cl0 K xNoWire "NoName" (decide (5=7))) (q_NoWire_NoRow:Cl0 K xNoWire "NoRow" (decide (6=7))) (q_NoWire_NoWire:Cl0 K xNoWire "NoWire" (decide (7=7))) (kv_NoWire:PySem.W.kitOne K (.ref xNoWire) (.type "ValueError")=some true) :
  ∃ fd:FuncData,(∀ (s:Shared) (v:Value),BindsTo s fd ⟨[v],[]⟩ [("script",v)])/\∀ base:Heap,K.In base->base.Ns mainGlobals mg->Maker mg base c0 P0->FnOk l.prog w K mg base CX0 12 fa fd ["script"] (spLaw P0 K):=by
 obtain ⟨f,oc,od,an,osl,kV,dc,pm,cd,ct,h1,h2,h3,h4⟩:=dl
 have e:=hfa.symm.trans (PySem.W.mg_of X G h1)
 cases e
 have F:=fun_mk (st:=sLaw) h2 h3 h4
 refine ⟨PySem.W.fnOf "law" "law" (defArgs sLaw) (defBody sLaw) (defScope sLaw) .none kV dc pm an cd ct,fun s v=>.of_eq rfl,fun base _ _ M=>?_⟩
 have z_len:=PySem.W.mg_none_of X G z1
 have z_range:=PySem.W.mg_none_of X G z2
 have z_isinstance:=PySem.W.mg_none_of X G z3
 have z_int:=PySem.W.mg_none_of X G z4
 have z_bool:=PySem.W.mg_none_of X G z5
 have z_str:=PySem.W.mg_none_of X G z6
 have z_list:=PySem.W.mg_none_of X G z7
 have z_max:=PySem.W.mg_none_of X G z8
 have z_min:=PySem.W.mg_none_of X G z9
 have z_enumerate:=PySem.W.mg_none_of X G z10
 have z_any:=PySem.W.mg_none_of X G z11
 have z_all:=PySem.W.mg_none_of X G z12
 have z_ValueError:=PySem.W.mg_none_of X G z13
 have t_LONGEST:∃ tk,mg "LONGEST" = some (.int 8 tk):=let ⟨tk,h⟩:=tx1;⟨tk,PySem.W.mg_of X G h⟩
 have m_BeatError:=PySem.W.mg_of X G hB
 have m_NoMark:=PySem.W.mg_of X G h_NoMark
 have kk_NoMark:KindsOf K mg xNoMark 3:=⟨xz_NoMark,cl0_of X G q_NoMark_NoLetter,cl0_of X G q_NoMark_NoCode,cl0_of X G q_NoMark_NoWindow,cl0_of X G q_NoMark_NoMark,cl0_of X G q_NoMark_NoText,cl0_of X G q_NoMark_NoName,cl0_of X G q_NoMark_NoRow,cl0_of X G q_NoMark_NoWire,kv_NoMark⟩
 have m_NoLetter:=PySem.W.mg_of X G h_NoLetter
 have kk_NoLetter:KindsOf K mg xNoLetter 0:=⟨xz_NoLetter,cl0_of X G q_NoLetter_NoLetter,cl0_of X G q_NoLetter_NoCode,cl0_of X G q_NoLetter_NoWindow,cl0_of X G q_NoLetter_NoMark,cl0_of X G q_NoLetter_NoText,cl0_of X G q_NoLetter_NoName,cl0_of X G q_NoLetter_NoRow,cl0_of X G q_NoLetter_NoWire,kv_NoLetter⟩
 have m_NoWire:=PySem.W.mg_of X G h_NoWire
 have kk_NoWire:KindsOf K mg xNoWire 7:=⟨xz_NoWire,cl0_of X G q_NoWire_NoLetter,cl0_of X G q_NoWire_NoCode,cl0_of X G q_NoWire_NoWindow,cl0_of X G q_NoWire_NoMark,cl0_of X G q_NoWire_NoText,cl0_of X G q_NoWire_NoName,cl0_of X G q_NoWire_NoRow,cl0_of X G q_NoWire_NoWire,kv_NoWire⟩
 have nw_NoWire:=nw_of (P:=l.prog) (w:=w) (base:=base) xn_NoWire xW xS_NoWire m_BeatError m_NoWire xk_NoWire
 obtain ⟨fI_NoWire,fdI_NoWire,xI_NoWire,_,_⟩:=xn_NoWire
 have x_tf:=fnX_2 d1 X G (fun _ _ _ _ _ _ _ _=>rfl)
 have x_ts:=fnX_3 d2 X G (fun _ _ _ _ _ _ _ _ _=>rfl)
 have c_tails:=ok_tails (P:=l.prog) (w:=w) (base:=base) (FnC.of d3 ht X G (fun kV doc pm an cdv ct us hl=>match us,hl with | [_,_,_],_=>rfl)) x_tf z_len z_list (fun base=>ok_tailS (P:=l.prog) (w:=w) (base:=base) x_ts z_enumerate z_max z_len) M
 have c_stand:=ok_stand (P:=l.prog) (w:=w) (base:=base) (fnX_2 d4 X G (fun _ _ _ _ _ _ _ _=>rfl)) z_len z_range c_tails
 have c_mark:=ok_mark (P:=l.prog) (w:=w) (base:=base) (fnX_2 d5 X G (fun _ _ _ _ _ _ _ _=>rfl)) z_len z_isinstance z_str t_LONGEST c_stand
 have c_all:=ok_all (P:=l.prog) (w:=w) (base:=base) (fnX_1 d6 X G (fun _ _ _ _ _ _ _=>rfl)) z_range
 have c_marks:=ok_marks (P:=l.prog) (w:=w) (base:=base) (fnX_2 d7 X G (fun _ _ _ _ _ _ _ _=>rfl)) t_LONGEST c_stand c_all
 have c_clean:=ok_clean (P:=l.prog) (w:=w) (base:=base) (fnX_2 d8 X G (fun _ _ _ _ _ _ _ _=>rfl)) z_len z_any c_mark c_tails
 have c_whole:=ok_whole (P:=l.prog) (w:=w) (base:=base) (fnX_1 d9 X G (fun _ _ _ _ _ _ _=>rfl)) z_isinstance z_int z_bool
 have c_letter:=ok_letter (P:=l.prog) (w:=w) (base:=base) (fnX_2 d10 X G (fun _ _ _ _ _ _ _ _=>rfl)) c_whole
 have c_letterL:=ok_letterL (P:=l.prog) (w:=w) (base:=base) (fnX_2 d11 X G (fun _ _ _ _ _ _ _ _=>rfl)) z_isinstance z_list z_all c_letter
 have c_sent:=ok_sent (P:=l.prog) (w:=w) (base:=base) (fnX_3 d12 X G (fun _ _ _ _ _ _ _ _ _=>rfl)) xo_NoLetter m_NoLetter c_letterL
 have c_refU:=ok_refU (P:=l.prog) (w:=w) (base:=base) (fnX_2 d13 X G (fun _ _ _ _ _ _ _ _=>rfl)) xo_NoMark m_NoMark c_clean
 have c_framed:=ok_framed (P:=l.prog) (w:=w) (base:=base) (fnX_3 d14 X G (fun _ _ _ _ _ _ _ _ _=>rfl)) z_isinstance z_list xo_NoLetter m_NoLetter c_refU c_sent
 have c_apart:=ok_apart (P:=l.prog) (w:=w) (base:=base) (fnX_3 d15 X G (fun _ _ _ _ _ _ _ _ _=>rfl)) z_isinstance z_str z_len nw_NoWire c_refU
 have c_copy:=ok_copy (P:=l.prog) (w:=w) (base:=base) (fnX_1 d16 X G (fun _ _ _ _ _ _ _=>rfl)) z_list
 have c_cell:=ok_cell (P:=l.prog) (w:=w) (base:=base) (fnX_2 d17 X G (fun _ _ _ _ _ _ _ _=>rfl)) z_len
 have c_mixed:=ok_mixed (P:=l.prog) (w:=w) (base:=base) (fnX_2 d18 X G (fun _ _ _ _ _ _ _ _=>rfl))
 have c_known:=ok_known (P:=l.prog) (w:=w) (base:=base) (fnX_1 d19 X G (fun _ _ _ _ _ _ _=>rfl)) z_len
 have c_lcode:=ok_lcode (P:=l.prog) (w:=w) (base:=base) (fnX_1 d20 X G (fun _ _ _ _ _ _ _=>rfl)) z_range c_cell c_known c_mixed
 have c_lwire:=ok_lwire (P:=l.prog) (w:=w) (base:=base) (fnX_2 d21 X G (fun _ _ _ _ _ _ _ _=>rfl))
 have c_lparts:=ok_lparts (P:=l.prog) (w:=w) (base:=base) (fnX_2 d22 X G (fun _ _ _ _ _ _ _ _=>rfl)) z_len
 have c_spoilt:=ok_spoilt (P:=l.prog) (w:=w) (base:=base) (fnX_2 d23 X G (fun _ _ _ _ _ _ _ _=>rfl)) z_len
 have c_lmark:=ok_lmark (P:=l.prog) (w:=w) (base:=base) (fnX_3 d24 X G (fun _ _ _ _ _ _ _ _ _=>rfl)) z_int z_len z_range c_marks c_clean
 have ⟨F1,mF1⟩:=canY_at c_framed
 have ⟨F2,mF2⟩:=canY_at c_apart
 have c_told:=ok_told (P:=l.prog) (w:=w) (base:=base) (fnX_4 d25 X G (fun _ _ _ _ _ _ _ _ _ _=>rfl)) z_isinstance z_ValueError m_BeatError xm_NoMark xm_NoLetter xm_NoWire kk_NoMark kk_NoLetter kk_NoWire xI_NoWire xS_NoWire mF1 mF2 c_framed c_apart
 have c_nclean:=ok_nclean (P:=l.prog) (w:=w) (base:=base) (fnX_2 d26 X G (fun _ _ _ _ _ _ _ _=>rfl)) mF1 mF2 c_lmark c_told
 have c_lref:=ok_lref (P:=l.prog) (w:=w) (base:=base) (fnX_3 d27 X G (fun _ _ _ _ _ _ _ _ _=>rfl)) mF1 mF2 c_told
 exact ok_law F z_range z_len z_int z_max z_min z_list mF1 mF2 c_lcode c_copy c_cell c_lmark c_nclean c_told c_lwire c_lparts c_spoilt c_lref
theorem walk {l:PySem.W.OpenLaw} {q:Program} {loose:List Str} {XP:(Str->Option Value)->Heap->Prop} {YP:World->Heap->Prop} {d:DefRec} {K:Params->PySem.W.Frag} {c0 P0:Addr} (hn:l.most=some 63) (hdf:d.params.defaults=[])
  (hY:∀ (w:World) (h:Heap),YP w h->(K w.params).In h) (hnt:∀ w:World,PySem.W.noTabs (K w.params)=true) (htb:∀ (w:World) (h:Heap),YP w h->h.get? P0=some (PySem.W.tabObj #[])) (hcd:∀ w:World,PySem.W.codeHdIn (K w.params) c0 P0=true) (ht0:∀ w:World,PySem.W.tabIn (K w.params) "tails_behind" = some (c0,P0))
  (F:∀ (w:World) (mg:Str->Option Value) (fa:Addr) (h:Heap),(K w.params).In h->h.Ns mainGlobals mg->mg d.name=some (.ref fa) →
   ∃ fd:FuncData,(∀ (s:Shared) (u:Value),BindsTo s fd ⟨[u],[]⟩ [("script",u)])/\∀ base:Heap,(K w.params).In base->base.Ns mainGlobals mg->Maker mg base c0 P0->FnOk l.prog w (K w.params) mg base CX0 12 fa fd ["script"] (spLaw P0 (K w.params))) :
  PySem.W.WalkO q loose XP YP l.row.toRowW d [] (fun f vs=>PySem.call f vs):=
 L2.walk_ofT (n:=63) (k:=12) (x:= "script") (CX:=fun _=>CX0) (sp:=fun w=>spLaw P0 (K w.params)) hn (by decide) hdf ⟨rfl,by decide,by decide⟩ hY hnt htb hcd F (fun _ _ a ns hl hT hS=>⟨ns,hS,hl,.inl hT,fun _=>rfl⟩) fun _ _ _ _ _ z=>z
end K41
open PySem PySem.W PyProof.Rows
local macro_rules | `(tactic| walk_at "k_def")=>`(tactic| ((refine' L2.DefIn.mk ?a ?l ?c ?k);(case a=>k_is);(case l=>k_is);(case c=>k_is);(case k=>k_is)))
set_option maxRecDepth 100000 in
set_option maxHeartbeats 0 in
theorem PySem.Challenge.cw_ownbeat_k41_framed_and_apart_holds : PySem.Challenge.rw_ownbeat_k41_framed_and_apart.Holds := by
 w_on;o_law
 refine PySem.W.holds_open (q:=KH.V) (loose:=[]) (Xt:=(fun s=>xlAt KH.V [] s && recOk (RowW.records (OpenRow.toRowW KH.Rw.row)) s)) (N:=5888) (XP:=PySem.W.XL KH.V []) (Yf:=PySem.W.Hook.obs KH.hk) (Ya:=PySem.W.Hook.val KH.hk) (YP:=PySem.W.Hook.says KH.hk) ?hl (PySem.W.Hook.of KH.hk) (PySem.W.Hook.keeps KH.hk) (fun s e=>PySem.W.xl_of s (Bool.and_eq_true_iff.mp e).1) PySem.W.XL.keeps (by rfl) (by rfl) (by rfl) (fun s e=>PySem.W.recFacts_of (Bool.and_eq_true_iff.mp e).2) (by rfl) (by first | assumption | decide +kernel) (by decide +kernel) ⟨rfl,rfl,rfl,rfl,rfl,by decide +kernel⟩ ?hw ?hc
 (case hl=>exact KH.HL)
 (case hw=>w_witness2)
 delta KH.hk
 k_fill
 refine' K41.walk (l:=PySem.Challenge.rw_ownbeat_k41_framed_and_apart) rfl rfl (fun w h Y=>PySem.W.km_in_of Y) ?nt ?tb ?cd ?t0 ?F
 (case t0=>intro w;exact rfl)
 (case nt=>intro w;exact rfl)
 (case tb=>intro w h Y;exact PySem.W.km_tabs_of Y _ (by decide))
 (case cd=>intro w;exact rfl)
 case F=>
  intro w mg fa h KX G hmg
  refine' K41.all_mk KX G hmg ?d1 ?d2 ?d3 ?d4 ?d5 ?d6 ?d7 ?d8 ?d9 ?d10 ?d11 ?d12 ?d13 ?d14 ?d15 ?d16 ?d17 ?d18 ?d19 ?d20 ?d21 ?d22 ?d23 ?d24 ?d25 ?d26 ?d27 ?dl (by exact rfl) ?z1 ?z2 ?z3 ?z4 ?z5 ?z6 ?z7 ?z8 ?z9 ?z10 ?z11 ?z12 ?z13 ?tx1 ?hB ?xW ?h_NoMark ?xz_NoMark ?xm_NoMark ?xo_NoMark ?q_NoMark_NoLetter ?q_NoMark_NoCode ?q_NoMark_NoWindow ?q_NoMark_NoMark ?q_NoMark_NoText ?q_NoMark_NoName ?q_NoMark_NoRow ?q_NoMark_NoWire ?kv_NoMark ?h_NoLetter ?xz_NoLetter ?xm_NoLetter ?xo_NoLetter ?q_NoLetter_NoLetter ?q_NoLetter_NoCode ?q_NoLetter_NoWindow ?q_NoLetter_NoMark ?q_NoLetter_NoText ?q_NoLetter_NoName ?q_NoLetter_NoRow ?q_NoLetter_NoWire ?kv_NoLetter ?h_NoWire ?xz_NoWire ?xm_NoWire ?xn_NoWire ?xS_NoWire ?xk_NoWire ?q_NoWire_NoLetter ?q_NoWire_NoCode ?q_NoWire_NoWindow ?q_NoWire_NoMark ?q_NoWire_NoText ?q_NoWire_NoName ?q_NoWire_NoRow ?q_NoWire_NoWire ?kv_NoWire
  (case d1=>walk_at "k_def")
  (case d2=>walk_at "k_def")
  (case d3=>walk_at "k_def")
  (case d4=>walk_at "k_def")
  (case d5=>walk_at "k_def")
  (case d6=>walk_at "k_def")
  (case d7=>walk_at "k_def")
  (case d8=>walk_at "k_def")
  (case d9=>walk_at "k_def")
  (case d10=>walk_at "k_def")
  (case d11=>walk_at "k_def")
  (case d12=>walk_at "k_def")
  (case d13=>walk_at "k_def")
  (case d14=>walk_at "k_def")
  (case d15=>walk_at "k_def")
  (case d16=>walk_at "k_def")
  (case d17=>walk_at "k_def")
  (case d18=>walk_at "k_def")
  (case d19=>walk_at "k_def")
  (case d20=>walk_at "k_def")
  (case d21=>walk_at "k_def")
  (case d22=>walk_at "k_def")
  (case d23=>walk_at "k_def")
  (case d24=>walk_at "k_def")
  (case d25=>walk_at "k_def")
  (case d26=>walk_at "k_def")
  (case d27=>walk_at "k_def")
  (case dl=>walk_at "k_def")
  (case z1=>k_is)
  (case z2=>k_is)
  (case z3=>k_is)
  (case z4=>k_is)
  (case z5=>k_is)
  (case z6=>k_is)
  (case z7=>k_is)
  (case z8=>k_is)
  (case z9=>k_is)
  (case z10=>k_is)
  (case z11=>k_is)
  (case z12=>k_is)
  (case z13=>k_is)
  (case tx1=>((refine' L2.nx_mk ?hx ?ex);(case hx=>k_is);(case ex=>rfl)))
  (case hB=>k_is)
  (case xW=>((refine' K41.exnB_mk ?a1 ?a2 ?a3);(case a1=>k_is);(case a2=>k_is);(case a3=>k_is)))
  (case h_NoMark=>k_is)
  (case xz_NoMark=>((refine' K41.xcls_mk ?a1 ?a2 ?a3 ?a4 ?a5 ?a6 ?a7 ?a8);(case a1=>k_is);(case a2=>k_is);(case a3=>k_is);(case a4=>kernel_rfl);(case a5=>k_is);(case a6=>k_is);(case a7=>k_is);(case a8=>k_is)))
  (case xm_NoMark=>kernel_rfl)
  (case xo_NoMark=>((refine' K41.exn_mk ?a1 ?a2 ?a3 ?a4 ?a5 ?a6 ?a7 ?a8);(case a1=>k_is);(case a2=>k_is);(case a3=>kernel_rfl);(case a4=>kernel_rfl);(case a5=>k_is);(case a6=>k_is);(case a7=>kernel_rfl);(case a8=>kernel_rfl)))
  (case q_NoMark_NoLetter=>((refine' K41.cl0_mk ?a1 ?a2);(case a1=>k_is);(case a2=>kernel_rfl)))
  (case q_NoMark_NoCode=>((refine' K41.cl0_mk ?a1 ?a2);(case a1=>k_is);(case a2=>kernel_rfl)))
  (case q_NoMark_NoWindow=>((refine' K41.cl0_mk ?a1 ?a2);(case a1=>k_is);(case a2=>kernel_rfl)))
  (case q_NoMark_NoMark=>((refine' K41.cl0_mk ?a1 ?a2);(case a1=>k_is);(case a2=>kernel_rfl)))
  (case q_NoMark_NoText=>((refine' K41.cl0_mk ?a1 ?a2);(case a1=>k_is);(case a2=>kernel_rfl)))
  (case q_NoMark_NoName=>((refine' K41.cl0_mk ?a1 ?a2);(case a1=>k_is);(case a2=>kernel_rfl)))
  (case q_NoMark_NoRow=>((refine' K41.cl0_mk ?a1 ?a2);(case a1=>k_is);(case a2=>kernel_rfl)))
  (case q_NoMark_NoWire=>((refine' K41.cl0_mk ?a1 ?a2);(case a1=>k_is);(case a2=>kernel_rfl)))
  (case kv_NoMark=>kernel_rfl)
  (case h_NoLetter=>k_is)
  (case xz_NoLetter=>((refine' K41.xcls_mk ?a1 ?a2 ?a3 ?a4 ?a5 ?a6 ?a7 ?a8);(case a1=>k_is);(case a2=>k_is);(case a3=>k_is);(case a4=>kernel_rfl);(case a5=>k_is);(case a6=>k_is);(case a7=>k_is);(case a8=>k_is)))
  (case xm_NoLetter=>kernel_rfl)
  (case xo_NoLetter=>((refine' K41.exn_mk ?a1 ?a2 ?a3 ?a4 ?a5 ?a6 ?a7 ?a8);(case a1=>k_is);(case a2=>k_is);(case a3=>kernel_rfl);(case a4=>kernel_rfl);(case a5=>k_is);(case a6=>k_is);(case a7=>kernel_rfl);(case a8=>kernel_rfl)))
  (case q_NoLetter_NoLetter=>((refine' K41.cl0_mk ?a1 ?a2);(case a1=>k_is);(case a2=>kernel_rfl)))
  (case q_NoLetter_NoCode=>((refine' K41.cl0_mk ?a1 ?a2);(case a1=>k_is);(case a2=>kernel_rfl)))
  (case q_NoLetter_NoWindow=>((refine' K41.cl0_mk ?a1 ?a2);(case a1=>k_is);(case a2=>kernel_rfl)))
  (case q_NoLetter_NoMark=>((refine' K41.cl0_mk ?a1 ?a2);(case a1=>k_is);(case a2=>kernel_rfl)))
  (case q_NoLetter_NoText=>((refine' K41.cl0_mk ?a1 ?a2);(case a1=>k_is);(case a2=>kernel_rfl)))
  (case q_NoLetter_NoName=>((refine' K41.cl0_mk ?a1 ?a2);(case a1=>k_is);(case a2=>kernel_rfl)))
  (case q_NoLetter_NoRow=>((refine' K41.cl0_mk ?a1 ?a2);(case a1=>k_is);(case a2=>kernel_rfl)))
  (case q_NoLetter_NoWire=>((refine' K41.cl0_mk ?a1 ?a2);(case a1=>k_is);(case a2=>kernel_rfl)))
  (case kv_NoLetter=>kernel_rfl)
  (case h_NoWire=>k_is)
  (case xz_NoWire=>((refine' K41.xcls_mk ?a1 ?a2 ?a3 ?a4 ?a5 ?a6 ?a7 ?a8);(case a1=>k_is);(case a2=>k_is);(case a3=>k_is);(case a4=>kernel_rfl);(case a5=>k_is);(case a6=>k_is);(case a7=>k_is);(case a8=>k_is)))
  (case xm_NoWire=>kernel_rfl)
  (case xn_NoWire=>((refine' K41.nw_mk ?a1 ?a2 ?a3 ?a4 ?a5 ?a6 ?a7 ?a8 ?b1 ?b2 ?b3 ?b4);(case a1=>k_is);(case a2=>k_is);(case a3=>kernel_rfl);(case a4=>k_is);(case a5=>k_is);(case a6=>k_is);(case a7=>kernel_rfl);(case a8=>kernel_rfl);(case b1=>k_is);(case b2=>rfl);(case b3=>k_is);(case b4=>k_is)))
  (case xS_NoWire=>((refine' K41.exnS_mk ?a1 ?a2);(case a1=>k_is);(case a2=>k_is)))
  (case xk_NoWire=>k_is)
  (case q_NoWire_NoLetter=>((refine' K41.cl0_mk ?a1 ?a2);(case a1=>k_is);(case a2=>kernel_rfl)))
  (case q_NoWire_NoCode=>((refine' K41.cl0_mk ?a1 ?a2);(case a1=>k_is);(case a2=>kernel_rfl)))
  (case q_NoWire_NoWindow=>((refine' K41.cl0_mk ?a1 ?a2);(case a1=>k_is);(case a2=>kernel_rfl)))
  (case q_NoWire_NoMark=>((refine' K41.cl0_mk ?a1 ?a2);(case a1=>k_is);(case a2=>kernel_rfl)))
  (case q_NoWire_NoText=>((refine' K41.cl0_mk ?a1 ?a2);(case a1=>k_is);(case a2=>kernel_rfl)))
  (case q_NoWire_NoName=>((refine' K41.cl0_mk ?a1 ?a2);(case a1=>k_is);(case a2=>kernel_rfl)))
  (case q_NoWire_NoRow=>((refine' K41.cl0_mk ?a1 ?a2);(case a1=>k_is);(case a2=>kernel_rfl)))
  (case q_NoWire_NoWire=>((refine' K41.cl0_mk ?a1 ?a2);(case a1=>k_is);(case a2=>kernel_rfl)))
  (case kv_NoWire=>kernel_rfl)
end
end
