import PyProof.Rows.All
import Wide.All
import OpenK.AllK
import Wide.FinOn
import PyProof.EqAt
import PyProof.EqKinds
import PyProof.TupleCall
import Lean
import PyProof.CompFree
import PyProof.IsInstanceH
import PyProof.IsiPairs
import PyProof.ConsumeWalk
import PyProof.IsiNone
import KE.KIntText
import PyProof.Rows.EqDataRows
import PyProof.RangeIter
import PyProof.ZipIter
import PyProof.EnumMake
import PyProof.WalksEnum
import PyProof.Rows.ZipGen
import PyProof.Rows.SortWalk
import KE.KEqDict
import KE.KDictLaws
import PyProof.Rows.SumAny
import PyProof.Rows.FStr
import PyProof.ListRange
import PyProof.DictWalks
import PyProof.DictCopy
import KE.KDictOf
import PyProof.StrLawsIdx
import KE.KTryMore
import PyProof.ExcClass2
import PyProof.ExcInit
import PyProof.InstStoreFacts
import PyProof.ExcBaseAll.ValueError
import PyProof.RulesAs
import PyProof.NsDelKeeps
import OpenK.KRaise
import PyProof.ExcArgs
import PyProof.Rows.StrRev
import PyProof.ListStr
import KE.KRevSl
import KE.KLam
import PyProof.Rows.SetFrom
import PyProof.SetRoads
import KE.KNestM
import PyProof.StrLoop
import PyProof.StrWalks
import PyProof.StrLawsChain
import PyProof.FitsReplace
import PyProof.MeetsStr2
import KE.KRevIter
import PyProof.DictUpdate
import PyProof.AttrMissHeap
import PyProof.Rows.SeqMore2
import PyProof.StrBlock2
import PyProof.TupleKey
import PyProof.TupleIter
import PyProof.StrLawsIn
import PySem.Challenge.RW_ownbeat_k62_texts_of_no_code
set_option Elab.async false
set_option linter.all false
set_option maxRecDepth 100000
set_option maxHeartbeats 4000000
section
namespace KH
open PySem PySem.W
abbrev Pw:Program:=PySem.Challenge.pw_ownbeat_k62_texts_of_no_code
abbrev Rw:OpenLaw:=PySem.Challenge.rw_ownbeat_k62_texts_of_no_code
abbrev tp (i:Nat):Stmt:=Pw.main.body.getD i (.Pass ⟨0,0,0,0⟩)
abbrev cm:Stmt->Nat->Stmt
 | .ClassDef _ _ _ body _ _ _ _ _ _ _,i=>body.getD i (.Pass ⟨0,0,0,0⟩)
 | s,_=>s
abbrev dA (s:Stmt):Arguments:=match s with
 | .FunctionDef _ a _ _ _ _ _ _ _ _=>a
 | _=>{ posonlyargs:=[],args:=[],vararg:=none,kwonlyargs:=[],kw_defaults:=[],kwarg:=none,defaults:=[] }
abbrev dB (s:Stmt):List Stmt:=match s with
 | .FunctionDef _ _ b _ _ _ _ _ _ _=>b
 | _=>[]
abbrev dS (s:Stmt):Scope:=match s with
 | .FunctionDef _ _ _ _ _ _ sc _ _ _=>sc
 | _=>{ kind:=.function,names:=[],isGenerator:=false,isCoroutine:=false }
abbrev en (P:Params) (k:Str) (t:Nat) (v:Value):DictEntry:=⟨PyData.keyHash P k,.str k t,v⟩
abbrev tu (l:List Value):Obj:=⟨.type "tuple",none,.seq l.toArray 0,#[]⟩
abbrev di (l:List DictEntry):Obj:=⟨.type "dict",none,.dict l.toArray 0,#[]⟩
abbrev co (n:Str) (t1:Nat) (q:Str) (t2 t3:Nat) (l c:Int) (a b:Nat) (x y:Value) (z:Nat) (d:Int) (t4:Nat):Obj:=⟨.type "code",none,.fields #[.str n t1,.str q t2,.str "/claim/cut.py" t3,.int l 0,.int c 0,.int 0 0,.int 0 0,.int 3 0,.ref a,.bool true,.int 181 0,.ref b,.none,x,y,.ref z,.int d 0,.int l 0,.str "/claim/cut.py" t4],#[]⟩
abbrev fu (n q:Str) (st:Stmt) (m:Str) (t c:Nat):Obj:=⟨.type "function",none,.func ⟨n,q,dA st,.stmts (dB st),dS st,3,[],.none,.none,.none,.str m t,none,.ref c,.none,0⟩,#[]⟩
abbrev cl (n:Str) (self ns a t1 t2:Nat):Obj:=⟨.type "type",none,.cls ⟨n,[.ref 24],[.ref self,.ref 24,.type "ValueError",.type "Exception",.type "BaseException",.type "object"],ns,n,true,[],[],false,none,false⟩,#[some (.ref a),none,some (.str n t1),some (.str n t2),some (.builtin "ValueError.__new__"),some (.bool true)]⟩
noncomputable def K (P:Params):Frag:=
 (nat_lit 2,⟨.none,none,.dict #[],#[]⟩) ::
 (nat_lit 3,⟨.type "dict",none,.dict #[en P "__name__" 165 (.str "law_ownbeat_k62_texts_of_no_code" 432),en P "__doc__" 166 (.none),en P "__package__" 167 (.none),en P "__loader__" 168 (.builtin "__main__.__loader__#opaque"),en P "__spec__" 169 (.none),en P "__annotations__" 170 (.ref 6),en P "__builtins__" 171 (.ref 4),en P "__file__" 173 (.str "/claim/cut.py" 172),en P "__cached__" 174 (.none),en P "BeatError" 206 (.ref 24),en P "NoLetter" 222 (.ref 37),en P "NoCode" 238 (.ref 49),en P "NoWire" 263 (.ref 68),en P "NoWindow" 279 (.ref 80),en P "NoMark" 295 (.ref 92),en P "NoText" 311 (.ref 104),en P "NoName" 327 (.ref 116),en P "NoRow" 343 (.ref 128),en P "is_whole" 352 (.ref 137),en P "is_code" 360 (.ref 142),en P "is_within" 369 (.ref 149),en P "is_state" 375 (.ref 154),en P "is_row" 384 (.ref 161),en P "is_word" 392 (.ref 168),en P "FIGURES" 396 (.str "0123456789" 395),en P "read_code" 404 (.ref 175),en P "code_of" 410 (.ref 180),en P "state_of" 416 (.ref 185),en P "row_of" 424 (.ref 192),en P "number_of" 431 (.ref 199),en P "_law_cell" 441 (.ref 206),en P "_law_store" 449 (.ref 213),en P "_law_take" 459 (.ref 220),en P "_law_word" 469 (.ref 227),en P "_law_branch" 486 (.ref 234),en P "_law_code" 492 (.ref 239),en P "_law_copy" 498 (.ref 244),en P "_law_rows" 504 (.ref 249),en P "_law_sent" 516 (.ref 256),en P "_law_text_of" 522 (.ref 261),en P "_law_branch_read" 532 (.ref 268),en P "_law_read" 538 (.ref 273),en P "_law_same" 548 (.ref 280),en P "_law_odd" 556 (.ref 287),en P "_law_spoilt" 568 (.ref 294),en P "_law_otherwise" 579 (.ref 301),en P "_law_refused" 588 (.ref 308),en P "law" 601 (.ref 315)] 48,#[]⟩) ::
 (nat_lit 15,tu [.type "ValueError"]) ::
 (nat_lit 22,tu []) ::
 (nat_lit 23,⟨.type "dict",none,.dict #[en P "__module__" 196 (.str "ownbeat.errors" 187),en P "__firstlineno__" 200 (.int 2 199),en P "__static_attributes__" 201 (.ref 22),en P "__weakref__" 203 (.ref 25),en P "__doc__" 204 (.none)] 3,#[]⟩) ::
 (nat_lit 24,⟨.type "type",none,.cls ⟨"BeatError",[.type "ValueError"],[.ref 24,.type "ValueError",.type "Exception",.type "BaseException",.type "object"],23,"BeatError",true,[],[.ref 37,.ref 49,.ref 68,.ref 80,.ref 92,.ref 104,.ref 116,.ref 128],false,none,false⟩,#[some (.ref 15),none,some (.str "BeatError" 189),some (.str "BeatError" 197),some (.builtin "ValueError.__new__"),some (.bool true)]⟩) ::
 (nat_lit 25,⟨.type "getset_descriptor",none,.fields #[.str "__weakref__" 202,.ref 24,.builtin "ExceptionGroup.__weakref__",.none],#[]⟩) ::
 (nat_lit 28,tu [.ref 24]) ::
 (nat_lit 35,tu []) ::
 (nat_lit 36,⟨.type "dict",none,.dict #[en P "__module__" 214 (.str "ownbeat.errors" 187),en P "__firstlineno__" 218 (.int 4 217),en P "__static_attributes__" 219 (.ref 35),en P "__doc__" 220 (.none)] 2,#[]⟩) ::
 (nat_lit 37,cl "NoLetter" 37 36 28 207 215) ::
 (nat_lit 40,tu [.ref 24]) ::
 (nat_lit 47,tu []) ::
 (nat_lit 48,⟨.type "dict",none,.dict #[en P "__module__" 230 (.str "ownbeat.errors" 187),en P "__firstlineno__" 234 (.int 6 233),en P "__static_attributes__" 235 (.ref 47),en P "__doc__" 236 (.none)] 2,#[]⟩) ::
 (nat_lit 49,cl "NoCode" 49 48 40 223 231) ::
 (nat_lit 52,tu [.ref 24]) ::
 (nat_lit 59,tu []) ::
 (nat_lit 61,tu [.str "self" 254,.str "at" 255]) ::
 (nat_lit 62,tu []) ::
 (nat_lit 64,co "__init__" 251 "NoWire.__init__" 252 253 10 2 59 60 (.ref 61) (.ref 62) 63 256 257) ::
 (nat_lit 65,fu "__init__" "NoWire.__init__" (cm (tp 4) 0) "ownbeat.errors" 187 64) ::
 (nat_lit 66,tu [.str "at" 259]) ::
 (nat_lit 67,⟨.type "dict",none,.dict #[en P "__module__" 246 (.str "ownbeat.errors" 187),en P "__firstlineno__" 250 (.int 8 249),en P "__init__" 258 (.ref 65),en P "__static_attributes__" 260 (.ref 66),en P "__doc__" 261 (.none)] 2,#[]⟩) ::
 (nat_lit 68,cl "NoWire" 68 67 52 239 247) ::
 (nat_lit 71,tu [.ref 24]) ::
 (nat_lit 78,tu []) ::
 (nat_lit 79,⟨.type "dict",none,.dict #[en P "__module__" 271 (.str "ownbeat.errors" 187),en P "__firstlineno__" 275 (.int 13 274),en P "__static_attributes__" 276 (.ref 78),en P "__doc__" 277 (.none)] 2,#[]⟩) ::
 (nat_lit 80,cl "NoWindow" 80 79 71 264 272) ::
 (nat_lit 83,tu [.ref 24]) ::
 (nat_lit 90,tu []) ::
 (nat_lit 91,⟨.type "dict",none,.dict #[en P "__module__" 287 (.str "ownbeat.errors" 187),en P "__firstlineno__" 291 (.int 15 290),en P "__static_attributes__" 292 (.ref 90),en P "__doc__" 293 (.none)] 2,#[]⟩) ::
 (nat_lit 92,cl "NoMark" 92 91 83 280 288) ::
 (nat_lit 95,tu [.ref 24]) ::
 (nat_lit 102,tu []) ::
 (nat_lit 103,⟨.type "dict",none,.dict #[en P "__module__" 303 (.str "ownbeat.errors" 187),en P "__firstlineno__" 307 (.int 17 306),en P "__static_attributes__" 308 (.ref 102),en P "__doc__" 309 (.none)] 2,#[]⟩) ::
 (nat_lit 104,cl "NoText" 104 103 95 296 304) ::
 (nat_lit 107,tu [.ref 24]) ::
 (nat_lit 114,tu []) ::
 (nat_lit 115,⟨.type "dict",none,.dict #[en P "__module__" 319 (.str "ownbeat.errors" 187),en P "__firstlineno__" 323 (.int 19 322),en P "__static_attributes__" 324 (.ref 114),en P "__doc__" 325 (.none)] 2,#[]⟩) ::
 (nat_lit 116,cl "NoName" 116 115 107 312 320) ::
 (nat_lit 119,tu [.ref 24]) ::
 (nat_lit 126,tu []) ::
 (nat_lit 127,⟨.type "dict",none,.dict #[en P "__module__" 335 (.str "ownbeat.errors" 187),en P "__firstlineno__" 339 (.int 21 338),en P "__static_attributes__" 340 (.ref 126),en P "__doc__" 341 (.none)] 2,#[]⟩) ::
 (nat_lit 128,cl "NoRow" 128 127 119 328 336) ::
 (nat_lit 131,tu []) ::
 (nat_lit 133,tu [.str "thing" 349]) ::
 (nat_lit 134,tu []) ::
 (nat_lit 136,co "is_whole" 346 "is_whole" 347 348 24 1 131 132 (.ref 133) (.ref 134) 135 350 351) ::
 (nat_lit 137,fu "is_whole" "is_whole" (tp 11) "ownbeat.walks" 344 136) ::
 (nat_lit 138,tu []) ::
 (nat_lit 141,co "is_code" 355 "is_code" 356 357 27 1 138 139 (.none) (.none) 140 358 359) ::
 (nat_lit 142,fu "is_code" "is_code" (tp 13) "ownbeat.codes" 353 141) ::
 (nat_lit 143,tu []) ::
 (nat_lit 145,tu [.str "thing" 364,.str "least" 365,.str "greatest" 366]) ::
 (nat_lit 146,tu []) ::
 (nat_lit 148,co "is_within" 361 "is_within" 362 363 38 3 143 144 (.ref 145) (.ref 146) 147 367 368) ::
 (nat_lit 149,fu "is_within" "is_within" (tp 14) "ownbeat.codes" 353 148) ::
 (nat_lit 150,tu []) ::
 (nat_lit 153,co "is_state" 370 "is_state" 371 372 40 4 150 151 (.none) (.none) 152 373 374) ::
 (nat_lit 154,fu "is_state" "is_state" (tp 15) "ownbeat.codes" 353 153) ::
 (nat_lit 155,tu []) ::
 (nat_lit 157,tu [.str "row" 379,.str "n" 380,.str "count" 381]) ::
 (nat_lit 158,tu []) ::
 (nat_lit 160,co "is_row" 376 "is_row" 377 378 44 3 155 156 (.ref 157) (.ref 158) 159 382 383) ::
 (nat_lit 161,fu "is_row" "is_row" (tp 16) "ownbeat.codes" 353 160) ::
 (nat_lit 162,tu []) ::
 (nat_lit 164,tu [.str "thing" 388,.str "n" 389]) ::
 (nat_lit 165,tu []) ::
 (nat_lit 167,co "is_word" 385 "is_word" 386 387 48 2 162 163 (.ref 164) (.ref 165) 166 390 391) ::
 (nat_lit 168,fu "is_word" "is_word" (tp 17) "ownbeat.codes" 353 167) ::
 (nat_lit 169,tu []) ::
 (nat_lit 171,tu [.str "text" 400,.str "code" 401]) ::
 (nat_lit 172,tu []) ::
 (nat_lit 174,co "read_code" 397 "read_code" 398 399 52 1 169 170 (.ref 171) (.ref 172) 173 402 403) ::
 (nat_lit 175,fu "read_code" "read_code" (tp 20) "ownbeat.texts" 393 174) ::
 (nat_lit 176,tu []) ::
 (nat_lit 179,co "code_of" 405 "code_of" 406 407 59 1 176 177 (.none) (.none) 178 408 409) ::
 (nat_lit 180,fu "code_of" "code_of" (tp 21) "ownbeat.texts" 393 179) ::
 (nat_lit 181,tu []) ::
 (nat_lit 184,co "state_of" 411 "state_of" 412 413 62 1 181 182 (.none) (.none) 183 414 415) ::
 (nat_lit 185,fu "state_of" "state_of" (tp 22) "ownbeat.texts" 393 184) ::
 (nat_lit 186,tu []) ::
 (nat_lit 188,tu [.str "row" 420,.str "pieces" 421]) ::
 (nat_lit 189,tu []) ::
 (nat_lit 191,co "row_of" 417 "row_of" 418 419 64 1 186 187 (.ref 188) (.ref 189) 190 422 423) ::
 (nat_lit 192,fu "row_of" "row_of" (tp 23) "ownbeat.texts" 393 191) ::
 (nat_lit 193,tu []) ::
 (nat_lit 195,tu [.str "part" 428]) ::
 (nat_lit 196,tu []) ::
 (nat_lit 198,co "number_of" 425 "number_of" 426 427 67 1 193 194 (.ref 195) (.ref 196) 197 429 430) ::
 (nat_lit 199,fu "number_of" "number_of" (tp 24) "ownbeat.texts" 393 198) ::
 (nat_lit 200,tu []) ::
 (nat_lit 202,tu [.str "script" 437,.str "k" 438]) ::
 (nat_lit 203,tu []) ::
 (nat_lit 205,co "_law_cell" 434 "_law_cell" 435 436 70 2 200 201 (.ref 202) (.ref 203) 204 439 440) ::
 (nat_lit 206,fu "_law_cell" "_law_cell" (tp 26) "law_ownbeat_k62_texts_of_no_code" 432 205) ::
 (nat_lit 207,tu []) ::
 (nat_lit 209,tu [.str "cell" 445,.str "great" 446]) ::
 (nat_lit 210,tu []) ::
 (nat_lit 212,co "_law_store" 442 "_law_store" 443 444 74 1 207 208 (.ref 209) (.ref 210) 211 447 448) ::
 (nat_lit 213,fu "_law_store" "_law_store" (tp 27) "law_ownbeat_k62_texts_of_no_code" 432 212) ::
 (nat_lit 214,tu []) ::
 (nat_lit 216,tu [.str "store" 453,.str "many" 454,.str "told" 455,.str "one" 456]) ::
 (nat_lit 217,tu []) ::
 (nat_lit 219,co "_law_take" 450 "_law_take" 451 452 79 2 214 215 (.ref 216) (.ref 217) 218 457 458) ::
 (nat_lit 220,fu "_law_take" "_law_take" (tp 28) "law_ownbeat_k62_texts_of_no_code" 432 219) ::
 (nat_lit 221,tu []) ::
 (nat_lit 223,tu [.str "number" 463,.str "n" 464,.str "word" 465,.str "k" 466]) ::
 (nat_lit 224,tu []) ::
 (nat_lit 226,co "_law_word" 460 "_law_word" 461 462 89 2 221 222 (.ref 223) (.ref 224) 225 467 468) ::
 (nat_lit 227,fu "_law_word" "_law_word" (tp 29) "law_ownbeat_k62_texts_of_no_code" 432 226) ::
 (nat_lit 228,tu []) ::
 (nat_lit 230,tu [.str "store" 473,.str "kind" 474,.str "pool" 475,.str "place" 476,.str "letter" 477,.str "sizes" 478,.str "k" 479,.str "n" 480,.str "many" 481,.str "behind" 482,.str "word" 483]) ::
 (nat_lit 231,tu []) ::
 (nat_lit 233,co "_law_branch" 470 "_law_branch" 471 472 95 6 228 229 (.ref 230) (.ref 231) 232 484 485) ::
 (nat_lit 234,fu "_law_branch" "_law_branch" (tp 30) "law_ownbeat_k62_texts_of_no_code" 432 233) ::
 (nat_lit 235,tu []) ::
 (nat_lit 238,co "_law_code" 487 "_law_code" 488 489 108 2 235 236 (.none) (.none) 237 490 491) ::
 (nat_lit 239,fu "_law_code" "_law_code" (tp 31) "law_ownbeat_k62_texts_of_no_code" 432 238) ::
 (nat_lit 257,tu []) ::
 (nat_lit 260,co "_law_text_of" 517 "_law_text_of" 518 519 134 1 257 258 (.none) (.none) 259 520 521) ::
 (nat_lit 261,fu "_law_text_of" "_law_text_of" (tp 35) "law_ownbeat_k62_texts_of_no_code" 432 260) ::
 (nat_lit 262,tu []) ::
 (nat_lit 264,tu [.str "branch" 526,.str "n" 527,.str "many" 528,.str "parts" 529]) ::
 (nat_lit 265,tu []) ::
 (nat_lit 267,co "_law_branch_read" 523 "_law_branch_read" 524 525 139 3 262 263 (.ref 264) (.ref 265) 266 530 531) ::
 (nat_lit 268,fu "_law_branch_read" "_law_branch_read" (tp 36) "law_ownbeat_k62_texts_of_no_code" 432 267) ::
 (nat_lit 269,tu []) ::
 (nat_lit 272,co "_law_read" 533 "_law_read" 534 535 146 1 269 270 (.none) (.none) 271 536 537) ::
 (nat_lit 273,fu "_law_read" "_law_read" (tp 37) "law_ownbeat_k62_texts_of_no_code" 432 272) ::
 (nat_lit 274,tu []) ::
 (nat_lit 276,tu [.str "found" 542,.str "due" 543,.str "one" 544,.str "other" 545]) ::
 (nat_lit 277,tu []) ::
 (nat_lit 279,co "_law_same" 539 "_law_same" 540 541 157 2 274 275 (.ref 276) (.ref 277) 278 546 547) ::
 (nat_lit 280,fu "_law_same" "_law_same" (tp 38) "law_ownbeat_k62_texts_of_no_code" 432 279) ::
 (nat_lit 281,tu []) ::
 (nat_lit 283,tu [.str "at" 552,.str "some" 553]) ::
 (nat_lit 284,tu []) ::
 (nat_lit 286,co "_law_odd" 549 "_law_odd" 550 551 170 1 281 282 (.ref 283) (.ref 284) 285 554 555) ::
 (nat_lit 287,fu "_law_odd" "_law_odd" (tp 39) "law_ownbeat_k62_texts_of_no_code" 432 286) ::
 (nat_lit 288,tu []) ::
 (nat_lit 290,tu [.str "store" 560,.str "text" 561,.str "k" 562,.str "at" 563,.str "sign" 564,.str "way" 565]) ::
 (nat_lit 291,tu []) ::
 (nat_lit 293,co "_law_spoilt" 557 "_law_spoilt" 558 559 178 2 288 289 (.ref 290) (.ref 291) 292 566 567) ::
 (nat_lit 294,fu "_law_spoilt" "_law_spoilt" (tp 40) "law_ownbeat_k62_texts_of_no_code" 432 293) ::
 (nat_lit 295,tu []) ::
 (nat_lit 297,tu [.str "store" 572,.str "text" 573,.str "words" 574,.str "at" 575,.str "way" 576]) ::
 (nat_lit 298,tu []) ::
 (nat_lit 300,co "_law_otherwise" 569 "_law_otherwise" 570 571 185 2 295 296 (.ref 297) (.ref 298) 299 577 578) ::
 (nat_lit 301,fu "_law_otherwise" "_law_otherwise" (tp 41) "law_ownbeat_k62_texts_of_no_code" 432 300) ::
 (nat_lit 302,tu []) ::
 (nat_lit 304,tu [.str "thing" 583,.str "good" 584,.str "e" 585]) ::
 (nat_lit 305,tu []) ::
 (nat_lit 307,co "_law_refused" 580 "_law_refused" 581 582 200 1 302 303 (.ref 304) (.ref 305) 306 586 587) ::
 (nat_lit 308,fu "_law_refused" "_law_refused" (tp 42) "law_ownbeat_k62_texts_of_no_code" 432 307) ::
 (nat_lit 309,tu []) ::
 (nat_lit 311,tu [.str "script" 592,.str "at" 593,.str "store" 594,.str "text" 595,.str "kind" 596,.str "due" 597,.str "things" 598]) ::
 (nat_lit 312,tu []) ::
 (nat_lit 314,co "law" 589 "law" 590 591 209 1 309 310 (.ref 311) (.ref 312) 313 599 600) ::
 (nat_lit 315,fu "law" "law" (tp 43) "law_ownbeat_k62_texts_of_no_code" 432 314) :: []
def V:Program:=view Pw [1,2,3,4,5,6,7,8,9,11,13,14,15,16,17,19,20,21,22,23,24,26,27,28,29,30,31,32,33,34,35,36,37,38,39,40,41,42,43]
noncomputable abbrev hk:Hook:=kHook K [2,3,15,22,23,24,25,28,35,36,37,40,47,48,49,52,59,61,62,64,65,66,67,68,71,78,79,80,83,90,91,92,95,102,103,104,107,114,115,116,119,126,127,128,131,133,134,136,137,138,141,142,143,145,146,148,149,150,153,154,155,157,158,160,161,162,164,165,167,168,169,171,172,174,175,176,179,180,181,184,185,186,188,189,191,192,193,195,196,198,199,200,202,203,205,206,207,209,210,212,213,214,216,217,219,220,221,223,224,226,227,228,230,231,233,234,235,238,239,257,260,261,262,264,265,267,268,269,272,273,274,276,277,279,280,281,283,284,286,287,288,290,291,293,294,295,297,298,300,301,302,304,305,307,308,309,311,312,314,315] (fun _=>by kernel_rfl)
theorem join {α β γ:Type} {o:Option α} {X:α->β×γ} {G:β×γ} (h:o.map (fun s=>(X s).1)=some G.1) (k:o.map (fun s=>(X s).2)=some G.2):o.map X=some G:=by
 cases o with
 | none=>cases h
 | some s=>exact congrArg some (Prod.ext (Option.some.inj h) (Option.some.inj k))
theorem HLb:∀ w,(openEnds treeTable (Rw.row).prog w 5814).map (Hook.obs hk)=some (Hook.val hk w):=by
 intro w
 rw [Fast.te14364793385576792824]
 kernel_rfl
theorem HL1:∀ w,(openEnds treeTable (Rw.row).prog w 5814).map (fun s=>(openSeen V [] (importedModules (Rw.row).prog.main.body) (fun s=>xlAt V [] s && recOk (RowW.records (OpenRow.toRowW Rw.row)) s) true s).1)=some (PyProof.Rows.expectedOf V):=by
 intro w
 rw [Fast.te14364793385576792824,Fast.te4187177175401517315,Fast.te5923862056798008813]
 kernel_rfl
theorem HL2:∀ w,(openEnds treeTable (Rw.row).prog w 5814).map (fun s=>(openSeen V [] (importedModules (Rw.row).prog.main.body) (fun s=>xlAt V [] s && recOk (RowW.records (OpenRow.toRowW Rw.row)) s) true s).2.1)=some (bltViewBooted):=by
 intro w
 rw [Fast.te14364793385576792824,Fast.te4187177175401517315,Fast.te5923862056798008813]
 kernel_rfl
theorem HL3:∀ w,(openEnds treeTable (Rw.row).prog w 5814).map (fun s=>(openSeen V [] (importedModules (Rw.row).prog.main.body) (fun s=>xlAt V [] s && recOk (RowW.records (OpenRow.toRowW Rw.row)) s) true s).2.2.1)=some (true):=by
 intro w
 rw [Fast.te14364793385576792824,Fast.te4187177175401517315,Fast.te5923862056798008813]
 kernel_rfl
theorem HL4:∀ w,(openEnds treeTable (Rw.row).prog w 5814).map (fun s=>(openSeen V [] (importedModules (Rw.row).prog.main.body) (fun s=>xlAt V [] s && recOk (RowW.records (OpenRow.toRowW Rw.row)) s) true s).2.2.2)=some (true,pinGoodD (PyProof.Rows.drecsOf V),PyProof.Rows.plainGoodE V (looseW V []),PyProof.Rows.plainGoodD V [],wideGood V,clsGoodW V []):=by
 intro w
 rw [Fast.te14364793385576792824,Fast.te4187177175401517315,Fast.te5923862056798008813]
 kernel_rfl
theorem HL:LeftO (Rw.row).prog V [] (fun s=>xlAt V [] s && recOk (RowW.records (OpenRow.toRowW Rw.row)) s) (Hook.obs hk) (Hook.val hk) 5814:=fun w=>join (X:=fun s=>(openSeen V [] (importedModules (Rw.row).prog.main.body) (fun s=>xlAt V [] s && recOk (RowW.records (OpenRow.toRowW Rw.row)) s) true s,Hook.obs hk s)) (G:=(openGood V [],Hook.val hk w)) (join (HL1 w) (join (HL2 w) (join (HL3 w) (HL4 w)))) (HLb w)
end KH
noncomputable def PySem.W.Fast.tw4401938184299930155:PySem.Program:=PySem.Challenge.pw_ownbeat_k62_texts_of_no_code
theorem PySem.W.Fast.te4401938184299930155:PySem.Challenge.pw_ownbeat_k62_texts_of_no_code=PySem.W.Fast.tw4401938184299930155:=rfl
noncomputable def PySem.W.Fast.tw4793127515905082670:PySem.W.OpenLaw:=PySem.Challenge.rw_ownbeat_k62_texts_of_no_code
theorem PySem.W.Fast.te4793127515905082670:PySem.Challenge.rw_ownbeat_k62_texts_of_no_code=PySem.W.Fast.tw4793127515905082670:=rfl
noncomputable def PySem.W.Fast.tw5761066807429076752:PySem.Program:=KH.V
theorem PySem.W.Fast.te5761066807429076752:KH.V=PySem.W.Fast.tw5761066807429076752:=rfl
noncomputable def PySem.W.Fast.tw13718576055750932966:PySem.Params->PySem.W.Frag:=KH.K
theorem PySem.W.Fast.te13718576055750932966:KH.K=PySem.W.Fast.tw13718576055750932966:=rfl
noncomputable def PySem.W.Fast.tw770474345414848920:PySem.Program:=KH.Pw
theorem PySem.W.Fast.te770474345414848920:KH.Pw=PySem.W.Fast.tw770474345414848920:=rfl
noncomputable def PySem.W.Fast.tw14237125333626191895:PySem.W.OpenLaw:=KH.Rw
theorem PySem.W.Fast.te14237125333626191895:KH.Rw=PySem.W.Fast.tw14237125333626191895:=rfl
end
set_option compiler.extract_closed false
namespace L2
open PySem PySem.Spec PyProof.Rows
abbrev Key:=Sum Int Str
def keyIs:Key->Value->Bool
 | .inl k,v=>Value.isInt k v
 | .inr x,v=>Value.isStrOf x v
def keyH (w:World):Key->Int
 | .inl k=>hashInt k
 | .inr x=>hashStr w x
theorem keyIs_shape:∀ {k:Key} {v:Value},keyIs k v=true->(∃ i t,k=Sum.inl i/\v=Value.int i t)\/(∃ x t,k=Sum.inr x/\v=Value.str x t)
 | .inl i,v,h=>by
  obtain ⟨t,e⟩:=Value.isInt_shape (k:=i) (v:=v) h
  exact .inl ⟨i,t,rfl,e⟩
 | .inr x,v,h=>by
  obtain ⟨t,e⟩:=Value.isStrOf_shape (x:=x) (v:=v) h
  exact .inr ⟨x,t,rfl,e⟩
theorem key_ll (a b:Int):decide ((Sum.inl a:Key)=Sum.inl b)=(a == b):=by
 by_cases e:a=b
 ·subst e;simp
 ·have h:¬ (Sum.inl a:Key)=Sum.inl b:=fun q=>e (Sum.inl.inj q)
  rw [decide_eq_false h]
  exact (beq_eq_false_iff_ne.mpr e).symm
theorem key_rr (a b:Str):decide ((Sum.inr a:Key)=Sum.inr b)=decide (a=b):=by
 by_cases e:a=b
 ·subst e;simp
 ·have h:¬ (Sum.inr a:Key)=Sum.inr b:=fun q=>e (Sum.inr.inj q)
  rw [decide_eq_false h,decide_eq_false e]
theorem key_lr (a:Int) (b:Str):decide ((Sum.inl a:Key)=Sum.inr b)=false:=decide_eq_false (fun q=>nomatch q)
theorem key_rl (a:Str) (b:Int):decide ((Sum.inr a:Key)=Sum.inl b)=false:=decide_eq_false (fun q=>nomatch q)
def mixKind (prog:Program) (w:World):PySem.KeyKind prog w Key where
 is:=keyIs
 hash:=keyH w
 inj:=fun v a b ha hb=>by
  rcases keyIs_shape ha with ⟨i,t,rfl,rfl⟩ | ⟨x,t,rfl,rfl⟩
  ·rcases keyIs_shape hb with ⟨j,u,rfl,e⟩ | ⟨y,u,rfl,e⟩
   ·injection e with e1 _;rw [e1]
   ·exact nomatch e
  ·rcases keyIs_shape hb with ⟨j,u,rfl,e⟩ | ⟨y,u,rfl,e⟩
   ·exact nomatch e
   ·injection e with e1 _;rw [e1]
 byValue:=fun k v h=>by
  rcases keyIs_shape h with ⟨i,t,rfl,rfl⟩ | ⟨x,t,rfl,rfl⟩<;>rfl
 pyHash:=fun hv h=>by
  rcases keyIs_shape hv with ⟨i,t,rfl,rfl⟩ | ⟨x,t,rfl,rfl⟩
  ·exact wpAny_pyHash_int h
  ·exact wpAny_pyHash_str h
 eqBool:=fun hu hv h=>by
  rcases keyIs_shape hu with ⟨i,t,rfl,rfl⟩ | ⟨x,t,rfl,rfl⟩
  ·rcases keyIs_shape hv with ⟨j,u,rfl,rfl⟩ | ⟨y,u,rfl,rfl⟩
   ·rw [key_ll] at h;exact wpAny_eqBool_int h
   ·rw [key_lr] at h;exact SeqAt.EqAt.int_str i t y u _ _ _ _ h
  ·rcases keyIs_shape hv with ⟨j,u,rfl,rfl⟩ | ⟨y,u,rfl,rfl⟩
   ·rw [key_rl] at h;exact SeqAt.EqAt.str_int x t j u _ _ _ _ h
   ·rw [key_rr] at h;exact wpAny_eqBool_str h
 «strs» := fun k x t v h=>by
  rcases keyIs_shape h with ⟨i,u,rfl,e⟩ | ⟨y,u,rfl,e⟩
  ·exact nomatch e
  ·injection e with e1 _
   subst e1
   cases v<;>rfl
end L2
namespace L2
open PySem PySem.Spec PyProof.Rows
inductive V where
 | non | bl (b:Bool) | int (i:Int) | str (x:Str) | byt (b:Array UInt8) | flt (b:UInt64) | ref (a:Addr) | ty (n:String)
 deriving DecidableEq
def RelV:V->Value->Prop
 | .non,u=>u=Value.none
 | .bl b,u=>u=Value.bool b
 | .int i,u=>∃ t,u=Value.int i t
 | .str x,u=>∃ t,u=Value.str x t
 | .byt b,u=>∃ t,u=Value.bytes b t
 | .flt b,u=>∃ t,u=Value.float b t
 | .ref a,u=>u=Value.ref a
 | .ty n,u=>u=Value.type n
abbrev Vals:List V->List Value->Prop:=Paired RelV
theorem Vals.length {xs:List V} {us:List Value} (r:Vals xs us):xs.length=us.length:=Paired.length r
theorem Vals.get:∀ {xs:List V} {us:List Value} {i:Nat} {x:V},Vals xs us->xs[i]? = some x->∃ u,us[i]? = some u/\RelV x u
 | _,_,_,_,.nil,e=>by simp at e
 | _,_,0,_,.cons r _,e=>by simp at e;subst e;exact ⟨_,rfl,r⟩
 | _,_,i+1,x,.cons _ t,e=>by
  obtain ⟨u,h1,h2⟩:=Vals.get (i:=i) (x:=x) t (by simpa using e)
  exact ⟨u,by simpa using h1,h2⟩
theorem Vals.set {x:V} {u:Value} (r:RelV x u):∀ {xs:List V} {us:List Value} (i:Nat),Vals xs us->Vals (xs.set i x) (us.set i u)
 | _,_,_,.nil=>.nil
 | _,_,0,.cons _ t=>.cons r t
 | _,_,i+1,.cons q t=>.cons q (Vals.set r i t)
theorem Vals.append:∀ {xs ys:List V} {us ws:List Value},Vals xs us->Vals ys ws->Vals (xs++ys) (us++ws)
 | _,_,_,_,.nil,s=>s
 | _,_,_,_,.cons r t,s=>.cons r (Vals.append t s)
theorem Vals.take:∀ {xs:List V} {us:List Value} (n:Nat),Vals xs us->Vals (xs.take n) (us.take n)
 | _,_,0,_=>.nil
 | _,_,_+1,.nil=>.nil
 | _,_,n+1,.cons r t=>.cons r (Vals.take n t)
theorem Vals.drop:∀ {xs:List V} {us:List Value} (n:Nat),Vals xs us->Vals (xs.drop n) (us.drop n)
 | _,_,0,r=>r
 | _,_,_+1,.nil=>.nil
 | _,_,n+1,.cons _ t=>Vals.drop n t
def RelO:Option V->Option Value->Prop
 | some v,some u=>RelV v u
 | none,none=>True
 | _,_=>False
def KV {κ:Type}:List (κ×V)->List (κ×Value)->Prop:=Paired fun (p:κ×V) (q:κ×Value)=>p.1=q.1/\RelV p.2 q.2
def kV:Key->V
 | .inl i=>.int i
 | .inr x=>.str x
inductive HO where
  | lst (xs:List V)
  | tup (xs:List V)
  | dK (kvs:List (Key×V)) | dT (kvs:List (List Key×V))
  | set (S:Int->Bool) (n:Nat)
  | ins (C dx:Addr) (fs:List (Str×V))
  | own (x:Addr)
  | xd (fs:List (Str×V))
  | met (f x:Addr)
  | rng (lo hi:Int)
  | frz (o:Obj) (u:HO)
  | tbl (ps:Array Value)
  | ext (φ:Heap->Prop)
abbrev Hp:=Addr->Option HO
def upd (H:Hp) (a:Addr) (o:HO):Hp:=fun b=>if b=a then some o else H b
theorem upd_same {H:Hp} {a:Addr} {o:HO}:upd H a o a=some o:=by unfold upd;rw [if_pos rfl]
theorem upd_ne {H:Hp} {a b:Addr} {o:HO} (h:b≠a):upd H a o b=H b:=by unfold upd;rw [if_neg h]
theorem upd_upd {H:Hp} {a:Addr} {o u:HO}:upd (upd H a o) a u=upd H a u:=by
 funext b;unfold upd;split<;>rfl
theorem ne_of {H:Hp} {a b:Addr} {o u:HO} (h:H a=some o) (h':H b=some u) (d:o≠u):a≠b:=by
 intro e;subst e;rw [h] at h';exact d (Option.some.inj h')
theorem ne_of_none {H:Hp} {a b:Addr} {o:HO} (h:H a=some o) (h':H b=none):a≠b:=by
 intro e;subst e;rw [h] at h';cases h'
section
variable (P:Program) (w:World)
def ObjOk (H:Hp) (h:Heap) (a:Addr):HO->Prop
 | .lst xs=>xs.length<=sizeLine/\∃ (its:List Value) (n:Nat),Vals xs its/\h.get? a=some { cls:=.type "list",data:=.seq its.toArray n }
 | .tup xs=>xs.length<=sizeLine/\∃ its:List Value,Vals xs its/\IsTup h a its.toArray
 | .dK kvs=>kvs.length<=sizeLine/\(a == sysModules)=false/\∃ vs,KV kvs vs/\h.DictOf (mixKind P w) a vs
 | .dT kvs=>kvs.length<=sizeLine/\(a == sysModules)=false/\∃ xs:List (List Key×Addr×Value),
   Paired (fun (p:List Key×V) (q:List Key×Addr×Value)=>p.1=q.1/\H q.2.1=some (.tup (p.1.map kV))/\RelV p.2 q.2.2) kvs xs ∧
   ∃ o es ep,h.get? a=some o/\o.ExactDict/\o.data = .dict es ep/\es.toList=xs.map (entryOfKey (tupleKind (mixKind P w)))/\(xs.map (·.1)).Nodup
 | .set S n=>h.SetOf (intKind P w) a S n
 | .ins C dx fs=>H dx=some (.own a)/\fs.length<=1000/\dx≠a/\h.get? a=some (PySem.W.instObj C dx) ∧
   ∃ mA,h.Ns1 dx mA/\(∀ f,RelO (fs.lookup f) (mA f))/\PySem.Within mA (fs.map (·.1))
 | .own _=>∃ o,h.get? a=some o
 | .xd fs=>∃ mA,h.Ns1 a mA/\∀ f,RelO (fs.lookup f) (mA f)
 | .rng lo hi=>∃ t u v,h.get? a=some { cls:=.type "range",data:=.fields #[.int lo t,.int hi u,.int 1 v] }
 | .frz o u=>h.get? a=some o/\ObjOk H h a u
 | .tbl ps=>h.get? a=some { cls:=.none,data:=.fields ps }
 | .met f x=>h.get? a=some (PySem.W.methodObj (.ref f) (.ref x))
 | .ext φ=>φ h/\(∃ o,h.get? a=some o)/\∀ h1 h2:Heap,φ h1->(∀ o,h1.get? a=some o->h2.get? a=some o)->φ h2
def HOk (H:Hp) (h:Heap):Prop:=∀ a o,H a=some o->ObjOk P w H h a o
end
section
variable {P:Program} {w:World} {H H':Hp} {h h':Heap} {a:Addr} {o:HO}
theorem ObjOk.lt (x:ObjOk P w H h a o):a < h.objs.size:=by
 cases o with
 | lst xs=>obtain ⟨_,_,_,_,e⟩:=x;exact Heap.lt_size e
 | tup xs=>obtain ⟨_,_,_,p⟩:=x;exact p.lt
 | dK kvs=>obtain ⟨_,_,_,_,o,_,_,e,_⟩:=x;exact Heap.lt_size e
 | dT kvs=>obtain ⟨_,_,_,_,o,_,_,e,_⟩:=x;exact Heap.lt_size e
 | set S n=>obtain ⟨o,_,_,_,e,_⟩:=x;exact Heap.lt_size e
 | ins C dx fs=>obtain ⟨_,_,_,e,_⟩:=x;exact Heap.lt_size e
 | own y=>obtain ⟨_,e⟩:=x;exact Heap.lt_size e
 | xd fs=>obtain ⟨_,⟨_,_,_,e,_⟩,_⟩:=x;exact Heap.lt_size e
 | rng lo hi=>obtain ⟨_,_,_,e⟩:=x;exact Heap.lt_size e
 | frz ob u=>obtain ⟨e,_⟩:=x;exact Heap.lt_size e
 | tbl ps=>exact Heap.lt_size (show h.get? a=some _ from x)
 | met f y=>exact Heap.lt_size (show h.get? a=some _ from x)
 | ext φ=>obtain ⟨_,⟨_,e⟩,_⟩:=x;exact Heap.lt_size e
theorem Paired.mapP {α β:Type} {F G:α->β->Prop}:∀ {l₁:List α} {l₂:List β},Paired F l₁ l₂->(∀ a b,F a b->G a b)->Paired G l₁ l₂
 | _,_,.nil,_=>.nil
 | _,_,.cons r t,f=>.cons (f _ _ r) (Paired.mapP t f)
theorem ObjOk.stay (x:ObjOk P w H h a o) (k:∀ b u,(b=a\/H b=some (.own a))->h.get? b=some u->h'.get? b=some u)
  (ho:∀ b,H b=some (.own a)->H' b=some (.own a)) (ht:∀ b xs,H b=some (.tup xs)->H' b=some (.tup xs)):ObjOk P w H' h' a o:=by
 induction o with
 | lst xs=>obtain ⟨z,its,n,r,e⟩:=x;exact ⟨z,its,n,r,k _ _ (.inl rfl) e⟩
 | tup xs=>obtain ⟨z,its,r,ob,e,c⟩:=x;exact ⟨z,its,r,ob,k _ _ (.inl rfl) e,c⟩
 | dK kvs=>obtain ⟨z,y,vs,r,ob,es,ep,e,c⟩:=x;exact ⟨z,y,vs,r,ob,es,ep,k _ _ (.inl rfl) e,c⟩
 | dT kvs=>
  obtain ⟨z,y,xs,r,ob,es,ep,e,c⟩:=x
  exact ⟨z,y,xs,Paired.mapP r fun p q z=>⟨z.1,ht _ _ z.2.1,z.2.2⟩,ob,es,ep,k _ _ (.inl rfl) e,c⟩
 | set S n=>obtain ⟨ob,es,ep,t,e,c⟩:=x;exact ⟨ob,es,ep,t,k _ _ (.inl rfl) e,c⟩
 | ins C dx fs=>
  obtain ⟨d,z,ne,e,mA,⟨od,es,ep,e2,c⟩,r⟩:=x
  exact ⟨ho _ d,z,ne,k _ _ (.inl rfl) e,mA,⟨od,es,ep,k _ _ (.inr d) e2,c⟩,r⟩
 | own y=>obtain ⟨ob,e⟩:=x;exact ⟨ob,k _ _ (.inl rfl) e⟩
 | xd fs=>obtain ⟨mA,⟨od,es,ep,e,c⟩,r⟩:=x;exact ⟨mA,⟨od,es,ep,k _ _ (.inl rfl) e,c⟩,r⟩
 | rng lo hi=>obtain ⟨t,u,v,e⟩:=x;exact ⟨t,u,v,k _ _ (.inl rfl) e⟩
 | frz ob u ih=>obtain ⟨e,q⟩:=x;exact ⟨k _ _ (.inl rfl) e,ih q⟩
 | tbl ps=>
  have e:h.get? a=some { cls:=.none,data:=.fields ps }:=x
  show h'.get? a=some { cls:=.none,data:=.fields ps }
  exact k a _ (.inl rfl) e
 | met f y=>
  have e:h.get? a=some (PySem.W.methodObj (.ref f) (.ref y)):=x
  show h'.get? a=some (PySem.W.methodObj (.ref f) (.ref y))
  exact k a _ (.inl rfl) e
 | ext φ=>obtain ⟨p,⟨o,e⟩,st⟩:=x;exact ⟨st _ _ p fun o q=>k _ _ (.inl rfl) q,⟨o,k _ _ (.inl rfl) e⟩,st⟩
theorem HOk.lt (x:HOk P w H h) (e:H a=some o):a < h.objs.size:=(x a o e).lt
theorem HOk.fresh (x:HOk P w H h) (e:h.objs.size<=a):H a=none:=by
 cases q:H a with
 | none=>rfl
 | some u=>exact absurd (Nat.lt_of_lt_of_le (x.lt q) e) (Nat.lt_irrefl _)
theorem HOk.kept (x:HOk P w H h) (k:∀ b u,h.get? b=some u->h'.get? b=some u):HOk P w H h':=fun a o e=>
 (x a o e).stay (fun b u _ q=>k b u q) (fun _ q=>q) fun _ _ q=>q
theorem HOk.laid (x:HOk P w H h) (k:∀ b u,h.get? b=some u->h'.get? b=some u) (hp:h.objs.size<=a) (new:ObjOk P w (upd H a o) h' a o):HOk P w (upd H a o) h':=fun b u e=>by
 have hn:=x.fresh hp
 by_cases hb:b=a
 ·subst hb;rw [upd_same] at e;cases e;exact new
 ·rw [upd_ne hb] at e
  exact (x b u e).stay (fun c v _ q=>k c v q) (fun c q=>by rw [upd_ne (ne_of_none q hn)];exact q) fun c xs q=>by rw [upd_ne (ne_of_none q hn)];exact q
end
def Rd (H:Hp) (a:Addr) (u:HO):Prop:=H a=some u\/∃ o,H a=some (.frz o u)
theorem Rd.of {H:Hp} {a:Addr} {u:HO} (h:H a=some u):Rd H a u:=.inl h
theorem Rd.ok {P:Program} {w:World} {H:Hp} {h:Heap} {a:Addr} {u:HO} (r:Rd H a u) (x:HOk P w H h):ObjOk P w H h a u:=by
 rcases r with r | ⟨o,r⟩
 ·exact x a u r
 ·obtain ⟨_,q⟩:=x a _ r
  exact q
def Mut:Option HO->Prop
 | some (.lst _)=>True
 | some (.dK _)=>True
 | some (.dT _)=>True
 | some (.set _ _)=>True
 | some (.ins _ _ _)=>True
 | some (.ext _)=>True
 | _=>False
section
variable {P:Program} {w:World} {H:Hp} {h h':Heap} {x e:Addr} {o':HO}
theorem HOk.write (ok:HOk P w H h) (mu:Mut (H x)) (he:e=x\/H e=some (.own x)) (k:∀ b u,b≠e->h.get? b=some u->h'.get? b=some u) (heo:∃ u,h'.get? e=some u)
  (new:ObjOk P w (upd H x o') h' x o'):HOk P w (upd H x o') h':=fun b u q=>by
 have nown:∀ c y,H c=some (.own y)->c≠x:=fun c y r z=>by subst z;rw [r] at mu;exact mu
 have ntup:∀ c xs,H c=some (.tup xs)->c≠x:=fun c xs r z=>by subst z;rw [r] at mu;exact mu
 by_cases hb:b=x
 ·subst hb;rw [upd_same] at q;cases q;exact new
 ·rw [upd_ne hb] at q
  by_cases hbe:b=e
  ·have q':H b=some (.own x):=by
    rcases he with z | z
    ·exact absurd (hbe.trans z) hb
    ·rw [hbe];exact z
   rw [q] at q';cases q'
   obtain ⟨v,hv⟩:=heo
   exact ⟨v,by rw [hbe];exact hv⟩
  ·refine (ok b u q).stay (fun c v hc r=>k c v ?_ r) (fun c r=>by rw [upd_ne (nown c b r)];exact r) fun c xs r=>by rw [upd_ne (ntup c xs r)];exact r
   rcases hc with rfl | hc
   ·exact hbe
   ·rintro rfl
    rcases he with z | z
    ·exact nown c b hc z
    ·rw [hc] at z;cases z;exact hb rfl
end
structure Un (fs ex:List Addr) (H H':Hp) (h h':Heap):Prop where
 keep:∀ b o,h.get? b=some o->H b=none->b ∉ fs->b ∉ ex->h'.get? b=some o
 slot:∀ b o,h.get? b=some o->H b=none->b∈fs->b ∉ ex->∃ sl,h'.get? b=some { o with slots:=sl }
 free:∀ b o,h.get? b=some o->H b=none->b ∉ ex->H' b=none
 there:∀ b o,h.get? b=some o->b ∉ ex->∃ o',h'.get? b=some o'
 tups:∀ b xs,H b=some (.tup xs)->H' b=some (.tup xs)
 frzs:∀ b o u,H b=some (.frz o u)->H' b=some (.frz o u)
 tbls:∀ b ps,H b=some (.tbl ps)->∃ more,H' b=some (.tbl (ps++more))
section
variable {fs fs' ex ex':List Addr} {H H1 H2:Hp} {h h1 h2 h':Heap} {a x e:Addr} {o:HO}
theorem Un.any (u:Un fs ex H H1 h h1) {b:Addr} {ob:Obj} (q:h.get? b=some ob) (n:H b=none) (hx:b ∉ ex):∃ sl,h1.get? b=some { ob with slots:=sl }:=by
 by_cases hb:b∈fs
 ·exact u.slot b ob q n hb hx
 ·exact ⟨ob.slots,u.keep b ob q n hb hx⟩
theorem Un.trans (a:Un fs ex H H1 h h1) (b:Un fs ex H1 H2 h1 h2):Un fs ex H H2 h h2 where
 keep:=fun c ob q n hc hx=>b.keep c ob (a.keep c ob q n hc hx) (a.free c ob q n hx) hc hx
 slot:=fun c ob q n hc hx=>by
  obtain ⟨sl,e1⟩:=a.slot c ob q n hc hx
  obtain ⟨sl',e2⟩:=b.slot c _ e1 (a.free c ob q n hx) hc hx
  exact ⟨sl',e2⟩
 free:=fun c ob q n hx=>by
  obtain ⟨o',e1⟩:=a.there c ob q hx
  exact b.free c o' e1 (a.free c ob q n hx) hx
 there:=fun c ob q hx=>by
  obtain ⟨o',e1⟩:=a.there c ob q hx
  exact b.there c o' e1 hx
 tups:=fun c xs q=>b.tups c xs (a.tups c xs q)
 frzs:=fun c ob xs q=>b.frzs c ob xs (a.frzs c ob xs q)
 tbls:=fun c ps q=>by
  obtain ⟨m1,e1⟩:=a.tbls c ps q
  obtain ⟨m2,e2⟩:=b.tbls c _ e1
  exact ⟨m1++m2,by rw [e2,Array.append_assoc]⟩
theorem Un.kept (k:∀ b u,h.get? b=some u->h'.get? b=some u):Un fs ex H H h h':=
 ⟨fun b ob q _ _ _=>k b ob q,fun b ob q _ _ _=>⟨ob.slots,k b ob q⟩,fun _ _ _ n _=>n,fun b ob q _=>⟨ob,k b ob q⟩,fun _ _ q=>q,fun _ _ _ q=>q,fun _ ps q=>⟨#[],by rw [q];simp⟩⟩
theorem Un.refl:Un fs ex H H h h:=Un.kept fun _ _ q=>q
theorem Un.laid (k:∀ b u,h.get? b=some u->h'.get? b=some u) (hp:h.objs.size<=a) (hn:H a=none):Un fs ex H (upd H a o) h h' where
 keep:=fun b u q _ _ _=>k b u q
 slot:=fun b u q _ _ _=>⟨u.slots,k b u q⟩
 free:=fun b u q n _=>by rw [upd_ne (Nat.ne_of_lt (Nat.lt_of_lt_of_le (Heap.lt_size q) hp))];exact n
 there:=fun b u q _=>⟨u,k b u q⟩
 tups:=fun b xs q=>by rw [upd_ne (ne_of_none q hn)];exact q
 frzs:=fun b u xs q=>by rw [upd_ne (ne_of_none q hn)];exact q
 tbls:=fun b ps q=>⟨#[],by rw [upd_ne (ne_of_none q hn),q];simp⟩
theorem Un.write (mu:Mut (H x)) (he:e=x\/H e=some (.own x)) (k:∀ b u,b≠e->h.get? b=some u->h'.get? b=some u) (heo:∃ u,h'.get? e=some u):Un fs ex H (upd H x o) h h':=by
 have hx:∀ b,H b=none->b≠x:=fun b n z=>by subst z;rw [n] at mu;exact mu
 have hb:∀ b,H b=none->b≠e:=fun b n z=>by
  subst z
  rcases he with r | r
  ·exact hx b n r
  ·rw [n] at r;cases r
 have hm:∀ b u,H b=some u->¬ Mut (some u)->b≠x:=fun b u q nm z=>by subst z;rw [q] at mu;exact nm mu
 refine ⟨fun b u q n _ _=>k b u (hb b n) q,fun b u q n _ _=>⟨u.slots,k b u (hb b n) q⟩,fun b u q n _=>by rw [upd_ne (hx b n)];exact n,fun b u q _=>?_,
  fun b xs q=>by rw [upd_ne (hm b _ q fun z=>z)];exact q,fun b u xs q=>by rw [upd_ne (hm b _ q fun z=>z)];exact q,fun b ps q=>⟨#[],by rw [upd_ne (hm b _ q fun z=>z),q];simp⟩⟩
 by_cases hbe:b=e
 ·subst hbe;exact heo
 ·exact ⟨u,k b u hbe q⟩
theorem Un.mono (u:Un fs ex H H1 h h1) (hs:∀ b∈fs,b∈fs') (hx:∀ b∈ex,b∈ex'):Un fs' ex' H H1 h h1:=
 ⟨fun b ob q n hb he=>u.keep b ob q n (fun z=>hb (hs b z)) fun z=>he (hx b z),fun _ _ q n _ he=>u.any q n fun z=>he (hx _ z),fun b ob q n he=>u.free b ob q n fun z=>he (hx b z),fun b ob q he=>u.there b ob q fun z=>he (hx b z),u.tups,u.frzs,u.tbls⟩
end
def trk (h:Heap) (H:Hp):List Addr:=(List.range h.objs.size).filter fun a=>(H a).isSome
def hidT (h:Heap) (H:Hp):Heap:=PySem.W.hideAll h (trk h H)
theorem hidT_size (h:Heap) (H:Hp):(hidT h H).objs.size=h.objs.size:=PySem.W.hideAll_size _ _
theorem hidT_get {h:Heap} {H:Hp} {b:Addr} {o:Obj} (e:h.get? b=some o) (n:H b=none):(hidT h H).get? b=some o:=
 PySem.W.hideAll_get _ e fun hm=>by
  have q:(H b).isSome=true:=(List.mem_filter.mp hm).2
  rw [n] at q;simp at q
theorem of_hidT {h:Heap} {H:Hp} {b:Addr} {o:Obj} (e:(hidT h H).get? b=some o):h.get? b=some o/\H b=none:=by
 have e':h.get? b=some o:=PySem.W.of_hideAll (trk h H) e
 refine ⟨e',?_⟩
 cases q:H b with
 | none=>rfl
 | some x=>
  have hm:b∈trk h H:=List.mem_filter.mpr ⟨List.mem_range.mpr (Heap.lt_size e'),by simp [q]⟩
  have z:(hidT h H).get? b=none:=PySem.W.hideAll_none (trk h H) hm
  rw [z] at e;cases e
def allNews (g h:Heap) (L:Addr):List (Addr×Obj):=(List.range h.objs.size).filterMap fun a=>if a=L\/(g.get? a).isSome=true then none else (h.get? a).map fun o=>(a,o)
def rest (g h:Heap) (L d:Addr):List (Addr×Obj):=(allNews g h L).filter fun p=>decide (p.1≠d)
end L2
namespace L2
open PySem PySem.Spec PyProof.Rows
structure Mod (K:PySem.W.Frag) (mg:Str->Option Value) (base:Heap):Prop where
 kin:K.In base
 glob:base.Ns mainGlobals mg
 blt:∃ mb,base.Ns builtinsNs mb/\∀ x:Str,x≠"__name__"->mb x=bootBuiltins x
 nolimit:base.NoLimit
structure Cx where
 prog:Program
 w:World
 K:PySem.W.Frag
 mg:Str->Option Value
 base:Heap
 A:Around
 N:List Str
 s₀:Shared
 H₀:Hp
 env:Env
 outer:List Env
 stack:List Env
 ex:List Addr
 fn:Str->Bool
 calm:Bool
 pn:List (Addr×Obj)
 xe:Value->Shared->Prop
def frs (l:List Env):List Addr:=l.filterMap (·.frame)
abbrev Cx.fs (X:Cx):List Addr:=frs X.outer
def Vis (sc:Scope) (x:Str):Prop:=sc.names.lookup x=some .local\/sc.names.lookup x=some .cell\/sc.names.lookup x=some .free
def Loc (sc:Scope) (x:Str):Prop:=sc.names.lookup x=some .local\/sc.names.lookup x=some .cell
def Look (env:Env) (h:Heap) (m:Str->Option Value) (x:Str) (u:Value):Prop:=
 (env.kindOf x=some .local/\m x=some u)\/((env.kindOf x=some .cell\/env.kindOf x=some .free)/\∃ c,env.cells.lookup x=some c/\h.IsCell c (some u))
structure Cx.Ok (X:Cx):Prop where
 mod:Mod X.K X.mg X.base
 kind:X.env.scope.kind = .function
 glob:X.env.globals=mainGlobals
 blt:X.env.builtins=builtinsNs
 above:X.s₀.heap.objs.size<=X.env.locals
 inj:∀ x y c,X.env.cells.lookup x=some c->X.env.cells.lookup y=some c->x=y
 has:∀ x,(X.env.kindOf x=some .cell\/X.env.kindOf x=some .free)->∃ c,X.env.cells.lookup x=some c
 cab:∀ x c,X.fn x=true->X.env.cells.lookup x=some c->X.s₀.heap.objs.size<=c
 hd:X.calm=true->X.A.handled=none
 frames:X.A.frames=some X.stack
 stk:X.stack=X.outer\/(X.stack=X.env :: X.outer/\X.env.frame=some X.env.locals)
 exf:∀ b∈X.ex,b≠X.env.locals/\∀ x c,X.env.cells.lookup x=some c->c≠b
 bs:∀ b o,X.base.get? b=some o->X.s₀.heap.get? b=some o/\X.H₀ b=none
 bsz:X.base.objs.size<=X.s₀.heap.objs.size
 noex:∀ b o,X.base.get? b=some o->b ∉ X.ex
 exfs:∀ b∈X.ex,b ∉ X.fs
 funs:X.s₀.heap.FunFrames X.base X.outer
 frf:∀ b∈X.fs,X.H₀ b=none
structure Inv (X:Cx) (pins:List (Addr×Obj)) (σ:List (Option V)) (H:Hp) (s:Shared):Prop where
 ok:X.Ok
 os:s.os=X.s₀.os
 bare:AllBare s.gens
 base:Un X.fs X.ex X.H₀ H X.s₀.heap s.heap
 loc:∃ m,s.heap.Ns X.env.locals m/\∀ (i:Nat) (x:Str) (v:V),X.N[i]? = some x->σ[i]? = some (some v)->Vis X.env.scope x->∃ u,RelV v u/\Look X.env s.heap m x u
 cell:∀ x c,X.env.cells.lookup x=some c->∃ v,s.heap.IsCell c v
 free:H X.env.locals=none
 freeC:∀ x c,X.env.cells.lookup x=some c->H c=none
 pin:∀ p∈X.pn++pins,s.heap.get? p.1=some p.2/\H p.1=none/\p.1≠X.env.locals/\p.1 ∉ X.fs/\∀ v,p.2.data≠.cell v
 hok:HOk X.prog X.w H s.heap
 len:σ.length=X.N.length
section
variable {X:Cx} {pins:List (Addr×Obj)} {σ:List (Option V)} {H H':Hp} {s:Shared} {h':Heap}
theorem Cx.Ok.nofr (ok:X.Ok) {b:Addr} {o:Obj} (e:X.base.get? b=some o):b ∉ X.fs:=fun hb=>by
 have:=(ok.funs.mem hb).1
 rw [e] at this;cases this
theorem Inv.bs (I:Inv X pins σ H s):∀ b o,X.base.get? b=some o->s.heap.get? b=some o/\H b=none:=fun b o e=>
 ⟨I.base.keep b o (I.ok.bs b o e).1 (I.ok.bs b o e).2 (I.ok.nofr e) (I.ok.noex b o e),I.base.free b o (I.ok.bs b o e).1 (I.ok.bs b o e).2 (I.ok.noex b o e)⟩
theorem Inv.bk (I:Inv X pins σ H s):∀ b o,X.base.get? b=some o->s.heap.get? b=some o:=fun b o e=>(I.bs b o e).1
theorem Inv.mod (I:Inv X pins σ H s):Mod X.K X.mg X.base:=I.ok.mod
theorem Inv.kIn (I:Inv X pins σ H s):X.K.In s.heap:=I.ok.mod.kin.keeps I.bk
theorem Inv.nolimit (I:Inv X pins σ H s):s.heap.NoLimit:=I.ok.mod.nolimit.keeps I.bk
theorem Inv.fr (I:Inv X pins σ H s):∃ m,Fr X.base X.env.locals s.heap m:=
 let ⟨m,hn,_⟩:=I.loc
 ⟨m,hn,I.bk,Nat.le_trans I.ok.bsz I.ok.above⟩
theorem Inv.lt (I:Inv X pins σ H s):X.env.locals < s.heap.objs.size:=let ⟨_,hn,_⟩:=I.loc;hn.lt
theorem Inv.sz (I:Inv X pins σ H s):X.s₀.heap.objs.size<=s.heap.objs.size:=Nat.le_trans I.ok.above (Nat.le_of_lt I.lt)
theorem Inv.nofs (I:Inv X pins σ H s) {a:Addr} (h:s.heap.objs.size<=a):a ∉ X.fs:=fun hb=>by
 obtain ⟨_,o,ho,_⟩:=I.ok.funs.mem hb
 exact absurd (Nat.lt_of_lt_of_le (Heap.lt_size ho) (Nat.le_trans I.sz h)) (Nat.lt_irrefl _)
theorem Inv.cne (I:Inv X pins σ H s):∀ x c,X.env.cells.lookup x=some c->c≠X.env.locals:=fun x c e z=>by
 obtain ⟨v,o,ho,hd⟩:=I.cell x c e
 obtain ⟨m,⟨o',es,ep,ho',hd',_⟩,_⟩:=I.loc
 rw [z,ho'] at ho;cases ho;rw [hd'] at hd;cases hd
theorem Inv.funs (I:Inv X pins σ H s):s.heap.FunFrames X.base X.outer:=by
 have all:∀ (l:List Env),(∀ b∈frs l,b∈X.fs)->X.s₀.heap.FunFrames X.base l->s.heap.FunFrames X.base l:=by
  intro l
  induction l with
  | nil=>intro _ _;trivial
  | cons env r ih=>
   intro hs hl
   obtain ⟨hk,⟨L,o,hf,hn,ho,hd⟩,hr⟩:=hl
   have hL:L∈X.fs:=hs L (by unfold frs;rw [List.filterMap_cons,hf];exact List.mem_cons_self)
   obtain ⟨sl,e⟩:=I.base.slot L o ho (I.ok.frf L hL) hL fun z=>I.ok.exfs L z hL
   exact ⟨hk,⟨L,_,hf,hn,e,hd⟩,ih (fun b hb=>hs b (by unfold frs;rw [List.filterMap_cons,hf];exact List.mem_cons_of_mem _ hb)) hr⟩
 exact all X.outer (fun _ hb=>hb) I.ok.funs
theorem Inv.stack (I:Inv X pins σ H s):s.heap.FunFrames X.base X.stack:=by
 rcases I.ok.stk with e | ⟨e,hf⟩
 ·rw [e];exact I.funs
 ·rw [e]
  obtain ⟨m,hn,_⟩:=I.loc
  refine .cons (by rw [I.ok.kind];decide) hf hn ?_ I.funs
  exact Heap.get?_none_of_le (Nat.le_trans I.ok.bsz I.ok.above)
theorem Inv.stkSub (I:Inv X pins σ H s):∀ b∈frs X.stack,b∈X.env.locals :: X.fs:=fun b hb=>by
 rcases I.ok.stk with e | ⟨e,hf⟩
 ·rw [e] at hb;exact List.mem_cons_of_mem _ hb
 ·rw [e] at hb
  unfold frs at hb
  rw [List.filterMap_cons,hf] at hb
  exact hb
theorem Inv.stkFree (I:Inv X pins σ H s):∀ b∈frs X.stack,H b=none:=fun b hb=>by
 rcases List.mem_cons.mp (I.stkSub b hb) with e | hb
 ·rw [e];exact I.free
 ·obtain ⟨_,o,ho,_⟩:=I.ok.funs.mem hb
  exact I.base.free b o ho (I.ok.frf b hb) fun z=>I.ok.exfs b z hb
theorem Inv.step {g':Array GenState} {t':Nat} {d':Drawn} {ch:List Addr} (I:Inv X pins σ H s)
  (hch:∀ b∈ch,(b∈X.ex\/X.s₀.heap.objs.size<=b)/\b≠X.env.locals/\(∀ x c,X.env.cells.lookup x=some c->c≠b)/\∀ p∈X.pn++pins,p.1≠b)
  (keep:∀ b o,b≠X.env.locals->b ∉ X.fs->b ∉ ch->s.heap.get? b=some o->H b=none->h'.get? b=some o)
  (slot:∀ b o,b≠X.env.locals->b∈X.fs->b ∉ ch->s.heap.get? b=some o->H b=none->∃ sl,h'.get? b=some { o with slots:=sl }) (free:∀ b o,b ∉ ch->s.heap.get? b=some o->H b=none->H' b=none)
  (there:∀ b o,b ∉ ch->s.heap.get? b=some o->∃ o',h'.get? b=some o')
  (tups:∀ b xs,H b=some (.tup xs)->H' b=some (.tup xs)) (frzs:∀ b o u,H b=some (.frz o u)->H' b=some (.frz o u)) (tbls:∀ b ps,H b=some (.tbl ps)->∃ more,H' b=some (.tbl (ps++more)))
  (ns:∀ m,s.heap.Ns X.env.locals m->h'.Ns X.env.locals m) (hok:HOk X.prog X.w H' h') (hg:AllBare g') :
  Inv X pins σ H' { s with heap:=h',gens:=g',drawn:=d',toks:=t' }:=by
 have neL:∀ b o,X.s₀.heap.get? b=some o->b≠X.env.locals:=fun b o e=>Nat.ne_of_lt (Nat.lt_of_lt_of_le (Heap.lt_size e) I.ok.above)
 have neC:∀ b o,X.s₀.heap.get? b=some o->b ∉ X.ex->b ∉ ch:=fun b o e hx hb=>by
  rcases (hch b hb).1 with z | z
  ·exact hx z
  ·exact absurd (Nat.lt_of_lt_of_le (Heap.lt_size e) z) (Nat.lt_irrefl _)
 have cellK:∀ x c,X.env.cells.lookup x=some c->∀ v,s.heap.IsCell c v->h'.IsCell c v:=fun x c e v ⟨o,ho,hd⟩=>by
  have nch:c ∉ ch:=fun z=>(hch c z).2.2.1 x c e rfl
  by_cases hc:c∈X.fs
  ·obtain ⟨sl,q⟩:=slot c o (I.cne x c e) hc nch ho (I.freeC x c e)
   exact ⟨_,q,hd⟩
  ·exact ⟨o,keep c o (I.cne x c e) hc nch ho (I.freeC x c e),hd⟩
 refine ⟨I.ok,I.os,hg,⟨fun b o e n hb hx=>?_,fun b o e n hb hx=>?_,fun b o e n hx=>?_,fun b o e hx=>?_,fun b xs e=>tups b xs (I.base.tups b xs e),fun b o xs e=>frzs b o xs (I.base.frzs b o xs e),fun b ps e=>?_⟩,?_,fun x c e=>?_,?_,fun x c e=>?_,fun p hp=>?_,hok,I.len⟩
 ·exact keep b o (neL b o e) hb (neC b o e hx) (I.base.keep b o e n hb hx) (I.base.free b o e n hx)
 ·obtain ⟨sl,e1⟩:=I.base.slot b o e n hb hx
  obtain ⟨sl',e2⟩:=slot b _ (neL b o e) hb (neC b o e hx) e1 (I.base.free b o e n hx)
  exact ⟨sl',e2⟩
 ·obtain ⟨o',e1⟩:=I.base.there b o e hx
  exact free b o' (neC b o e hx) e1 (I.base.free b o e n hx)
 ·obtain ⟨o',e1⟩:=I.base.there b o e hx
  exact there b o' (neC b o e hx) e1
 ·obtain ⟨m1,e1⟩:=I.base.tbls b ps e
  obtain ⟨m2,e2⟩:=tbls b _ e1
  exact ⟨m1++m2,by rw [e2,Array.append_assoc]⟩
 ·obtain ⟨m,hn,hl⟩:=I.loc
  refine ⟨m,ns m hn,fun i x v e1 e2 e3=>?_⟩
  obtain ⟨u,r,l⟩:=hl i x v e1 e2 e3
  refine ⟨u,r,?_⟩
  rcases l with l | ⟨k,c,e,z⟩
  ·exact .inl l
  ·exact .inr ⟨k,c,e,cellK x c e _ z⟩
 ·obtain ⟨v,z⟩:=I.cell x c e
  exact ⟨v,cellK x c e v z⟩
 ·obtain ⟨m,⟨o,_,_,ho,_⟩,_⟩:=I.loc
  exact free _ o (fun z=>(hch _ z).2.1 rfl) ho I.free
 ·obtain ⟨v,o,ho,hd⟩:=I.cell x c e
  exact free c o (fun z=>(hch c z).2.2.1 x c e rfl) ho (I.freeC x c e)
 ·obtain ⟨e,n,ne,nf,d⟩:=I.pin p hp
  have nch:p.1 ∉ ch:=fun z=>(hch p.1 z).2.2.2 p hp rfl
  exact ⟨keep p.1 p.2 ne nf nch e n,free p.1 p.2 nch e n,ne,nf,d⟩
theorem Inv.un {t':Nat} (I:Inv X pins σ H s) (u:Un X.fs [] H H' s.heap h') (hok:HOk X.prog X.w H' h'):Inv X pins σ H' { s with heap:=h',toks:=t' }:=by
 obtain ⟨m,⟨o,es,ep,ho,r⟩,_⟩:=id I.loc
 obtain ⟨sl,hL⟩:=u.any ho I.free (by simp)
 exact I.step (g':=s.gens) (d':=s.drawn) (ch:=[]) (fun _ z=>nomatch z) (fun b o _ hb _ e n=>u.keep b o e n hb (by simp)) (fun b o _ hb _ e n=>u.slot b o e n hb (by simp)) (fun b o _ e n=>u.free b o e n (by simp)) (fun b o _ e=>u.there b o e (by simp)) u.tups u.frzs u.tbls (fun m' hm=>by
  obtain ⟨o',es',ep',ho',r'⟩:=hm
  rw [ho] at ho';cases ho'
  exact ⟨_,es',ep',hL,r'⟩) hok I.bare
theorem Inv.call {g':Array GenState} {t':Nat} {d':Drawn} {ch:List Addr} (I:Inv X pins σ H s) (u:Un (frs X.stack) ch H H' s.heap h') (hok:HOk X.prog X.w H' h') (hg:AllBare g')
  (hch:∀ b∈ch,(b∈X.ex\/X.s₀.heap.objs.size<=b)/\b≠X.env.locals/\(∀ x c,X.env.cells.lookup x=some c->c≠b)/\∀ p∈X.pn++pins,p.1≠b) :
  Inv X pins σ H' { s with heap:=h',gens:=g',drawn:=d',toks:=t' }:=by
 obtain ⟨m,⟨o,es,ep,ho,r⟩,_⟩:=id I.loc
 obtain ⟨sl,hL⟩:=u.any ho I.free fun z=>(hch _ z).2.1 rfl
 exact I.step (ch:=ch) hch (fun b o hL hb hc e n=>u.keep b o e n (fun z=>(List.mem_cons.mp (I.stkSub b z)).elim hL hb) hc) (fun b o _ _ hc e n=>u.any e n hc) (fun b o hc e n=>u.free b o e n hc) (fun b o hc e=>u.there b o e hc) u.tups u.frzs u.tbls (fun m' hm=>by
  obtain ⟨o',es',ep',ho',r'⟩:=hm
  rw [ho] at ho';cases ho'
  exact ⟨_,es',ep',hL,r'⟩) hok hg
theorem Inv.turned {t':Nat} {it:Addr} (I:Inv X pins σ H s) (k:∀ b o,b≠it->s.heap.get? b=some o->h'.get? b=some o) (hn:H it=none) (hL:it≠X.env.locals)
  (h1:it∈X.ex\/X.s₀.heap.objs.size<=it) (h2:∀ x c,X.env.cells.lookup x=some c->c≠it) (h3:∀ p∈X.pn++pins,p.1≠it):Inv X pins σ H { s with heap:=h',toks:=t' }:=by
 have nit:∀ b u,H b=some u->b≠it:=fun b u e z=>by rw [z,hn] at e;cases e
 refine I.step (g':=s.gens) (d':=s.drawn) (ch:=[it]) (fun b hb=>?_) (fun b o _ _ hc e _=>k b o (fun z=>hc (by simp [z])) e) (fun b o _ _ hc e _=>⟨o.slots,k b o (fun z=>hc (by simp [z])) e⟩) (fun _ _ _ _ n=>n)
  (fun b o hc e=>⟨o,k b o (fun z=>hc (by simp [z])) e⟩) (fun _ _ e=>e) (fun _ _ _ e=>e) (fun b ps e=>⟨#[],by rw [e];simp⟩) (fun m hm=>?_) (fun b u e=>?_) I.bare
 ·have e:b=it:=by simpa using hb
  subst e
  exact ⟨h1,hL,h2,h3⟩
 ·obtain ⟨o,es,ep,ho,r⟩:=hm
  exact ⟨o,es,ep,k _ o (Ne.symm hL) ho,r⟩
 ·refine (I.hok b u e).stay (fun c v hc q=>k c v ?_ q) (fun _ q=>q) fun _ _ q=>q
  rcases hc with z | z
  ·rw [z];exact nit b u e
  ·exact nit c _ z
theorem Inv.tok (I:Inv X pins σ H s) (t:Nat):Inv X pins σ H { s with toks:=t }:=I.un (h':=s.heap) (t':=t) Un.refl I.hok
theorem Inv.kept {t':Nat} (I:Inv X pins σ H s) (k:∀ b u,s.heap.get? b=some u->h'.get? b=some u):Inv X pins σ H { s with heap:=h',toks:=t' }:=I.un (Un.kept k) (I.hok.kept k)
theorem Inv.laid {a:Addr} {o:HO} {t':Nat} (I:Inv X pins σ H s) (k:∀ b u,s.heap.get? b=some u->h'.get? b=some u) (hp:s.heap.objs.size<=a) (new:ObjOk X.prog X.w (upd H a o) h' a o) :
  Inv X pins σ (upd H a o) { s with heap:=h',toks:=t' }:=I.un (Un.laid k hp (I.hok.fresh hp)) (I.hok.laid k hp new)
theorem Inv.write {x e:Addr} {o:HO} {t':Nat} (I:Inv X pins σ H s) (mu:Mut (H x)) (he:e=x\/H e=some (.own x)) (k:∀ b u,b≠e->s.heap.get? b=some u->h'.get? b=some u) (heo:∃ u,h'.get? e=some u)
  (new:ObjOk X.prog X.w (upd H x o) h' x o):Inv X pins σ (upd H x o) { s with heap:=h',toks:=t' }:=I.un (Un.write mu he k heo) (I.hok.write mu he k heo new)
theorem Inv.pins_of {pins':List (Addr×Obj)} (I:Inv X pins σ H s) (h:∀ p∈pins',s.heap.get? p.1=some p.2/\H p.1=none/\p.1≠X.env.locals/\p.1 ∉ X.fs/\∀ v,p.2.data≠.cell v):Inv X pins' σ H s:=
 ⟨I.ok,I.os,I.bare,I.base,I.loc,I.cell,I.free,I.freeC,fun p hp=>(List.mem_append.mp hp).elim (fun z=>I.pin p (List.mem_append_left _ z)) (h p),I.hok,I.len⟩
theorem nodup_ix {N:List Str} (hN:N.Nodup) {i j:Nat} {x:Str} (a:N[i]? = some x) (b:N[j]? = some x):i=j:=by
 obtain ⟨h1,e1⟩:=List.getElem?_eq_some_iff.mp a
 obtain ⟨h2,e2⟩:=List.getElem?_eq_some_iff.mp b
 exact (List.getElem_inj hN).mp (e1.trans e2.symm)
theorem store_ok2 {M:Model} {A:Around} {E:Value->Shared->Prop} {i:Nat} {x:Str} {v:V} {u:Value} {Q:Unit->Shared->Prop} (I:Inv X pins σ H s) (hN:X.N.Nodup) (hi:X.N[i]? = some x) (hx:Loc X.env.scope x) (r:RelV v u)
  (h:∀ s',Inv X pins (σ.set i (some v)) H s'->(∃ a,Heap.SameBut a s.heap s'.heap/\(a=X.env.locals\/X.env.cells.lookup x=some a))->Q () s') (hf:X.fn x=true\/X.env.scope.names.lookup x=some .local:=by first | exact .inl rfl | exact .inr rfl | assumption):wpAny M A (storeName X.env x u) Q E s:=by
 obtain ⟨m,hn,hl⟩:=id I.loc
 have hcls:(X.env.scope.kind == .class || (X.env.scope.kind == .module && X.env.locals != X.env.globals))=false:=by rw [I.ok.kind];rfl
 have hiσ:i < σ.length:=by rw [I.len];exact (List.getElem?_eq_some_iff.mp hi).1
 have cne:=I.cne
 have tracked:∀ {a:Addr} {h':Heap},(∃ o,s.heap.get? a=some o/\H a=none)->Heap.SameBut a s.heap h'->HOk X.prog X.w H h':=fun {a h'} ha hs b ob e=>by
  obtain ⟨_,_,hfree⟩:=ha
  refine (I.hok b ob e).stay (fun c w' hc q=>(hs.2 c ?_).trans q) (fun _ q=>q) fun _ _ q=>q
  rintro rfl
  rcases hc with rfl | hc
  ·rw [hfree] at e;cases e
  ·rw [hfree] at hc;cases hc
 rcases hx with hk | hk
 ·refine wpAny_storeName_local hk hn (fun h' hn' hs=>?_) hcls
  obtain ⟨oL,_,_,hoL,_⟩:=id hn
  refine h _ ⟨I.ok,I.os,I.bare,⟨fun b o e n hb hx=>?_,fun b o e n hb hx=>?_,I.base.free,fun b o e hx=>?_,I.base.tups,I.base.frzs,I.base.tbls⟩,⟨_,hn',fun j y v' e1 e2 e3=>?_⟩,fun y c e=>?_,I.free,I.freeC,fun p hp=>?_,tracked ⟨oL,hoL,I.free⟩ hs,by simpa using I.len⟩ ⟨_,hs,.inl rfl⟩
  ·exact (hs.2 b (Nat.ne_of_lt (Nat.lt_of_lt_of_le (Heap.lt_size e) I.ok.above))).trans (I.base.keep b o e n hb hx)
  ·obtain ⟨sl,e1⟩:=I.base.slot b o e n hb hx
   exact ⟨sl,(hs.2 b (Nat.ne_of_lt (Nat.lt_of_lt_of_le (Heap.lt_size e) I.ok.above))).trans e1⟩
  ·obtain ⟨o',e1⟩:=I.base.there b o e hx
   exact ⟨o',(hs.2 b (Nat.ne_of_lt (Nat.lt_of_lt_of_le (Heap.lt_size e) I.ok.above))).trans e1⟩
  ·by_cases hj:j=i
   ·subst hj
    rw [hi] at e1;cases e1
    rw [List.getElem?_set_self hiσ] at e2
    cases e2
    exact ⟨u,r,.inl ⟨hk,by simp⟩⟩
   ·rw [List.getElem?_set_ne (Ne.symm hj)] at e2
    obtain ⟨u',r',q⟩:=hl j y v' e1 e2 e3
    refine ⟨u',r',?_⟩
    rcases q with ⟨k,e⟩ | ⟨k,c,e,z⟩
    ·refine .inl ⟨k,?_⟩
     have:y≠x:=fun e=>hj (nodup_ix hN e1 (e ▸ hi))
     simp [this,e]
    ·exact .inr ⟨k,c,e,z.sameBut hs (cne y c e)⟩
  ·obtain ⟨w',z⟩:=I.cell y c e
   exact ⟨w',z.sameBut hs (cne y c e)⟩
  ·obtain ⟨e,n,ne,nf,d⟩:=I.pin p hp
   exact ⟨(hs.2 p.1 ne).trans e,n,ne,nf,d⟩
 ·have hfn:X.fn x=true:=by
   rcases hf with z | z
   ·exact z
   ·rw [z] at hk;cases hk
  obtain ⟨c,hc⟩:=I.ok.has x (.inl hk)
  obtain ⟨w',z⟩:=I.cell x c hc
  refine wpAny_storeName_cell I.ok.kind hk hc z (fun h' hc' hs=>?_)
  obtain ⟨oc,hoc,hocd⟩:=id z
  refine h { s with heap:=h' } ⟨I.ok,I.os,I.bare,⟨fun b o e n hb hx=>?_,fun b o e n hb hx=>?_,I.base.free,fun b o e hx=>?_,I.base.tups,I.base.frzs,I.base.tbls⟩,⟨m,hn.sameBut hs (Ne.symm (cne x c hc)),fun j y v' e1 e2 e3=>?_⟩,fun y c' e=>?_,I.free,I.freeC,fun p hp=>?_,tracked ⟨oc,hoc,I.freeC x c hc⟩ hs,by simpa using I.len⟩ ⟨c,hs,.inr hc⟩
  ·exact (hs.2 b (Nat.ne_of_lt (Nat.lt_of_lt_of_le (Heap.lt_size e) (I.ok.cab x c hfn hc)))).trans (I.base.keep b o e n hb hx)
  ·obtain ⟨sl,e1⟩:=I.base.slot b o e n hb hx
   exact ⟨sl,(hs.2 b (Nat.ne_of_lt (Nat.lt_of_lt_of_le (Heap.lt_size e) (I.ok.cab x c hfn hc)))).trans e1⟩
  ·obtain ⟨o',e1⟩:=I.base.there b o e hx
   exact ⟨o',(hs.2 b (Nat.ne_of_lt (Nat.lt_of_lt_of_le (Heap.lt_size e) (I.ok.cab x c hfn hc)))).trans e1⟩
  ·by_cases hj:j=i
   ·subst hj
    rw [hi] at e1;cases e1
    rw [List.getElem?_set_self hiσ] at e2
    cases e2
    exact ⟨u,r,.inr ⟨.inl hk,c,hc,hc'⟩⟩
   ·rw [List.getElem?_set_ne (Ne.symm hj)] at e2
    obtain ⟨u',r',q⟩:=hl j y v' e1 e2 e3
    refine ⟨u',r',?_⟩
    rcases q with q | ⟨k,c',e,z'⟩
    ·exact .inl q
    ·refine .inr ⟨k,c',e,z'.sameBut hs ?_⟩
     rintro rfl
     exact hj (nodup_ix hN e1 (I.ok.inj _ _ _ e hc ▸ hi))
  ·by_cases hcc:c'=c
   ·subst hcc;exact ⟨_,hc'⟩
   ·obtain ⟨w2,z2⟩:=I.cell y c' e
    exact ⟨w2,z2.sameBut hs hcc⟩
  ·obtain ⟨e,n,ne,nf,d⟩:=I.pin p hp
   refine ⟨(hs.2 p.1 ?_).trans e,n,ne,nf,d⟩
   intro q
   rw [q,hoc] at e
   have q':oc=p.2:=Option.some.inj e
   exact d w' (by rw [<-q'];exact hocd)
theorem store_ok {M:Model} {A:Around} {E:Value->Shared->Prop} {i:Nat} {x:Str} {v:V} {u:Value} {Q:Unit->Shared->Prop} (I:Inv X pins σ H s) (hN:X.N.Nodup) (hi:X.N[i]? = some x) (hx:Loc X.env.scope x) (r:RelV v u)
  (h:∀ s',Inv X pins (σ.set i (some v)) H s'->Q () s') (hf:X.fn x=true\/X.env.scope.names.lookup x=some .local:=by first | exact .inl rfl | exact .inr rfl | assumption):wpAny M A (storeName X.env x u) Q E s:=
 store_ok2 I hN hi hx r (fun s' I' _=>h s' I') hf
theorem Inv.call' {s':Shared} {ch:List Addr} (I:Inv X pins σ H s) (ho:s'.os=s.os) (u:Un (frs X.stack) ch H H' s.heap s'.heap) (hok:HOk X.prog X.w H' s'.heap) (hg:AllBare s'.gens)
  (hch:∀ b∈ch,(b∈X.ex\/X.s₀.heap.objs.size<=b)/\b≠X.env.locals/\(∀ x c,X.env.cells.lookup x=some c->c≠b)/\∀ p∈X.pn++pins,p.1≠b):Inv X pins σ H' s':=by
 obtain ⟨h',g',d',t',o'⟩:=s'
 have e:o'=s.os:=ho
 subst e
 exact I.call (g':=g') (t':=t') (d':=d') u hok hg hch
end
abbrev XK:=Value->Option Addr->Hp->Prop
abbrev St:=List (Option V)
abbrev VK:=V->Hp->Prop
abbrev TE:=St->Hp->VK->Prop
abbrev TT:=St->Hp->(Bool->Hp->Prop)->Prop
abbrev TA:=St->Hp->(List V->Hp->Prop)->Prop
structure Ends where
 nx:St->Hp->Prop
 rt:VK
 bk:St->Hp->Prop:=fun _ _=>False
 ct:St->Hp->Prop:=fun _ _=>False
abbrev TS:=Ends->St->Hp->Prop
def EP (X:Cx) (pins:List (Addr×Obj)) (σ:St) (Q:VK) (u:Value) (s':Shared):Prop:=∃ v H',Inv X pins σ H' s'/\RelV v u/\Q v H'
def TP (X:Cx) (pins:List (Addr×Obj)) (σ:St) (Q:Bool->Hp->Prop) (b:Bool) (s':Shared):Prop:=∃ H',Inv X pins σ H' s'/\Q b H'
def AP (X:Cx) (pins:List (Addr×Obj)) (σ:St) (Q:List V->Hp->Prop) (us:List Value) (s':Shared):Prop:=∃ vs H',Inv X pins σ H' s'/\Vals vs us/\Q vs H'
def SP (X:Cx) (pins:List (Addr×Obj)) (D:Ends) (f:Flow) (s':Shared):Prop:=
 match f with
 | .next=>∃ σ' H',Inv X pins σ' H' s'/\D.nx σ' H'
 | .brk=>∃ σ' H',Inv X pins σ' H' s'/\D.bk σ' H'
 | .cont=>∃ σ' H',Inv X pins σ' H' s'/\D.ct σ' H'
 | .ret u=>∃ v σ' H',Inv X pins σ' H' s'/\RelV v u/\D.rt v H'
def PE (X:Cx) (e:Expr) (t:TE):Prop:=
 ∀ (pins:List (Addr×Obj)) (s:Shared) (σ:St) (H:Hp) (Q:VK),Inv X pins σ H s->t σ H Q->wpAny (model X.prog X.w) X.A (eval e X.env) (EP X pins σ Q) X.xe s
def PT (X:Cx) (e:Expr) (t:TT):Prop:=
 ∀ (pins:List (Addr×Obj)) (s:Shared) (σ:St) (H:Hp) (Q:Bool->Hp->Prop),Inv X pins σ H s->t σ H Q->wpAny (model X.prog X.w) X.A (isTrue e X.env (eval e X.env)) (TP X pins σ Q) X.xe s
def PW (X:Cx) (e:Expr) (t:TT):Prop:=
 ∀ (whole:Sem Value) (pins:List (Addr×Obj)) (s:Shared) (σ:St) (H:Hp) (Q:Bool->Hp->Prop),Inv X pins σ H s->t σ H Q->wpAny (model X.prog X.w) X.A (isTrue e X.env whole) (TP X pins σ Q) X.xe s
theorem PW.pt {X:Cx} {e:Expr} {t:TT} (h:PW X e t):PT X e t:=h _
def PA (X:Cx) (es:List Expr) (t:TA):Prop:=
 ∀ (pos:Pos) (pins:List (Addr×Obj)) (s:Shared) (σ:St) (H:Hp) (Q:List V->Hp->Prop),Inv X pins σ H s->t σ H Q->wpAny (model X.prog X.w) X.A (spliced (backTo pos (starEach es X.env))) (AP X pins σ Q) X.xe s
def PS (X:Cx) (st:Stmt) (t:TS):Prop:=
 ∀ (pins:List (Addr×Obj)) (s:Shared) (σ:St) (H:Hp) (D:Ends),Inv X pins σ H s->t D σ H->wpAny (model X.prog X.w) X.A (exec st X.env) (SP X pins D) X.xe s
def PSs (X:Cx) (st:List Stmt) (t:TS):Prop:=
 ∀ (pins:List (Addr×Obj)) (s:Shared) (σ:St) (H:Hp) (D:Ends),Inv X pins σ H s->t D σ H->wpAny (model X.prog X.w) X.A (execs st X.env) (SP X pins D) X.xe s
theorem thn {α:Type} {t:Sem α} {Q Q':α->Shared->Prop} {M:Model} {A:Around} {E:Value->Shared->Prop} {s:Shared} (h:wpAny M A t Q E s) (hQ:∀ a s,Q a s->Q' a s):wpAny M A t Q' E s:=wpAny_mono h hQ fun _ _ x=>x
end L2
namespace L2
open PySem PySem.Spec PyProof.Rows
section
variable {X:Cx}
def tVar (i:Nat):TE:=fun σ H Q=>∃ v,σ[i]? = some (some v)/\Q v H
def tC (v:V):TE:=fun _ H Q=>Q v H
theorem pe_var {i:Nat} {x:Str} {pos:Pos} (hN:X.N[i]? = some x) (hv:Vis X.env.scope x) (hd:(x == ("__debug__" : Str))=false:=by decide) (hcd:(x == ("__classdict__" : Str))=false:=by decide):PE X (.Name x pos) (tVar i):=by
 intro pins s σ H Q I h
 obtain ⟨v,e,h⟩:=h
 obtain ⟨m,hn,hl⟩:=I.loc
 obtain ⟨u,r,l⟩:=hl i x v hN e hv
 have fin:EP X pins σ Q u s:=⟨v,H,I,r,h⟩
 rcases l with ⟨hk,hm⟩ | ⟨hk,c,hc,hcell⟩
 ·exact wpAny_Name (wpAny_loadName_local I.ok.kind hk hn hm fin) hd
 ·rcases hk with hk | hk
  ·exact wpAny_Name (wpAny_loadName_cell I.ok.kind hk hc hcell fin) hd
  ·exact wpAny_Name (wpAny_loadName_free I.ok.kind hk hc hcell fin hcd) hd
theorem pe_int {i j pos}:PE X (.Constant (.int i) j pos) (tC (.int i)):=fun _ _ _ H _ I h=>wpAny_Constant_int ⟨.int i,H,I.tok _,⟨_,rfl⟩,h⟩
theorem pe_bl {b j pos}:PE X (.Constant (.bool b) j pos) (tC (.bl b)):=fun _ _ _ H _ I h=>Constant_bool ⟨.bl b,H,I,rfl,h⟩
theorem pe_non {j pos}:PE X (.Constant .none j pos) (tC .non):=fun _ _ _ H _ I h=>Constant_none ⟨.non,H,I,rfl,h⟩
theorem pe_str {x j pos}:PE X (.Constant (.str x) j pos) (tC (.str x)):=fun _ _ _ H _ I h=>Calls.Constant_str ⟨.str x,H,I.tok _,⟨_,rfl⟩,h⟩
def Gl (X:Cx) (x:Str):Prop:=X.env.kindOf x=some .globalImplicit
theorem ld_glob {E:Value->Shared->Prop} {pins:List (Addr×Obj)} {s:Shared} {σ:St} {H:Hp} {x:Str} {u:Value} {pos:Pos} {Q:Value->Shared->Prop} (I:Inv X pins σ H s) (hg:Gl X x) (hm:X.mg x=some u) (h:Q u s)
  (hd:(x == ("__debug__" : Str))=false:=by decide):wpAny (model X.prog X.w) X.A (eval (.Name x pos) X.env) Q E s:=
 Calls.Name_function_global I.ok.kind hg (Calls.loadGlobal_global (by rw [I.ok.glob];exact I.mod.glob.keeps I.bk) hm h) hd
theorem ld_blt {E:Value->Shared->Prop} {pins:List (Addr×Obj)} {s:Shared} {σ:St} {H:Hp} {x:Str} {u:Value} {pos:Pos} {Q:Value->Shared->Prop} (I:Inv X pins σ H s) (hg:Gl X x) (hm:X.mg x=none) (hv:bootBuiltins x=some u) (h:Q u s)
  (hn:x≠"__name__" := by decide) (hd:(x == ("__debug__" : Str))=false:=by decide):wpAny (model X.prog X.w) X.A (eval (.Name x pos) X.env) Q E s:=by
 obtain ⟨mb,h1,h2⟩:=I.mod.blt
 exact Calls.Name_function_global I.ok.kind hg (Calls.loadGlobal_builtin (by rw [I.ok.glob];exact I.mod.glob.keeps I.bk) hm (by rw [I.ok.blt];exact h1.keeps I.bk) ((h2 x hn).trans hv) h) hd
theorem pe_glob {x:Str} {v:V} {u:Value} {pos:Pos} (hg:Gl X x) (hm:X.mg x=some u) (r:RelV v u) (hd:(x == ("__debug__" : Str))=false:=by decide):PE X (.Name x pos) (tC v):=
 fun _ _ _ H _ I h=>ld_glob I hg hm ⟨v,H,I,r,h⟩ hd
theorem pe_bltn {x:Str} {v:V} {u:Value} {pos:Pos} (hg:Gl X x) (hm:X.mg x=none) (hv:bootBuiltins x=some u) (r:RelV v u) (hn:x≠"__name__" := by decide) (hd:(x == ("__debug__" : Str))=false:=by decide):PE X (.Name x pos) (tC v):=
 fun _ _ _ H _ I h=>ld_blt I hg hm hv ⟨v,H,I,r,h⟩ hn hd
variable {a b:Expr} {ta tb:TE} {pos:Pos}
variable {tA tB':TT} {rest:List Expr}
def tAnd (t u:TT):TT:=fun σ H Q=>t σ H fun c H1=>if c=true then u σ H1 Q else Q false H1
def tOr (t u:TT):TT:=fun σ H Q=>t σ H fun c H1=>if c=true then Q true H1 else u σ H1 Q
def tNot (t:TT):TT:=fun σ H Q=>t σ H fun c H1=>Q (!c) H1
theorem pw_and1 (ha:PT X a tA):PW X (.BoolOp .And [a] pos) tA:=by
 intro wh pins s σ H Q I h
 refine isTrue_and (thn (ha pins s σ H Q I h) fun c s1 e=>?_)
 cases c with
 | true=>exact isTrue_and_nil e
 | false=>exact e
theorem pw_or1 (ha:PT X a tA):PW X (.BoolOp .Or [a] pos) tA:=by
 intro wh pins s σ H Q I h
 refine isTrue_or (thn (ha pins s σ H Q I h) fun c s1 e=>?_)
 cases c with
 | false=>exact isTrue_or_nil e
 | true=>exact e
theorem pw_and (ha:PT X a tA) (hb:PW X (.BoolOp .And (b :: rest) pos) tB'):PW X (.BoolOp .And (a :: b :: rest) pos) (tAnd tA tB'):=by
 intro wh pins s σ H Q I h
 refine isTrue_and (thn (ha pins s σ H _ I h) fun c s1 ⟨H1,I1,q1⟩=>?_)
 cases c with
 | true=>exact hb wh pins s1 σ H1 Q I1 q1
 | false=>exact ⟨H1,I1,q1⟩
theorem pw_or (ha:PT X a tA) (hb:PW X (.BoolOp .Or (b :: rest) pos) tB'):PW X (.BoolOp .Or (a :: b :: rest) pos) (tOr tA tB'):=by
 intro wh pins s σ H Q I h
 refine isTrue_or (thn (ha pins s σ H _ I h) fun c s1 ⟨H1,I1,q1⟩=>?_)
 cases c with
 | true=>exact ⟨H1,I1,q1⟩
 | false=>exact hb wh pins s1 σ H1 Q I1 q1
theorem pt_not (ha:PT X a tA):PT X (.UnaryOp .Not a pos) (tNot tA):=by
 intro pins s σ H Q I h
 exact isTrue_not (ha pins s σ H (fun c H1=>Q (!c) H1) I h)
theorem pe_one {op} {t:TE} (h:PE X a t):PE X (.BoolOp op [a] pos) t:=fun pins s σ H Q I hw=>BoolOp_one (h pins s σ H Q I hw)
def tIf (t:TT) (ta tb:TE):TE:=fun σ H Q=>t σ H fun c H1=>if c=true then ta σ H1 Q else tb σ H1 Q
theorem pe_ifExp {c:Expr} (hc:PT X c tA) (ha:PE X a ta) (hb:PE X b tb):PE X (.IfExp c a b pos) (tIf tA ta tb):=by
 intro pins s σ H Q I h
 refine wpAny_IfExp (thn (hc pins s σ H _ I h) fun d s1 ⟨H1,I1,q1⟩=>?_)
 cases d with
 | true=>exact ha pins s1 σ H1 Q I1 q1
 | false=>exact hb pins s1 σ H1 Q I1 q1
end
end L2
namespace L2
open PySem PySem.Spec PyProof.Rows
def SqL (K:PySem.W.Frag) (H:Hp) (a:Addr) (xs:List V):Prop:=
 Rd H a (.lst xs) ∨
  ∃ (o:Obj) (its:Array Value) (n:Nat),K.lookup a=some o/\o.cls = .type "list"/\o.dict=none/\o.data = .seq its n/\its.size<=sizeLine/\Vals xs its.toList
def SqT (K:PySem.W.Frag) (H:Hp) (a:Addr) (xs:List V):Prop:=
 Rd H a (.tup xs) ∨
  ∃ (o:Obj) (its:Array Value) (n:Nat),K.lookup a=some o/\o.cls = .type "tuple"/\o.data = .seq its n/\its.size<=sizeLine/\Vals xs its.toList
def absV:Value->Option V
 | .none=>some .non
 | .bool b=>some (.bl b)
 | .int i _=>some (.int i)
 | .str x _=>some (.str x)
 | .bytes b _=>some (.byt b)
 | .float b _=>some (.flt b)
 | .ref a=>some (.ref a)
 | .type n=>some (.ty n)
 | _=>none
theorem RelV.abs {x:V} {u:Value} (r:RelV x u):absV u=some x:=by
 cases x with
 | non=>cases r;rfl
 | bl _=>cases r;rfl
 | int _=>obtain ⟨t,rfl⟩:=r;rfl
 | str _=>obtain ⟨t,rfl⟩:=r;rfl
 | byt _=>obtain ⟨t,rfl⟩:=r;rfl
 | flt _=>obtain ⟨t,rfl⟩:=r;rfl
 | ref _=>cases r;rfl
 | ty _=>cases r;rfl
theorem RelV.inj {x y:V} {u:Value} (r:RelV x u) (q:RelV y u):x=y:=Option.some.inj (r.abs.symm.trans q.abs)
theorem Vals.inj:∀ {xs ys:List V} {us:List Value},Vals xs us->Vals ys us->xs=ys
 | _,_,_,.nil,.nil=>rfl
 | _,_,_,.cons r t,.cons r' t'=>by rw [r.inj r',Vals.inj t t']
section
variable {X:Cx} {pins:List (Addr×Obj)} {σ:St} {H:Hp} {s:Shared} {a:Addr} {xs ys:List V}
theorem SqL.of {K:PySem.W.Frag} (h:H a=some (.lst xs)):SqL K H a xs:=.inl (.inl h)
theorem SqT.of {K:PySem.W.Frag} (h:H a=some (.tup xs)):SqT K H a xs:=.inl (.inl h)
theorem Inv.list (I:Inv X pins σ H s) (h:SqL X.K H a xs):∃ its:List Value,Vals xs its/\PlainL s.heap a its.toArray/\xs.length<=sizeLine:=by
 rcases h with h | ⟨o,its,n,hk,hc,hd,hs,hz,r⟩
 ·obtain ⟨z,its,n,r,e⟩:=h.ok I.hok
  exact ⟨its,r,⟨_,n,e,rfl,rfl,rfl⟩,z⟩
 ·refine ⟨its.toList,r,⟨o,n,I.kIn a o hk,hc,hd,by simpa using hs⟩,?_⟩
  have e:=r.length
  simp only [Array.length_toList] at e
  omega
theorem Inv.tuple (I:Inv X pins σ H s) (h:SqT X.K H a xs):∃ its:List Value,Vals xs its/\IsTup s.heap a its.toArray/\xs.length<=sizeLine:=by
 rcases h with h | ⟨o,its,n,hk,hc,hs,hz,r⟩
 ·obtain ⟨z,its,r,p⟩:=h.ok I.hok
  exact ⟨its,r,p,z⟩
 ·refine ⟨its.toList,r,⟨o,I.kIn a o hk,hc,n,by simpa using hs⟩,?_⟩
  have e:=r.length
  simp only [Array.length_toList] at e
  omega
theorem Inv.list_inj (I:Inv X pins σ H s) (h:SqL X.K H a xs) (h':SqL X.K H a ys):xs=ys:=by
 obtain ⟨its,r,⟨o,n,e,_,_,d⟩,_⟩:=I.list h
 obtain ⟨its',r',⟨o',n',e',_,_,d'⟩,_⟩:=I.list h'
 rw [e] at e';cases e'
 rw [d] at d'
 injection d' with d1 _
 have:its=its':=by simpa using congrArg Array.toList d1
 subst this
 exact r.inj r'
theorem Inv.tuple_inj (I:Inv X pins σ H s) (h:SqT X.K H a xs) (h':SqT X.K H a ys):xs=ys:=by
 obtain ⟨its,r,⟨o,e,_,n,d⟩,_⟩:=I.tuple h
 obtain ⟨its',r',⟨o',e',_,n',d'⟩,_⟩:=I.tuple h'
 rw [e] at e';cases e'
 rw [d] at d'
 injection d' with d1 _
 have:its=its':=by simpa using congrArg Array.toList d1
 subst this
 exact r.inj r'
end
abbrev Cx.wish (X:Cx) (E:Value->Shared->Prop):Cx:={ X with xe:=E }
abbrev Cx.nox (X:Cx):Cx:=X.wish fun _ _=>False
theorem Cx.Ok.wish {X:Cx} (ok:X.Ok) (E:Value->Shared->Prop):(X.wish E).Ok:=
 ⟨ok.mod,ok.kind,ok.glob,ok.blt,ok.above,ok.inj,ok.has,ok.cab,ok.hd,ok.frames,ok.stk,ok.exf,ok.bs,ok.bsz,ok.noex,ok.exfs,ok.funs,ok.frf⟩
theorem Cx.Ok.unwish {X:Cx} {E:Value->Shared->Prop} (ok:(X.wish E).Ok):X.Ok:=
 ⟨ok.mod,ok.kind,ok.glob,ok.blt,ok.above,ok.inj,ok.has,ok.cab,ok.hd,ok.frames,ok.stk,ok.exf,ok.bs,ok.bsz,ok.noex,ok.exfs,ok.funs,ok.frf⟩
section
variable {X:Cx} {pins:List (Addr×Obj)} {σ:St} {H:Hp} {s:Shared} {E:Value->Shared->Prop}
theorem Inv.wish (I:Inv X pins σ H s) (E:Value->Shared->Prop):Inv (X.wish E) pins σ H s:=⟨I.ok.wish E,I.os,I.bare,I.base,I.loc,I.cell,I.free,I.freeC,I.pin,I.hok,I.len⟩
theorem Inv.unwish (I:Inv (X.wish E) pins σ H s):Inv X pins σ H s:=⟨I.ok.unwish,I.os,I.bare,I.base,I.loc,I.cell,I.free,I.freeC,I.pin,I.hok,I.len⟩
theorem SP.unwish {D:Ends} {f:Flow} {s':Shared} (h:SP (X.wish E) pins D f s'):SP X pins D f s':=by
 cases f with
 | next=>obtain ⟨σ',H',I,q⟩:=h;exact ⟨σ',H',I.unwish,q⟩
 | brk=>obtain ⟨σ',H',I,q⟩:=h;exact ⟨σ',H',I.unwish,q⟩
 | cont=>obtain ⟨σ',H',I,q⟩:=h;exact ⟨σ',H',I.unwish,q⟩
 | ret u=>obtain ⟨v,σ',H',I,r,q⟩:=h;exact ⟨v,σ',H',I.unwish,r,q⟩
theorem PE.nox {e:Expr} {t:TE} (h:PE X.nox e t):PE X e t:=fun pins s σ H Q I hw=>
 wpAny_mono (h pins s σ H Q (I.wish _) hw) (fun _ _ ⟨v,H',I',r,q⟩=>⟨v,H',I'.unwish,r,q⟩) fun _ _ z=>False.elim z
theorem PT.nox {e:Expr} {t:TT} (h:PT X.nox e t):PT X e t:=fun pins s σ H Q I hw=>
 wpAny_mono (h pins s σ H Q (I.wish _) hw) (fun _ _ ⟨H',I',q⟩=>⟨H',I'.unwish,q⟩) fun _ _ z=>False.elim z
theorem PSs.nox {st:List Stmt} {t:TS} (h:PSs X.nox st t):PSs X st t:=fun pins s σ H D I hw=>
 wpAny_mono (h pins s σ H D (I.wish _) hw) (fun _ _ q=>q.unwish) fun _ _ z=>False.elim z
end
section
variable {X:Cx} {st:Stmt} {rest:List Stmt} {t u:TS} {e:Expr} {te:TE} {pos:Pos}
def tNext:TS:=fun D σ H=>D.nx σ H
def tSeq (t u:TS):TS:=fun D σ H=>t { D with nx:=u D } σ H
theorem pss_nil:PSs X [] tNext:=fun _ _ σ H _ I h=>wpAny_execs_nil ⟨σ,H,I,h⟩
theorem pss_cons (h1:PS X st t) (h2:PSs X rest u):PSs X (st :: rest) (tSeq t u):=by
 intro pins s σ H D I h
 refine wpAny_execs_cons (thn (h1 pins s σ H { D with nx:=u D } I h) fun f s1 q=>?_)
 cases f with
 | next=>
  obtain ⟨σ',H',I',q⟩:=q
  exact h2 pins s1 σ' H' D I' q
 | ret v=>exact q
 | brk=>exact q
 | cont=>exact q
theorem pss_one (h1:PS X st t):PSs X [st] t:=by
 intro pins s σ H D I h
 refine wpAny_execs_cons (thn (h1 pins s σ H D I h) fun f s1 q=>?_)
 cases f with
 | next=>exact wpAny_execs_nil q
 | ret v=>exact q
 | brk=>exact q
 | cont=>exact q
theorem Inv.quiet {pins:List (Addr×Obj)} {σ:St} {H:Hp} {s:Shared} (I:Inv X pins σ H s):interactive X.env=false:=by simp [interactive,I.ok.kind]
def tDrop (te:TE):TS:=fun D σ H=>te σ H fun _ H1=>D.nx σ H1
theorem ps_expr (he:PE X e te) (hs:swapsWith e none pos.line X.env=pure false:=by rfl):PS X (.Expr e pos) (tDrop te):=by
 intro pins s σ H D I h
 exact wpAny_Expr_any (thn (he pins s σ H _ I h) fun v s1 ⟨x,H1,I1,r1,q1⟩=>⟨σ,H1,I1,q1⟩) I.quiet hs
def tRet (te:TE):TS:=fun D σ H=>te σ H D.rt
theorem ps_ret (he:PE X e te):PS X (.Return (some e) pos) (tRet te):=by
 intro pins s σ H D I h
 exact wpAny_Return_some (thn (he pins s σ H _ I h) fun v s1 ⟨x,H1,I1,r1,q1⟩=>⟨x,σ,H1,I1,r1,q1⟩)
def tIfS (c:TT) (t u:TS):TS:=fun D σ H=>c σ H fun b H1=>if b=true then t D σ H1 else u D σ H1
theorem ps_if {c:Expr} {a b:List Stmt} {tc:TT} (hc:PT X c tc) (ha:PSs X a t) (hb:PSs X b u):PS X (.If c a b pos) (tIfS tc t u):=by
 intro pins s σ H D I h
 refine wpAny_If (thn (hc pins s σ H _ I h) fun d s1 ⟨H1,I1,q1⟩=>?_)
 cases d with
 | true=>exact ha pins s1 σ H1 D I1 q1
 | false=>exact hb pins s1 σ H1 D I1 q1
end
abbrev TG:=V->St->Hp->(St->Hp->Prop)->Prop
abbrev TGs:=List V->St->Hp->(St->Hp->Prop)->Prop
def PG (X:Cx) (target:Expr) (t:TG):Prop:=
 ∀ (pins:List (Addr×Obj)) (s:Shared) (σ:St) (H:Hp) (v:V) (u:Value) (Q:St->Hp->Prop),Inv X pins σ H s->RelV v u->t v σ H Q →
  wpAny (model X.prog X.w) X.A (assign target X.env u) (fun _ s'=>∃ σ' H',Inv X pins σ' H' s'/\Q σ' H') X.xe s
def PGs (X:Cx) (ts:List Expr) (t:TGs):Prop:=
 ∀ (pins:List (Addr×Obj)) (s:Shared) (σ:St) (H:Hp) (vs:List V) (us:List Value) (Q:St->Hp->Prop),Inv X pins σ H s->Vals vs us->t vs σ H Q →
  wpAny (model X.prog X.w) X.A (assignInOrder ((assignEach ts X.env).map (·.2)) us) (fun _ s'=>∃ σ' H',Inv X pins σ' H' s'/\Q σ' H') X.xe s
abbrev TSet:=V->V->V->Hp->(Hp->Prop)->Prop
def PSet (X:Cx) (t:TSet):Prop:=
 ∀ (pins:List (Addr×Obj)) (s:Shared) (σ:St) (H:Hp) (o i v:V) (ov iv u:Value) (Q:Hp->Prop),Inv X pins σ H s->RelV o ov->RelV i iv->RelV v u->t o i v H Q →
  wpAny (model X.prog X.w) X.A (setItem ov iv u) (fun _ s'=>∃ H',Inv X pins σ H' s'/\Q H') X.xe s
section
variable {X:Cx} {pos:Pos}
def gName (i:Nat):TG:=fun v σ H Q=>Q (σ.set i (some v)) H
theorem pg_name {i:Nat} {x:Str} (hN:X.N.Nodup) (hi:X.N[i]? = some x) (hx:Loc X.env.scope x) (hf:X.fn x=true\/X.env.scope.names.lookup x=some .local:=by first | exact .inl rfl | exact .inr rfl | assumption):PG X (.Name x pos) (gName i):=by
 intro pins s σ H v u Q I r h
 exact wpAny_assign_Name (store_ok I hN hi hx r (fun s' I'=>⟨_,H,I',h⟩) hf)
def gNil:TGs:=fun vs σ H Q=>vs=[]/\Q σ H
def gCons (t:TG) (u:TGs):TGs:=fun vs σ H Q=>∃ v r,vs=v :: r/\t v σ H fun σ' H'=>u r σ' H' Q
theorem pgs_nil:PGs X [] gNil:=by
 intro pins s σ H vs us Q I r h
 obtain ⟨e,h⟩:=h
 subst e
 cases r
 exact assignInOrder_nil ⟨σ,H,I,h⟩
theorem pgs_cons {e:Expr} {es:List Expr} {t:TG} {u:TGs} (h1:PG X e t) (h2:PGs X es u)
  (hs:(assignEach (e :: es) X.env).map (·.2)=assign e X.env :: (assignEach es X.env).map (·.2):=by rfl):PGs X (e :: es) (gCons t u):=by
 intro pins s σ H vs us Q I r h
 obtain ⟨v,vr,e1,h⟩:=h
 subst e1
 cases r with
 | cons r rr=>
  rw [hs]
  refine assignInOrder_cons (thn (h1 pins s σ H _ _ _ I r h) fun _ s1 ⟨σ1,H1,I1,q1⟩=>?_)
  exact h2 pins s1 σ1 H1 _ _ Q I1 rr q1
def gTup (K:PySem.W.Frag) (n:Nat) (t:TGs):TG:=fun v σ H Q=>∃ a xs,v = .ref a/\SqT K H a xs/\xs.length=n/\t xs σ H Q
theorem pg_tup {es:List Expr} {k:Nat} {t:TGs} {n:Nat} (hc:X.calm=true) (h:PGs X es t)
  (hn:(assignEach es X.env).length=n:=by rfl) (hst:(assignEach es X.env).findIdx? (·.1)=none:=by rfl):PG X (.Tuple es k pos) (gTup X.K n t):=by
 intro pins s σ H v u Q I r hw
 obtain ⟨a,xs,e1,hq,hl,hw⟩:=hw
 subst e1
 cases r
 obtain ⟨its,rv,ht,hz⟩:=I.tuple hq
 refine assign_Tuple_tuple (I.ok.hd hc) ht (by simp [hn,<-hl,rv.length]) hst fun h' hx=>?_
 have I1:Inv X pins σ H { s with heap:=h' }:=I.kept (t':=s.toks) fun b o e=>hx b o (Nat.ne_of_lt (Heap.lt_size e)) e
 exact h pins _ σ H xs _ Q I1 (by simpa using rv) hw
def gSub (to ti:TE) (t:TSet):TG:=fun v σ H Q=>to σ H fun o H1=>ti σ H1 fun i H2=>t o i v H2 fun H3=>Q σ H3
theorem pg_sub {o i:Expr} {to ti:TE} {t:TSet} (ho:PE X o to) (hi:PE X i ti) (hs:PSet X t)
  (ha:∀ v,assign (.Subscript o i pos) X.env v=(do
   let ov <-holding [v] (eval o X.env)
   let iv <-holding [v,ov] (eval i X.env)
   standAt pos
   holding [v,ov,iv] (setItem ov iv v)
   release [v,ov,iv] []):=by intro _;rfl):PG X (.Subscript o i pos) (gSub to ti t):=by
 intro pins s σ H v u Q I r h
 rw [ha]
 refine wpAny_bind (wpAny_holding (thn (ho pins s σ H _ I h) fun ov s1 ⟨x,H1,I1,r1,q1⟩=>?_))
 refine wpAny_bind (wpAny_holding (thn (hi pins s1 σ H1 _ I1 q1) fun iv s2 ⟨y,H2,I2,r2,q2⟩=>?_))
 refine wpAny_bind (wpAny_standAt (wpAny_bind (wpAny_holding (thn (hs pins s2 σ H2 x y v ov iv u _ I2 r1 r2 r q2) fun _ s3 ⟨H3,I3,q3⟩=>?_))))
 exact wpAny_release ⟨σ,H3,I3,q3⟩
def tAsg (te:TE) (g:TG):TS:=fun D σ H=>te σ H fun x H1=>g x σ H1 D.nx
theorem ps_asg {tg e:Expr} {te:TE} {g:TG} (he:PE X e te) (hg:PG X tg g) (hs:swapsWithSole [tg] e pos.line X.env=pure false:=by rfl) (hw:swappedStores [tg] e X.env=pure none:=by rfl)
  (h1:(assignEach [tg] X.env).map (·.2)=[assign tg X.env]:=by rfl):PS X (.Assign [tg] e pos) (tAsg te g):=by
 intro pins s σ H D I h
 refine wpAny_Assign_stores (thn (he pins s σ H _ I h) fun v s1 ⟨x,H1,I1,r1,q1⟩=>?_) hs hw
 rw [h1]
 exact thn (hg pins s1 σ H1 x v _ I1 r1 q1) fun _ s2 q=>q
end
section
variable {X:Cx} {pos:Pos}
end
structure It where
 go:Nat->Hp->Prop
 yld:Nat->Hp->V->Hp->Prop
 stop:Nat->Hp->Prop
def FpOk (X:Cx) (pins:List (Addr×Obj)) (H:Hp) (b:Addr):Prop:=
 H b=none/\b≠X.env.locals/\b ∉ X.fs/\(b∈X.ex\/X.s₀.heap.objs.size<=b)/\(∀ x c,X.env.cells.lookup x=some c->c≠b)/\∀ p∈X.pn++pins,p.1≠b
theorem Inv.fpOk {X:Cx} {pins:List (Addr×Obj)} {σ:St} {H H':Hp} {s:Shared} {b:Addr} (I:Inv X pins σ H s) (hb:s.heap.objs.size<=b) (hn:H' b=none):FpOk X pins H' b:=by
 refine ⟨hn,Nat.ne_of_gt (Nat.lt_of_lt_of_le I.lt hb),I.nofs hb,.inr (Nat.le_trans I.sz hb),fun x c e z=>?_,fun p hp z=>?_⟩
 ·obtain ⟨v,q⟩:=I.cell x c e
  exact absurd (Nat.lt_of_lt_of_le q.lt (by rw [z];exact hb)) (Nat.lt_irrefl _)
 ·exact absurd (Nat.lt_of_lt_of_le (Heap.lt_size (I.pin p hp).1) (by rw [z];exact hb)) (Nat.lt_irrefl _)
structure Turn (P:Program) (w:World) (K:PySem.W.Frag) (tg:Expr) (J:It) (fp:List Addr) (it:Addr) (tn:Nat->Heap->Prop):Prop where
 mem:it∈fp
 obj:∀ i h,tn i h->∀ b∈fp,∃ o,h.get? b=some o/\∀ v,o.data≠.cell v
 keep:∀ i h h',tn i h->(∀ b∈fp,∀ o,h.get? b=some o->h'.get? b=some o)->tn i h'
 item:∀ (X:Cx),X.prog=P->X.w=w->X.K=K->X.calm=true->∀ (i:Nat) (pins:List (Addr×Obj)) (s:Shared) (σ:St) (H:Hp) (E:Value->Shared->Prop),Inv X pins σ H s->(∀ b∈fp,FpOk X pins H b)->tn i s.heap->J.go i H →
  wpAny (model P w) X.A (pyNext (.ref it)) (fun r s1=>∃ u,r=some u ∧
   wpAny (model P w) X.A (letOwnedTupleGo tg (.ref it) u) (fun _ s2=>∃ x H',Inv X pins σ H' s2/\RelV x u/\J.yld i H x H'/\tn (i+1) s2.heap/\∀ b∈fp,H' b=none) E s1) E s
 done:∀ (X:Cx),X.prog=P->X.w=w->X.K=K->X.calm=true->∀ (i:Nat) (pins:List (Addr×Obj)) (s:Shared) (σ:St) (H:Hp) (E:Value->Shared->Prop),Inv X pins σ H s->(∀ b∈fp,FpOk X pins H b)->tn i s.heap->J.stop i H →
  wpAny (model P w) X.A (pyNext (.ref it)) (fun r s1=>r=none/\Inv X pins σ H s1) E s
 self:∀ (A:Around) (i:Nat) (s:Shared) (Q:Value->Shared->Prop) (E:Value->Shared->Prop),tn i s.heap->Q (.ref it) s->wpAny (model P w) A (pyIter (.ref it)) Q E s
abbrev TI:=St->Hp->(It->Hp->Prop)->Prop
def PIE (X:Cx) (pins:List (Addr×Obj)) (σ:St) (tg:Expr) (R:It->Hp->Prop) (itv:Value) (s2:Shared):Prop:=
 ∃ (it:Addr) (fp:List Addr) (tn:Nat->Heap->Prop) (J:It) (H':Hp),itv = .ref it/\Inv X pins σ H' s2/\Turn X.prog X.w X.K tg J fp it tn/\tn 0 s2.heap/\(∀ b∈fp,FpOk X pins H' b)/\R J H'
def PI (X:Cx) (tg iter:Expr) (wi:TI):Prop:=
 ∀ (pins:List (Addr×Obj)) (s:Shared) (σ:St) (H:Hp) (R:It->Hp->Prop),Inv X pins σ H s->wi σ H R →
  wpAny (model X.prog X.w) X.A (eval iter X.env) (fun v s1=>wpAny (model X.prog X.w) X.A (pyIter v) (PIE X pins σ tg R) X.xe s1) X.xe s
theorem go_of {M:Model} {A:Around} {E:Value->Shared->Prop} {s:Shared} {tg:Expr} {it:Addr} {u:Value} {o:Obj} {n:String} {vs:Array Value} {Q:Unit->Shared->Prop} (ho:s.heap.get? it=some o) (hc:o.cls = .type n) (hd:o.data = .fields vs)
  (hn:["enumerate","zip","dict_itemiterator","dict_reverseitemiterator","odict_iterator","itertools.zip_longest","itertools.pairwise"].contains n=false) (hQ:Q () s):wpAny M A (letOwnedTupleGo tg (.ref it) u) Q E s:=by
 unfold letOwnedTupleGo
 cases tg<;>first
  | exact wpAny_pure hQ
  | (cases u<;>first
    | exact wpAny_pure hQ
    | (refine wpAny_bind (wpAny_load ho ?_)
       rw [hc,hd]
       show wpAny M A (if (["enumerate","zip","dict_itemiterator","dict_reverseitemiterator","odict_iterator","itertools.zip_longest","itertools.pairwise"].contains n && vs[0]? == some (rawInt _))=true then _ else _) Q E s
       rw [if_neg (by intro h;rw [hn,Bool.false_and] at h;cases h)]
       exact wpAny_pure hQ))
def Itl (K:PySem.W.Frag) (a:Addr):It:=
 ⟨fun i H=>∃ xs x,SqL K H a xs/\xs[i]? = some x,fun i H x H'=>H'=H/\∀ xs,SqL K H a xs->xs[i]? = some x,fun i H=>∃ xs,SqL K H a xs/\xs.length<=i⟩
def Itr (lo:Int) (n:Nat):It:=⟨fun i _=>i < n,fun i H x H'=>H'=H/\x = .int (lo+i),fun i _=>n<=i⟩
theorem turn_list {P:Program} {w:World} {K:PySem.W.Frag} {tg:Expr} (a it:Addr):Turn P w K tg (Itl K a) [it] it (fun i h=>h.IsListIter it a i) where
 mem:=by simp
 obj:=fun i h st b hb=>by
  have e:b=it:=by simpa using hb
  subst e
  obtain ⟨o,e,c,d⟩:=st
  exact ⟨o,e,fun v z=>by rw [d] at z;cases z⟩
 keep:=fun i h h' st k=>st.at fun o e=>k it (by simp) o e
 item:=by
  intro X hP hw hK hc i pins s σ H E I hf st hg
  subst hP hw hK
  obtain ⟨xs,x,hq,hx⟩:=hg
  obtain ⟨its,rv,p,hz⟩:=I.list hq
  obtain ⟨u,hu,ru⟩:=rv.get hx
  obtain ⟨f0,f1,f2,f3,f4,f5⟩:=hf it (by simp)
  refine wpAny_pyNext_list_item st p.isList (x:=u) (by simpa using hu) fun h' st' sb=>?_
  have I1:Inv X pins σ H { s with heap:=h' }:=I.turned (t':=s.toks) (fun b o hb e=>(sb.2 b hb).trans e) f0 f1 f3 f4 f5
  obtain ⟨o,e,c,d⟩:=id st'
  exact ⟨u,rfl,go_of (s:={ s with heap:=h' }) e c d (by decide) ⟨x,H,I1,ru,⟨rfl,fun ys hy=>by rw [I.list_inj hy hq];exact hx⟩,st',fun b hb=>(hf b hb).1⟩⟩
 done:=by
  intro X hP hw hK hc i pins s σ H E I hf st hg
  subst hP hw hK
  obtain ⟨xs,hq,hx⟩:=hg
  obtain ⟨its,rv,p,hz⟩:=I.list hq
  obtain ⟨f0,f1,f2,f3,f4,f5⟩:=hf it (by simp)
  have hl:=rv.length
  exact wpAny_pyNext_list_end (I.ok.hd hc) st p.isList (by simp;omega) fun h' eb=>⟨rfl,I.turned (t':=s.toks) (fun b o hb e=>eb b o hb e) f0 f1 f3 f4 f5⟩
 self:=fun _ _ _ _ _ st h=>wpAny_pyIter_listiter st h
theorem turn_range {P:Program} {w:World} {K:PySem.W.Frag} {tg:Expr} (it:Addr) (lo:Int) (n:Nat):Turn P w K tg (Itr lo n) [it] it (fun i h=>IsRangeIter h it (lo+(i:Nat) * 1) ((n:Int) - (i:Nat)) 1) where
 mem:=by simp
 obj:=fun i h st b hb=>by
  have e:b=it:=by simpa using hb
  subst e
  exact ⟨_,st,fun v z=>by
   have z':Data.fields _=Data.cell v:=z
   cases z'⟩
 keep:=fun i h h' st k=>k it (by simp) _ st
 item:=by
  intro X hP hw hK hc i pins s σ H E I hf st hg
  subst hP hw hK
  obtain ⟨f0,f1,f2,f3,f4,f5⟩:=hf it (by simp)
  have W:=Walks.range (prog:=X.prog) (w:=X.w) (I.ok.hd hc) it lo 1 n
  refine W.item i s _ _ hg st fun v h' tk hv st' kk=>?_
  obtain ⟨t,rfl⟩:=hv
  have I1:Inv X pins σ H { s with heap:=h',toks:=tk }:=I.turned (fun b o hb e=>kk b o (by simpa using hb) e) f0 f1 f3 f4 f5
  refine ⟨_,rfl,go_of (s:={ s with heap:=h',toks:=tk }) (n:= "range_iterator") st' rfl rfl (by decide) ⟨.int (lo+i),H,I1,⟨t,?_⟩,⟨rfl,rfl⟩,st',fun b hb=>(hf b hb).1⟩⟩
  rw [Int.mul_one]
 done:=by
  intro X hP hw hK hc i pins s σ H E I hf st hg
  subst hP hw hK
  obtain ⟨f0,f1,f2,f3,f4,f5⟩:=hf it (by simp)
  exact wpAny_pyNext_range_end (I.ok.hd hc) st (by have:n<=i:=hg;omega) fun h' eb=>⟨rfl,I.turned (t':=s.toks) (fun b o hb e=>eb b o hb e) f0 f1 f3 f4 f5⟩
 self:=fun _ _ _ _ _ st h=>wpAny_pyIter_rangeiter st h
end L2
namespace L2
open PySem PySem.Spec PyProof.Rows
section
variable {X:Cx} {tg:Expr}
theorem range_it {pins:List (Addr×Obj)} {σ:St} {H:Hp} {s:Shared} {R:It->Hp->Prop} {E:Value->Shared->Prop} {lo hi:Int} {t u v:Tok} {tk:Nat} (I:Inv X pins σ H s) (h1 : -(2 ^ 62)<=lo) (h2:lo < 2 ^ 62) (h3 : -(2 ^ 62)<=hi) (h4:hi < 2 ^ 62)
  (q:R (Itr lo (hi - lo).toNat) H):wpAny (model X.prog X.w) X.A (pyIter (.ref s.heap.objs.size)) (PIE X pins σ tg R) E { s with heap:=s.heap.push { cls:=.type "range",data:=.fields #[.int lo t,.int hi u,.int 1 v] },toks:=tk }:=by
 refine wpAny_pyIter_range (IsRange.new ..) (small_one h1 h2 h3 h4) ?_
 have I1:Inv X pins σ H { s with heap:=s.heap.push { cls:=.type "range",data:=.fields #[.int lo t,.int hi u,.int 1 v] },toks:=tk }:=I.kept fun b o e=>Heap.get?_push_of_some _ e
 refine ⟨(s.heap.push { cls:=.type "range",data:=.fields #[.int lo t,.int hi u,.int 1 v] }).objs.size,[(s.heap.push { cls:=.type "range",data:=.fields #[.int lo t,.int hi u,.int 1 v] }).objs.size],_,_,H,rfl,
  I1.kept (t':=tk) fun b o e=>Heap.get?_push_of_some _ e,turn_range _ lo (hi - lo).toNat,?_,fun b hb=>?_,q⟩
 ·have e1:lo+((0:Nat):Int) * 1=lo:=by simp
  have e2:(((hi - lo).toNat:Nat):Int) - ((0:Nat):Int)=Builtin.Range.rangeSize lo hi 1:=by rw [rangeSize_one];split<;>omega
  show IsRangeIter _ _ (lo+((0:Nat):Int) * 1) ((((hi - lo).toNat:Nat):Int) - ((0:Nat):Int)) 1
  rw [e1,e2]
  exact Heap.get?_push_size _ rfl
 ·have e:b=(s.heap.push { cls:=.type "range",data:=.fields #[.int lo t,.int hi u,.int 1 v] }).objs.size:=by simpa using hb
  subst e
  exact I1.fpOk (Nat.le_refl _) (I1.hok.fresh (Nat.le_refl _))
def tFor (wi:TI) (g:TG) (tb:TS):TS:=fun D σ H=>wi σ H fun J H1=>∃ W:Nat->Nat->St->Hp->Prop,(∃ m,W 0 m σ H1)/\∀ i m σ H,W i m σ H →
 (J.stop i H/\D.nx σ H)\/(J.go i H/\∃ N:St->Hp->Prop,(∀ σ' H',N σ' H'->∃ m',m' < m/\W (i+1) m' σ' H')/\∀ x H',J.yld i H x H'->g x σ H' fun σ2 H2=>tb { D with nx:=N,ct:=N,bk:=D.nx } σ2 H2)
def pinsAt (fp:List Addr) (h:Heap):List (Addr×Obj):=fp.filterMap fun b=>(h.get? b).map fun o=>(b,o)
theorem mem_pinsAt {fp:List Addr} {h:Heap} {b:Addr} {o:Obj} (hb:b∈fp) (e:h.get? b=some o):(b,o)∈pinsAt fp h:=List.mem_filterMap.mpr ⟨b,hb,by rw [e];rfl⟩
theorem of_pinsAt {fp:List Addr} {h:Heap} {p:Addr×Obj} (hp:p∈pinsAt fp h):p.1∈fp/\h.get? p.1=some p.2:=by
 obtain ⟨b,hb,e⟩:=List.mem_filterMap.mp hp
 cases q:h.get? b with
 | none=>rw [q] at e;cases e
 | some o=>
  rw [q] at e
  have e':(b,o)=p:=Option.some.inj e
  subst e'
  exact ⟨hb,q⟩
theorem Inv.pinned {pins:List (Addr×Obj)} {σ:St} {H:Hp} {s:Shared} {fp:List Addr} (I:Inv X pins σ H s) (hf:∀ b∈fp,FpOk X pins H b) (ho:∀ b∈fp,∃ o,s.heap.get? b=some o/\∀ v,o.data≠.cell v):Inv X (pins++pinsAt fp s.heap) σ H s:=
 I.pins_of fun p hp=>(List.mem_append.mp hp).elim (fun z=>I.pin p (List.mem_append_right _ z)) fun z=>by
  obtain ⟨hb,e⟩:=of_pinsAt z
  obtain ⟨f0,f1,f2,_⟩:=hf p.1 hb
  obtain ⟨o,e',d⟩:=ho p.1 hb
  rw [e] at e';cases e'
  exact ⟨e,f0,f1,f2,d⟩
theorem Inv.unpinned {pins pl:List (Addr×Obj)} {σ:St} {H:Hp} {s:Shared} (I:Inv X (pins++pl) σ H s):Inv X pins σ H s:=I.pins_of fun p hp=>I.pin p (List.mem_append_right _ (List.mem_append_left _ hp))
theorem ps_for {iter:Expr} {body:List Stmt} {wi:TI} {g:TG} {tb:TS} {pos:Pos} (hp:PassesOwn (model X.prog X.w) X.A X.env X.xe) (hc:X.calm=true) (hi:PI X tg iter wi) (hg:PG X tg g) (hb:PSs X body tb)
  (hs:∀ x,foldedSetIterable iter X.env x=pure x:=by intro _;rfl):PS X (.For tg iter body [] pos) (tFor wi g tb):=by
 intro pins s σ H D I h
 refine wpAny_For (thn (hi pins s σ H _ I h) fun v s1 h1=>thn h1 fun itv s2 h2=>?_) hs
 obtain ⟨it,fp,tn,J,H2,e,I2,T,st2,f2,W,⟨m0,w0⟩,turn⟩:=h2
 subst e
 have stat:∀ {H':Hp},(∀ b∈fp,H' b=none)->∀ b∈fp,FpOk X pins H' b:=fun hn b hb=>⟨hn b hb,(f2 b hb).2⟩
 refine codeAny_forLoop_any (fun n s'=>∃ i σ' H',Inv X pins σ' H' s'/\tn i s'.heap/\(∀ b∈fp,H' b=none)/\W i n σ' H') ?_ m0 ⟨0,σ,H2,I2,st2,fun b hb=>(f2 b hb).1,w0⟩
 rintro n s3 ⟨i,σ3,H3,I3,st3,fr3,w3⟩
 rcases turn i n σ3 H3 w3 with ⟨stop,qn⟩ | ⟨go,N,hN,step⟩
 ·refine wpAny_passesOwn hp (thn (T.done X rfl rfl rfl hc i pins s3 σ3 H3 X.xe I3 (stat fr3) st3 stop) fun r s4 ⟨hr,I4⟩=>?_)
  subst hr
  exact wpAny_execs_nil ⟨σ3,H3,I4,qn⟩
 ·refine wpAny_passesOwn hp (thn (T.item X rfl rfl rfl hc i pins s3 σ3 H3 X.xe I3 (stat fr3) st3 go) fun r s4 ⟨u,hr,h4⟩=>?_)
  subst hr
  refine wpAny_passesOwn hp (thn h4 fun _ s5 ⟨x,H5,I5,r5,y5,st5,fr5⟩=>?_)
  have I5':=I5.pinned (stat fr5) (T.obj _ _ st5)
  refine wpAny_passesOwn hp (thn (hg _ s5 σ3 H5 x u _ I5' r5 (step x H5 y5)) fun _ s6 ⟨σ6,H6,I6,q6⟩=>?_)
  refine wpAny_passesOwn hp (thn (hb _ s6 σ6 H6 _ I6 q6) fun f s7 q7=>?_)
  have again:∀ {σ7:St} {H7:Hp},Inv X (pins++pinsAt fp s5.heap) σ7 H7 s7->N σ7 H7->∃ m,m < n/\∃ i σ' H',Inv X pins σ' H' s7/\tn i s7.heap/\(∀ b∈fp,H' b=none)/\W i m σ' H':=fun {σ7 H7} I7 n7=>by
   obtain ⟨m',hm,w7⟩:=hN σ7 H7 n7
   refine ⟨m',hm,i+1,σ7,H7,I7.unpinned,T.keep _ _ _ st5 fun b hb o e=>(I7.pin (b,o) (List.mem_append_right _ (List.mem_append_right _ (mem_pinsAt hb e)))).1,fun b hb=>?_,w7⟩
   obtain ⟨o,e,d⟩:=T.obj _ _ st5 b hb
   exact (I7.pin (b,o) (List.mem_append_right _ (List.mem_append_right _ (mem_pinsAt hb e)))).2.1
  cases f with
  | next=>obtain ⟨σ7,H7,I7,n7⟩:=q7;exact again I7 n7
  | cont=>obtain ⟨σ7,H7,I7,n7⟩:=q7;exact again I7 n7
  | brk=>obtain ⟨σ7,H7,I7,q7⟩:=q7;exact ⟨σ7,H7,I7.unpinned,q7⟩
  | ret v=>obtain ⟨x7,σ7,H7,I7,r7,q7⟩:=q7;exact ⟨x7,σ7,H7,I7.unpinned,r7,q7⟩
end
end L2
namespace L2
open PySem PySem.Spec PyProof.Rows
abbrev R2:=V->V->Hp->VK->Prop
def OpR (X:Cx) (f:Value->Value->Sem Value) (r:R2):Prop:=
 ∀ (pins:List (Addr×Obj)) (s:Shared) (σ:St) (H:Hp) (x y:V) (v u:Value) (Q:VK),Inv X pins σ H s->RelV x v->RelV y u->r x y H Q →
  wpAny (model X.prog X.w) X.A (f v u) (EP X pins σ Q) X.xe s
def UnR (X:Cx) (f:Value->Sem Value) (r:V->Hp->VK->Prop):Prop:=
 ∀ (pins:List (Addr×Obj)) (s:Shared) (σ:St) (H:Hp) (x:V) (v:Value) (Q:VK),Inv X pins σ H s->RelV x v->r x H Q →
  wpAny (model X.prog X.w) X.A (f v) (EP X pins σ Q) X.xe s
def CallR (X:Cx) (f:Value) (r:List V->Hp->VK->Prop):Prop:=
 ∀ (pins:List (Addr×Obj)) (s:Shared) (σ:St) (H:Hp) (xs:List V) (us:List Value) (Q:VK),Inv X pins σ H s->Vals xs us->r xs H Q →
  wpAny (model X.prog X.w) X.A (call f us) (EP X pins σ Q) X.xe s
def TruR (X:Cx) (r:V->Hp->(Bool->Hp->Prop)->Prop):Prop:=
 ∀ (pins:List (Addr×Obj)) (s:Shared) (σ:St) (H:Hp) (x:V) (v:Value) (Q:Bool->Hp->Prop),Inv X pins σ H s->RelV x v->r x H Q →
  wpAny (model X.prog X.w) X.A (truthy v) (TP X pins σ Q) X.xe s
def tOp (r:R2) (ta tb:TE):TE:=fun σ H Q=>ta σ H fun x H1=>tb σ H1 fun y H2=>r x y H2 Q
def tUn (r:V->Hp->VK->Prop) (ta:TE):TE:=fun σ H Q=>ta σ H fun x H1=>r x H1 Q
def rI (C:Int->Int->Prop) (g:Int->Int->V):R2:=fun x y H Q=>∃ i j,x = .int i/\y = .int j/\C i j/\Q (g i j) H
def rI0 (g:Int->Int->V):R2:=fun x y H Q=>∃ i j,x = .int i/\y = .int j/\Q (g i j) H
def rU (g:Int->V):V->Hp->VK->Prop:=fun x H Q=>∃ i,x = .int i/\Q (g i) H
section
variable {X:Cx} {a b c:Expr} {ta tb tc:TE} {pos:Pos}
theorem binT (ha:PE X a ta) (hb:PE X b tb) {pins:List (Addr×Obj)} {s:Shared} {σ:St} {H:Hp} {R:V->V->Hp->Prop} (I:Inv X pins σ H s)
  (h:ta σ H fun x H1=>tb σ H1 fun y H2=>R x y H2) {Q:Value->Shared->Prop} {f:Value->Value->Sem Value}
  (hf:∀ v u s2 x y H2,Inv X pins σ H2 s2->RelV x v->RelV y u->R x y H2->wpAny (model X.prog X.w) X.A (f v u) Q X.xe s2) :
  wpAny (model X.prog X.w) X.A (eval a X.env) (fun v s₁=>wpAny (model X.prog X.w) X.A (eval b X.env) (fun u s₂=>wpAny (model X.prog X.w) X.A (f v u) Q X.xe s₂) X.xe s₁) X.xe s:=by
 refine thn (ha pins s σ H _ I h) fun v s1 ⟨x,H1,I1,r1,q1⟩=>?_
 refine thn (hb pins s1 σ H1 _ I1 q1) fun u s2 ⟨y,H2,I2,r2,q2⟩=>?_
 exact hf v u s2 x y H2 I2 r1 r2 q2
theorem pe_op {op:Operator} {r:R2} (ho:OpR X (binaryOp op) r) (ha:PE X a ta) (hb:PE X b tb):PE X (.BinOp a op b pos) (tOp r ta tb):=by
 intro pins s σ H Q I h
 exact wpAny_BinOp (binT ha hb I h fun v u s2 x y H2 I2 rx ry q=>ho pins s2 σ H2 x y v u Q I2 rx ry q)
theorem pe_un {op:UnaryOp} {r:V->Hp->VK->Prop} (ho:UnR X (unaryOp op) r) (ha:PE X a ta):PE X (.UnaryOp op a pos) (tUn r ta):=by
 intro pins s σ H Q I h
 exact UnaryOp_ (thn (ha pins s σ H _ I h) fun v s1 ⟨x,H1,I1,r1,q1⟩=>ho pins s1 σ H1 x v Q I1 r1 q1)
theorem opI {f:Value->Value->Sem Value} {C:Int->Int->Prop} {g:Int->Int->Int}
  (rule:∀ (i j:Int) (t u:Tok) (s:Shared) (Q:Value->Shared->Prop) (E:Value->Shared->Prop),C i j->Q (.int (g i j) s.toks) { s with toks:=s.toks+1 }->wpAny (model X.prog X.w) X.A (f (.int i t) (.int j u)) Q E s) :
  OpR X f (rI C fun i j=>.int (g i j)):=by
 intro pins s σ H x y v u Q I rx ry h
 obtain ⟨i,j,rfl,rfl,hc,q⟩:=h
 obtain ⟨t,rfl⟩:=rx
 obtain ⟨t',rfl⟩:=ry
 exact rule i j t t' s _ _ hc ⟨.int (g i j),H,I.tok _,⟨_,rfl⟩,q⟩
theorem opI0 {f:Value->Value->Sem Value} {g:Int->Int->Int}
  (rule:∀ (i j:Int) (t u:Tok) (s:Shared) (Q:Value->Shared->Prop) (E:Value->Shared->Prop),Q (.int (g i j) s.toks) { s with toks:=s.toks+1 }->wpAny (model X.prog X.w) X.A (f (.int i t) (.int j u)) Q E s) :
  OpR X f (rI0 fun i j=>.int (g i j)):=by
 intro pins s σ H x y v u Q I rx ry h
 obtain ⟨i,j,rfl,rfl,q⟩:=h
 obtain ⟨t,rfl⟩:=rx
 obtain ⟨t',rfl⟩:=ry
 exact rule i j t t' s _ _ ⟨.int (g i j),H,I.tok _,⟨_,rfl⟩,q⟩
theorem opB0 {f:Value->Value->Sem Value} {g:Int->Int->Bool}
  (rule:∀ (i j:Int) (t u:Tok) (s:Shared) (Q:Value->Shared->Prop) (E:Value->Shared->Prop),Q (.bool (g i j)) s->wpAny (model X.prog X.w) X.A (f (.int i t) (.int j u)) Q E s) :
  OpR X f (rI0 fun i j=>.bl (g i j)):=by
 intro pins s σ H x y v u Q I rx ry h
 obtain ⟨i,j,rfl,rfl,q⟩:=h
 obtain ⟨t,rfl⟩:=rx
 obtain ⟨t',rfl⟩:=ry
 exact rule i j t t' s _ _ ⟨.bl (g i j),H,I,rfl,q⟩
def CDiv (i j:Int):Prop:=0 < j/\j < 1073741824
def CPow (i j:Int):Prop:=0<=j/\j<=1000000/\i.natAbs < 2 ^ 64
def CMul (i j:Int):Prop:=(-(2 ^ 64) < i/\i < 2 ^ 64)\/(-(2 ^ 64) < j/\j < 2 ^ 64)
theorem CMul.ok {i j:Int} (h:CMul i j):IntMulOk i j:=by
 rcases h with ⟨h1,h2⟩ | ⟨h1,h2⟩
 ·exact .of_left (intBits_le_64 h1 h2)
 ·exact .of_right (intBits_le_64 h1 h2)
theorem op_add:OpR X (binaryOp .Add) (rI0 fun i j=>.int (i+j)):=opI0 fun _ _ _ _ _ _ _ q=>add_int q
theorem op_sub:OpR X (binaryOp .Sub) (rI0 fun i j=>.int (i - j)):=opI0 fun _ _ _ _ _ _ _ q=>sub_int q
theorem op_mul:OpR X (binaryOp .Mult) (rI CMul fun i j=>.int (i * j)):=opI fun _ _ _ _ _ _ _ hc q=>mul_int q hc.ok
theorem op_fdiv:OpR X (binaryOp .FloorDiv) (rI CDiv fun i j=>.int (i / j)):=opI fun i j _ _ _ _ _ hc q=>by
 have h1:(0:Int) < j:=hc.1
 have h2:j < 1073741824:=hc.2
 exact floordiv_int (by omega) (by rw [Int.fdiv_eq_ediv_of_nonneg i (by omega)];exact q) (.inl (PyProof.noPylong_small (by omega)))
theorem op_mod:OpR X (binaryOp .Mod) (rI (fun _ j=>0 < j) fun i j=>.int (i % j)):=opI fun i j _ _ _ _ _ hc q=>by
 have h1:(0:Int) < j:=hc
 exact mod_int' (by omega) (by rw [Int.fmod_eq_emod_of_nonneg i (by omega)];exact q)
theorem op_pow:OpR X (binaryOp .Pow) (rI CPow fun i j=>.int (i ^ j.toNat)):=opI fun _ _ _ _ _ _ _ hc q=>pow_int_small hc.1 hc.2.1 hc.2.2 q
theorem op_shl:OpR X (binaryOp .LShift) (rI CPow fun i j=>.int (i * 2 ^ j.toNat)):=opI fun _ _ _ _ _ _ _ hc q=>lshift_int_small hc.1 hc.2.1 hc.2.2 q
theorem unI {f:Value->Sem Value} {g:Int->Int}
  (rule:∀ (i:Int) (t:Tok) (s:Shared) (Q:Value->Shared->Prop) (E:Value->Shared->Prop),Q (.int (g i) s.toks) { s with toks:=s.toks+1 }->wpAny (model X.prog X.w) X.A (f (.int i t)) Q E s) :
  UnR X f (rU fun i=>.int (g i)):=by
 intro pins s σ H x v Q I rx h
 obtain ⟨i,rfl,q⟩:=h
 obtain ⟨t,rfl⟩:=rx
 exact rule i t s _ _ ⟨.int (g i),H,I.tok _,⟨_,rfl⟩,q⟩
theorem un_neg:UnR X (unaryOp .USub) (rU fun i=>.int (-i)):=unI fun _ _ _ _ _ q=>neg_int q
end
def scal:V->V->Bool
 | .non,.non=>true | .non,.int _=>true | .int _,.non=>true | .non,.bl _=>true | .bl _,.non=>true | .non,.str _=>true | .str _,.non=>true
 | .int _,.int _=>true | .bl _,.bl _=>true | .str _,.str _=>true | .byt _,.byt _=>true
 | .int _,.str _=>true | .str _,.int _=>true | .bl _,.str _=>true | .str _,.bl _=>true
 | _,_=>false
def rEq:R2:=fun x y H Q=>scal x y=true/\Q (.bl (decide (x=y))) H
def rNe:R2:=fun x y H Q=>scal x y=true/\Q (.bl (!decide (x=y))) H
theorem dec_int {i j:Int}:decide (V.int i=V.int j)=(i == j):=by
 rw [Bool.eq_iff_iff]
 simp
theorem dec_bl {i j:Bool}:decide (V.bl i=V.bl j)=(i == j):=by
 rw [Bool.eq_iff_iff]
 simp
theorem dec_str {i j:Str}:decide (V.str i=V.str j)=(i == j):=by
 rw [Bool.eq_iff_iff]
 simp
theorem dec_byt {i j:Array UInt8}:decide (V.byt i=V.byt j)=(i.toList == j.toList):=by
 rw [Bool.eq_iff_iff]
 cases i
 cases j
 simp
section
variable {X:Cx} {a b c:Expr} {ta tb tc:TE} {pos:Pos}
theorem fin_bl {pins:List (Addr×Obj)} {σ:St} {H:Hp} {s:Shared} {Q:VK} {k k':Bool} (I:Inv X pins σ H s) (q:Q (.bl k) H) (e:k=k'):EP X pins σ Q (.bool k') s:=by
 subst e
 exact ⟨.bl k,H,I,rfl,q⟩
theorem op_eq:OpR X (compareOp .Eq) rEq:=by
 intro pins s σ H x y v u Q I rx ry h
 obtain ⟨hs,q⟩:=h
 cases x with
 | non=>
  cases rx
  cases y with
  | non=>cases ry;exact PySem.EqNone.eq_none_none (fin_bl I q (by simp))
  | bl j=>cases ry;exact PySem.EqNone.eq_none_bool (fin_bl I q (by simp))
  | int j=>obtain ⟨t',rfl⟩:=ry;exact PySem.EqNone.eq_none_int (fin_bl I q (by simp))
  | str j=>obtain ⟨t',rfl⟩:=ry;exact PySem.EqNone.eq_none_str (fin_bl I q (by simp))
  | _=>exact absurd (show false=true from hs) Bool.false_ne_true
 | bl i=>
  cases rx
  cases y with
  | non=>cases ry;exact PySem.EqNone.eq_bool_none (fin_bl I q (by simp))
  | bl j=>cases ry;exact eq_bool (fin_bl I q dec_bl)
  | str j=>obtain ⟨t',rfl⟩:=ry;exact PySem.EqMixed.eq_bool_str (fin_bl I q (by simp))
  | _=>exact absurd (show false=true from hs) Bool.false_ne_true
 | int i=>
  obtain ⟨t,rfl⟩:=rx
  cases y with
  | non=>cases ry;exact PySem.EqNone.eq_int_none (fin_bl I q (by simp))
  | int j=>obtain ⟨t',rfl⟩:=ry;exact eq_int (fin_bl I q dec_int)
  | str j=>obtain ⟨t',rfl⟩:=ry;exact PySem.EqMixed.eq_int_str (fin_bl I q (by simp))
  | _=>exact absurd (show false=true from hs) Bool.false_ne_true
 | str i=>
  obtain ⟨t,rfl⟩:=rx
  cases y with
  | non=>cases ry;exact PySem.EqNone.eq_str_none (fin_bl I q (by simp))
  | bl j=>cases ry;exact PySem.EqMixed.eq_str_bool (fin_bl I q (by simp))
  | int j=>obtain ⟨t',rfl⟩:=ry;exact PySem.EqMixed.eq_str_int (fin_bl I q (by simp))
  | str j=>obtain ⟨t',rfl⟩:=ry;exact eq_str (fin_bl I q dec_str)
  | _=>exact absurd (show false=true from hs) Bool.false_ne_true
 | byt i=>
  obtain ⟨t,rfl⟩:=rx
  cases y with
  | byt j=>obtain ⟨t',rfl⟩:=ry;exact PySem.W.eq_bytes (fin_bl I q dec_byt)
  | _=>exact absurd (show false=true from hs) Bool.false_ne_true
 | _=>cases y<;>exact absurd (show false=true from hs) Bool.false_ne_true
theorem op_ne:OpR X (compareOp .NotEq) rNe:=by
 intro pins s σ H x y v u Q I rx ry h
 obtain ⟨hs,q⟩:=h
 cases x with
 | non=>
  cases rx
  cases y with
  | non=>cases ry;exact PySem.EqNone.ne_none_none (fin_bl I q (by simp))
  | bl j=>cases ry;exact PySem.EqNone.ne_none_bool (fin_bl I q (by simp))
  | int j=>obtain ⟨t',rfl⟩:=ry;exact PySem.EqNone.ne_none_int (fin_bl I q (by simp))
  | str j=>obtain ⟨t',rfl⟩:=ry;exact PySem.EqNone.ne_none_str (fin_bl I q (by simp))
  | _=>exact absurd (show false=true from hs) Bool.false_ne_true
 | bl i=>
  cases rx
  cases y with
  | non=>cases ry;exact PySem.EqNone.ne_bool_none (fin_bl I q (by simp))
  | bl j=>cases ry;exact ne_bool (fin_bl I q (congrArg not dec_bl))
  | str j=>obtain ⟨t',rfl⟩:=ry;exact PySem.EqMixed.ne_bool_str (fin_bl I q (by simp))
  | _=>exact absurd (show false=true from hs) Bool.false_ne_true
 | int i=>
  obtain ⟨t,rfl⟩:=rx
  cases y with
  | non=>cases ry;exact PySem.EqNone.ne_int_none (fin_bl I q (by simp))
  | int j=>obtain ⟨t',rfl⟩:=ry;exact ne_int (fin_bl I q (congrArg not dec_int))
  | str j=>obtain ⟨t',rfl⟩:=ry;exact PySem.EqMixed.ne_int_str (fin_bl I q (by simp))
  | _=>exact absurd (show false=true from hs) Bool.false_ne_true
 | str i=>
  obtain ⟨t,rfl⟩:=rx
  cases y with
  | non=>cases ry;exact PySem.EqNone.ne_str_none (fin_bl I q (by simp))
  | bl j=>cases ry;exact PySem.EqMixed.ne_str_bool (fin_bl I q (by simp))
  | int j=>obtain ⟨t',rfl⟩:=ry;exact PySem.EqMixed.ne_str_int (fin_bl I q (by simp))
  | str j=>obtain ⟨t',rfl⟩:=ry;exact ne_str (fin_bl I q (congrArg not dec_str))
  | _=>exact absurd (show false=true from hs) Bool.false_ne_true
 | byt i=>
  obtain ⟨t,rfl⟩:=rx
  cases y with
  | byt j=>obtain ⟨t',rfl⟩:=ry;exact PySem.W.ne_bytes (fin_bl I q (congrArg not dec_byt))
  | _=>exact absurd (show false=true from hs) Bool.false_ne_true
 | _=>cases y<;>exact absurd (show false=true from hs) Bool.false_ne_true
theorem op_lt:OpR X (compareOp .Lt) (rI0 fun i j=>.bl (decide (i < j))):=opB0 fun _ _ _ _ _ _ _ q=>lt_int q
theorem op_le:OpR X (compareOp .LtE) (rI0 fun i j=>.bl (decide (i<=j))):=opB0 fun _ _ _ _ _ _ _ q=>le_int q
theorem op_gt:OpR X (compareOp .Gt) (rI0 fun i j=>.bl (decide (j < i))):=opB0 fun _ _ _ _ _ _ _ q=>gt_int q
theorem op_ge:OpR X (compareOp .GtE) (rI0 fun i j=>.bl (decide (j<=i))):=opB0 fun _ _ _ _ _ _ _ q=>ge_int q
theorem op_isN:OpR X (compareOp .Is) (fun x y H Q=>y = .non/\Q (.bl (decide (x = .non))) H):=by
 intro pins s σ H x y v u Q I rx ry h
 obtain ⟨rfl,q⟩:=h
 cases ry
 refine is_none_gen (fin_bl I q ?_)
 cases x<;>first
  | (cases rx;rfl)
  | (obtain ⟨t,rfl⟩:=rx;rfl)
theorem op_notN:OpR X (compareOp .IsNot) (fun x y H Q=>y = .non/\Q (.bl (!decide (x = .non))) H):=by
 intro pins s σ H x y v u Q I rx ry h
 obtain ⟨rfl,q⟩:=h
 cases ry
 refine isnot_none_gen (fin_bl I q ?_)
 cases x<;>first
  | (cases rx;rfl)
  | (obtain ⟨t,rfl⟩:=rx;rfl)
theorem OpR.or {f:Value->Value->Sem Value} {r r':R2} (h:OpR X f r) (h':OpR X f r'):OpR X f (fun x y H Q=>r x y H Q\/r' x y H Q):=by
 intro pins s σ H x y v u Q I rx ry q
 rcases q with q | q
 ·exact h pins s σ H x y v u Q I rx ry q
 ·exact h' pins s σ H x y v u Q I rx ry q
theorem nomark (b:Expr) {op:CmpOp} (h:op≠.In:=by decide) (h2:op≠.NotIn:=by decide):behindInMarks op b=false:=by
 have e1:(op == CmpOp.In)=false:=by cases op<;>first | rfl | exact absurd rfl h
 have e2:(op == CmpOp.NotIn)=false:=by cases op<;>first | rfl | exact absurd rfl h2
 cases b<;>simp [behindInMarks,e1,e2]
theorem pe_cmpR {op:CmpOp} {r:R2} (ho:OpR X (compareOp op) r) (ha:PE X a ta) (hb:PE X b tb) (hm:behindInMarks op b=false):PE X (.Compare a [op] [b] pos) (tOp r ta tb):=by
 intro pins s σ H Q I h
 exact wpAny_Compare1 (binT ha hb I h fun v u s2 x y H2 I2 rx ry q=>ho pins s2 σ H2 x y v u Q I2 rx ry q) hm
def TruV (K:PySem.W.Frag) (x:V) (H:Hp) (k:Bool):Prop:=
 match x with
 | .non=>k=false
 | .bl b=>k=b
 | .int i=>k=(i != 0)
 | .str y=>y.length<=sizeLine/\k=((y.length:Int) != 0)
 | .byt y=>y.size<=sizeLine/\k=((y.size:Int) != 0)
 | .ref p=>(∃ xs,SqL K H p xs/\k=!xs.isEmpty)\/(∃ xs,SqT K H p xs/\k=!xs.isEmpty)\/∃ kvs,H p=some (.dK kvs)/\k=!kvs.isEmpty
 | _=>False
theorem isEmpty_kv {κ:Type} {kvs:List (κ×V)} {vs:List (κ×Value)} (r:KV kvs vs):(!vs.isEmpty)=!kvs.isEmpty:=by
 cases r<;>rfl
theorem isEmpty_of {xs:List V} {its:List Value} (r:Vals xs its):(!its.toArray.isEmpty)=!xs.isEmpty:=by
 cases r<;>simp
theorem line63:(sizeLine:Nat) < 2 ^ 63:=by rw [sizeLine_eq];decide
theorem tru_ok:TruR X (fun x H Q=>∃ k,TruV X.K x H k/\Q k H):=by
 intro pins s σ H x v Q I rx h
 obtain ⟨k,e,q⟩:=h
 have hl:=line63
 have hs:sizeLine=16777216:=sizeLine_eq
 cases x with
 | non=>
  cases rx
  have e':k=false:=e
  subst e'
  exact truthy_none ⟨H,I,q⟩
 | bl b=>
  cases rx
  have e':k=b:=e
  subst e'
  exact wpAny_truthy_bool ⟨H,I,q⟩
 | int i=>
  obtain ⟨t,rfl⟩:=rx
  have e':k=(i != 0):=e
  subst e'
  exact PySem.P.truthy_int ⟨H,I,q⟩
 | str y=>
  obtain ⟨t,rfl⟩:=rx
  obtain ⟨hy,e'⟩ : y.length<=sizeLine/\k=((y.length:Int) != 0):=e
  subst e'
  exact PySem.P.truthy_str (by omega) ⟨H,I.tok _,q⟩
 | byt y=>
  obtain ⟨t,rfl⟩:=rx
  obtain ⟨hy,e'⟩ : y.size<=sizeLine/\k=((y.size:Int) != 0):=e
  subst e'
  exact PySem.W.truthy_bytes (by omega) ⟨H,I.tok _,q⟩
 | ref p=>
  cases rx
  have e':(∃ xs,SqL X.K H p xs/\k=!xs.isEmpty)\/(∃ xs,SqT X.K H p xs/\k=!xs.isEmpty)\/∃ kvs,H p=some (.dK kvs)/\k=!kvs.isEmpty:=e
  rcases e' with ⟨xs,hx,e'⟩ | ⟨xs,hx,e'⟩ | ⟨kvs,hx,e'⟩
  ·subst e'
   obtain ⟨its,r,pl,hz⟩:=I.list hx
   have hlen:=r.length
   exact wpAny_truthy_list pl.isList (by simp only [List.size_toArray];omega) ⟨H,I.tok _,by rw [isEmpty_of r];exact q⟩
  ·subst e'
   obtain ⟨its,r,pl,hz⟩:=I.tuple hx
   have hlen:=r.length
   exact truthy_tuple pl (by simp only [List.size_toArray];omega) ⟨H,I.tok _,by rw [isEmpty_of r];exact q⟩
  ·subst e'
   obtain ⟨hz,hS,vs,r,m⟩ : kvs.length<=sizeLine/\(p == sysModules)=false/\∃ vs,KV kvs vs/\s.heap.DictOf (mixKind X.prog X.w) p vs:=I.hok p _ hx
   have hlen:kvs.length=vs.length:=Paired.length r
   exact wpAny_truthy_dict hS m (by omega) ⟨H,I.tok _,by rw [isEmpty_kv r];exact q⟩
 | _=>exact (show False from e).elim
theorem op_add_str:OpR X (binaryOp .Add) (fun x y H Q=>∃ i j,x = .str i/\y = .str j/\i.length+j.length<=sizeLine/\Q (.str (i++j)) H):=by
 intro pins s σ H x y v u Q I rx ry h
 obtain ⟨i,j,rfl,rfl,hz,q⟩:=h
 obtain ⟨t,rfl⟩:=rx
 obtain ⟨t',rfl⟩:=ry
 exact add_str (fun t' tk=>⟨.str (i++j),H,I.tok _,⟨_,rfl⟩,q⟩) hz
theorem vals1 {x:V} {us:List Value} (r:Vals [x] us):∃ u,us=[u]/\RelV x u:=by
 cases r with
 | cons r1 r2=>cases r2;exact ⟨_,rfl,r1⟩
theorem vals2 {x y:V} {us:List Value} (r:Vals [x,y] us):∃ u w',us=[u,w']/\RelV x u/\RelV y w':=by
 cases r with
 | cons r1 r2=>
  cases r2 with
  | cons r3 r4=>cases r4;exact ⟨_,_,rfl,r1,r3⟩
theorem call_max2 (hc:X.calm=true):CallR X (.builtin "max") (fun xs H Q=>∃ i j,xs=[.int i,.int j]/\Q (.int (if j > i then j else i)) H):=by
 intro pins s σ H xs us Q I r h
 obtain ⟨i,j,rfl,q⟩:=h
 obtain ⟨u,w',rfl,⟨t,rfl⟩,⟨t',rfl⟩⟩:=vals2 r
 refine max_two_ints (I.ok.hd hc) fun h' tk k=>⟨_,H,I.kept k,?_,q⟩
 by_cases hj:j > i
 ·rw [if_pos hj,if_pos hj];exact ⟨_,rfl⟩
 ·rw [if_neg hj,if_neg hj];exact ⟨_,rfl⟩
theorem call_min2 (hc:X.calm=true):CallR X (.builtin "min") (fun xs H Q=>∃ i j,xs=[.int i,.int j]/\Q (.int (if j < i then j else i)) H):=by
 intro pins s σ H xs us Q I r h
 obtain ⟨i,j,rfl,q⟩:=h
 obtain ⟨u,w',rfl,⟨t,rfl⟩,⟨t',rfl⟩⟩:=vals2 r
 refine min_two_ints (I.ok.hd hc) fun h' tk k=>⟨_,H,I.kept k,?_,q⟩
 by_cases hj:j < i
 ·rw [if_pos hj,if_pos hj];exact ⟨_,rfl⟩
 ·rw [if_neg hj,if_neg hj];exact ⟨_,rfl⟩
theorem call_int1:CallR X (.type "int") (fun xs H Q=>(∃ i,xs=[.int i]/\Q (.int i) H)\/∃ k,xs=[.bl k]/\Q (.int (if k then 1 else 0)) H):=by
 intro pins s σ H xs us Q I r h
 rcases h with ⟨i,rfl,q⟩ | ⟨k,rfl,q⟩
 ·obtain ⟨u,rfl,t,rfl⟩:=vals1 r
  exact call_int_int ⟨.int i,H,I,⟨_,rfl⟩,q⟩
 ·obtain ⟨u,rfl,r1⟩:=vals1 r
  cases r1
  exact call_int_bool ⟨.int (if k then 1 else 0),H,I.tok _,⟨_,rfl⟩,q⟩
theorem call_str_int:CallR X (.type "str") (fun xs H Q=>∃ i,xs=[.int i]/\i.natAbs.log2 < 1920/\Q (.str (toString i)) H):=by
 intro pins s σ H xs us Q I r h
 obtain ⟨i,rfl,hz,q⟩:=h
 obtain ⟨u,rfl,t,rfl⟩:=vals1 r
 exact PySem.P.str_of_int hz ⟨.str _,H,I.tok _,⟨_,rfl⟩,q⟩
end
end L2
namespace L2
open PySem PySem.Spec PyProof.Rows
section
variable {prog:Program} {w:World} {A:Around} {E:Value->Shared->Prop} {s:Shared} {K:PySem.W.Frag} {x dx C f:Addr} {mA:Str->Option Value} {name:Str} {v:Value}
end
section
variable {P:Program} {w:World} {H H':Hp} {h h':Heap} {a C dx:Addr} {fs fs':List (Str×V)}
end
section
variable {X:Cx} {pins:List (Addr×Obj)} {σ:St} {H:Hp} {s:Shared} {a C dx:Addr} {fs:List (Str×V)} {f:Str} {v:V} {A:Around} {E:Value->Shared->Prop}
end
section
variable {X:Cx} {o e value:Expr} {f:Str} {pos pos' tpos:Pos} {ta tv:TE}
end
section
variable {X:Cx} {pins:List (Addr×Obj)} {σ:St} {H:Hp} {s:Shared} {A:Around} {E:Value->Shared->Prop} {Q:Value->Shared->Prop} {c:Value} {b:Bool}
end
end L2
namespace L2
open PySem PySem.Spec PyProof.Rows
structure Room (k:Nat) (A:Around):Prop where
 hd:A.handled=none
 dp:A.depth+3 * k+5 < recursionLimit
 un:A.units+16 * k+200 < cLine
theorem Room.mono {j k:Nat} {A:Around} (r:Room k A) (h:j<=k):Room j A:=⟨r.hd,by have:=r.dp;omega,by have:=r.un;omega⟩
theorem Room.deeper {k:Nat} {A:Around} (r:Room (k+1) A) (env:Env):Room k (A.deeper env):=
 ⟨r.hd,by have:=r.dp;show A.depth+1+3 * k+5 < _;omega,by have:=r.un;show A.units+3+16 * k+200 < _;omega⟩
theorem Room.in1 {k:Nat} {A:Around} (r:Room (k+1) A):Room k A.in1:=
 ⟨r.hd,by have:=r.dp;show A.depth+3 * k+5 < _;omega,by have:=r.un;show A.units+1+16 * k+200 < _;omega⟩
theorem Room.depth {k:Nat} {A:Around} (r:Room k A):A.depth < recursionLimit:=by have:=r.dp;omega
theorem Room.units {k:Nat} {A:Around} (r:Room k A):A.units+64 < cLine:=by have:=r.un;omega
def tNil:TA:=fun _ H Q=>Q [] H
def tCons (ta:TE) (tr:TA):TA:=fun σ H Q=>ta σ H fun x H1=>tr σ H1 fun xs H2=>Q (x :: xs) H2
section
variable {X:Cx} {e:Expr} {es:List Expr} {te:TE} {t:TA} {pos:Pos}
theorem pa_nil:PA X [] tNil:=fun _ _ _ _ H Q I h=>Calls.spliced_nil ⟨[],H,I,.nil,h⟩
theorem pa_cons (ha:PE X e te) (hr:PA X es t) (hs:starEach (e :: es) X.env=(false,eval e X.env) :: starEach es X.env:=by rfl):PA X (e :: es) (tCons te t):=by
 intro pos pins s σ H Q I h
 rw [hs]
 show wpAny _ _ (spliced ((false,eval e X.env) :: backTo pos (starEach es X.env))) _ _ s
 refine Calls.spliced_cons (thn (ha pins s σ H _ I h) fun u s1 ⟨x,H1,I1,r1,q1⟩=>?_)
 exact thn (hr pos pins s1 σ H1 _ I1 q1) fun us s2 ⟨xs,H2,I2,r2,q2⟩=>⟨x :: xs,H2,I2,.cons r1 r2,q2⟩
def tTup (t:TA):TE:=fun σ H Q=>t σ H fun xs H1=>xs.length<=sizeLine/\∀ p,H1 p=none->Q (.ref p) (upd H1 p (.tup xs))
def tLst (t:TA):TE:=fun σ H Q=>t σ H fun xs H1=>xs.length<=sizeLine/\∀ p,H1 p=none->Q (.ref p) (upd H1 p (.lst xs))
theorem pe_tup {x1} (h:PA X es t):PE X (.Tuple es x1 pos) (tTup t):=by
 intro pins s σ H Q I hq
 refine wpAny_Tuple_spliced (thn (h pos pins s σ H _ I hq) fun us s1 ⟨xs,H1,I1,r,z,q⟩=>⟨by rw [<-r.length];exact z,?_⟩)
 have hf:H1 s1.heap.objs.size=none:=I1.hok.fresh (Nat.le_refl _)
 refine ⟨.ref s1.heap.objs.size,upd H1 s1.heap.objs.size (.tup xs),I1.laid (t':=s1.toks) (fun b u e=>Heap.get?_push_of_some _ e) (Nat.le_refl _) ?_,rfl,q _ hf⟩
 exact ⟨z,us,r,⟨_,Heap.get?_push_size _ rfl,rfl,_,rfl⟩⟩
theorem pe_lst (h:PA X es t):PE X (.List es pos) (tLst t):=by
 intro pins s σ H Q I hq
 refine wpAny_List_spliced (thn (h pos pins s σ H _ I hq) fun us s1 ⟨xs,H1,I1,r,z,q⟩=>⟨by rw [<-r.length];exact z,?_⟩)
 have hf:H1 s1.heap.objs.size=none:=I1.hok.fresh (Nat.le_refl _)
 refine ⟨.ref s1.heap.objs.size,upd H1 s1.heap.objs.size (.lst xs),I1.laid (t':=s1.toks) (fun b u e=>Heap.get?_push_of_some _ e) (Nat.le_refl _) ?_,rfl,q _ hf⟩
 exact ⟨z,us,0,r,Heap.get?_push_size _ rfl⟩
end
abbrev Sp:=List V->Hp->VK->XK->Prop
abbrev CXT:=List Env->Hp->Shared->XK->Value->Shared->Prop
structure Env0 (P:Program) (w:World) (K:PySem.W.Frag) (mg:Str->Option Value) (base:Heap) (A:Around) (outer:List Env) (s:Shared) (H:Hp):Prop where
 frames:A.frames=some outer
 mod:Mod K mg base
 bs:∀ b o,base.get? b=some o->s.heap.get? b=some o/\H b=none
 bsz:base.objs.size<=s.heap.objs.size
 funs:s.heap.FunFrames base outer
 frf:∀ b∈frs outer,H b=none
 hok:HOk P w H s.heap
 bare:AllBare s.gens
def CE (outer:List Env) (P:Program) (w:World) (H:Hp) (s:Shared) (Q:VK) (u:Value) (s':Shared):Prop:=
 ∃ v H',s'.os=s.os/\AllBare s'.gens/\Un (frs outer) [] H H' s.heap s'.heap/\HOk P w H' s'.heap/\RelV v u/\Q v H'
def CR (CX:CXT) (outer:List Env) (P:Program) (w:World) (H:Hp) (s:Shared) (Q:VK) (E:XK) (r:Result) (s':Shared):Prop:=
 match r with
 | .ok (.ret u)=>CE outer P w H s Q u s'
 | .ok _=>False
 | .error e=>CX outer H s E e s'
structure FnOk (P:Program) (w:World) (K:PySem.W.Frag) (mg:Str->Option Value) (base:Heap) (CX:CXT) (k:Nat) (f:Addr) (fd:FuncData) (ps:List Str) (sp:Sp):Prop where
 len:∀ vs H Q E,sp vs H Q E->vs.length=ps.length
 run:∀ (A:Around) (outer:List Env) (s:Shared) (H:Hp) (args:Args) (us:List Value) (vs:List V) (Q:VK) (E:XK),Room k A->Env0 P w K mg base A outer s H->BindsTo s fd args (ps.zip us)->Vals vs us->sp vs H Q E →
  codeAny (model P w) A (.call (.ref f) args) (CR CX outer P w H s Q E) s
theorem FnOk.mono {P:Program} {w:World} {K:PySem.W.Frag} {mg:Str->Option Value} {base:Heap} {CX:CXT} {j k:Nat} {f:Addr} {fd:FuncData} {ps:List Str} {sp:Sp} (F:FnOk P w K mg base CX j f fd ps sp) (h:j<=k) :
  FnOk P w K mg base CX k f fd ps sp:=⟨F.len,fun A outer s H args us vs Q E hr=>F.run A outer s H args us vs Q E (hr.mono h)⟩
theorem FnOk.imp {P:Program} {w:World} {K:PySem.W.Frag} {mg:Str->Option Value} {base:Heap} {CX:CXT} {k:Nat} {f:Addr} {fd:FuncData} {ps:List Str} {sp sp':Sp} (F:FnOk P w K mg base CX k f fd ps sp)
  (h:∀ vs H Q E,sp' vs H Q E->sp vs H Q E):FnOk P w K mg base CX k f fd ps sp':=
 ⟨fun vs H Q E q=>F.len vs H Q E (h _ _ _ _ q),fun A outer s H args us vs Q E hr he hb hv hs=>F.run A outer s H args us vs Q E hr he hb hv (h _ _ _ _ hs)⟩
theorem Env0.in1 {P:Program} {w:World} {K:PySem.W.Frag} {mg:Str->Option Value} {base:Heap} {A:Around} {outer:List Env} {s:Shared} {H:Hp} (e:Env0 P w K mg base A outer s H) :
  Env0 P w K mg base A.in1 outer s H:=⟨e.frames,e.mod,e.bs,e.bsz,e.funs,e.frf,e.hok,e.bare⟩
section
variable {X:Cx} {pins:List (Addr×Obj)} {σ:St} {H:Hp} {s s':Shared}
theorem Inv.env0 (I:Inv X pins σ H s):Env0 X.prog X.w X.K X.mg X.base X.A X.stack s H:=
 ⟨I.ok.frames,I.ok.mod,I.bs,Nat.le_trans I.ok.bsz I.sz,I.stack,I.stkFree,I.hok,I.bare⟩
theorem Inv.after {Q:VK} {u:Value} (I:Inv X pins σ H s) (h:CE X.stack X.prog X.w H s Q u s'):EP X pins σ Q u s':=by
 obtain ⟨v,H',os,bare,un,hok,r,q⟩:=h
 obtain ⟨hh,g,d,t,os'⟩:=s'
 obtain rfl:os'=s.os:=os
 exact ⟨v,H',I.call (h':=hh) (g':=g) (d':=d) (t':=t) (ch:=[]) un hok bare (fun b z=>absurd z (by simp)),r,q⟩
end
def tCall (sp:Sp) (dvs:List V) (E:XK) (t:TA):TE:=fun σ H Q=>t σ H fun vs H1=>sp (vs++dvs) H1 Q E
def Binds (K:PySem.W.Frag) (fd:FuncData) (ps:List Str) (ds:List Value):Prop:=
 ∀ (s:Shared) (us:List Value),K.In s.heap->(us++ds).length=ps.length->BindsTo s fd ⟨us,[]⟩ (ps.zip (us++ds))
theorem Binds.all {K:PySem.W.Frag} {fd:FuncData} {ps:List Str} (h:∀ us:List Value,us.length=ps.length->bindArgs fd ⟨us,[]⟩=pure (ps.zip us)):Binds K fd ps []:=fun s us _ hl=>by
 rw [List.append_nil] at hl ⊢
 exact .of_eq (h us hl)
def Passes (CX:CXT) (X:Cx) (E:XK):Prop:=∀ (pins:List (Addr×Obj)) (σ:St) (H:Hp) (s:Shared) (e:Value) (s':Shared),Inv X pins σ H s->CX X.stack H s E e s'->X.xe e s'
section
variable {X:Cx} {CX:CXT} {k:Nat} {f C:Addr} {fd:FuncData} {ps:List Str} {sp:Sp} {dvs:List V} {ds:List Value} {E:XK} {x m:Str} {p pos apos:Pos} {e o:Expr} {es:List Expr} {ta:TE} {t:TA}
theorem run_fn {pins:List (Addr×Obj)} {σ:St} {H:Hp} {s:Shared} {Q:VK} {us:List Value} {vs:List V} (F:FnOk X.prog X.w X.K X.mg X.base CX k f fd ps sp) (hr:Room k X.A) (hb:Binds X.K fd ps ds) (hd:Vals dvs ds) (hx:Passes CX X E)
  (I:Inv X pins σ H s) (r:Vals vs us) (h:sp (vs++dvs) H Q E):wpAny (model X.prog X.w) X.A (call (.ref f) us) (EP X pins σ Q) X.xe s:=by
 have r2:Vals (vs++dvs) (us++ds):=r.append hd
 have hl:(us++ds).length=ps.length:=by rw [<-r2.length];exact F.len _ _ _ _ h
 refine wpAny_call (codeAny_mono (F.run X.A X.stack s H ⟨us,[]⟩ (us++ds) (vs++dvs) Q E hr I.env0 (hb s us I.kIn hl) r2 h) fun r s' hq=>?_)
 cases r with
 | error e=>exact hx pins σ H s e s' I hq
 | ok fl=>
  cases fl with
  | ret u=>exact I.after hq
  | next=>exact False.elim hq
  | brk=>exact False.elim hq
  | cont=>exact False.elim hq
theorem pe_call (F:FnOk X.prog X.w X.K X.mg X.base CX k f fd ps sp) (hr:Room k X.A) (hg:Gl X x) (hm:X.mg x=some (.ref f)) (hk:PySem.W.keepIn X.K (.ref f)=true) (hb:Binds X.K fd ps ds) (hd:Vals dvs ds) (hx:Passes CX X E)
  (ha:PA X (e :: es) t) (hdb:(x == ("__debug__" : Str))=false:=by decide) (he:starEach (e :: es) X.env=(false,eval e X.env) :: starEach es X.env:=by rfl) (hpl:(backTo pos (starEach es X.env)).any (·.1)=false:=by rfl) :
  PE X (.Call (.Name x p) (e :: es) [] pos) (tCall sp dvs E t):=by
 intro pins s σ H Q I h
 refine wpAny_Call_Name_kw (ld_glob I hg hm ?_ hdb)
 refine PySem.W.callWith_K (h₀:=X.base) I.ok.mod.kin hk (thn (ha pos pins s σ H _ I h) fun us s1 ⟨vs,H1,I1,r,q⟩=>⟨I1.kIn,?_⟩) he hpl
 exact run_fn F hr hb hd hx I1 r q
end
section
variable {X:Cx} {CX:CXT} {k:Nat} {f C:Addr} {fd:FuncData} {ps ks:List Str} {sp:Sp} {E:XK} {x m:Str} {p pos apos kpos:Pos} {e o:Expr} {es:List Expr} {kws:List Keyword} {te ta:TE} {t tk:TA} {nm:Option Str}
variable {g:List Value->List Value->List Value} {gV:List V->List V->List V}
end
structure FnScope (N P:List Str) (sc:Scope):Prop where
 kind:sc.kind = .function
 co:sc.isCoroutine=false
 gen:sc.isGenerator=false
 nd:N.Nodup
 pre:N.take P.length=P
 par:∀ x∈P,sc.names.lookup x=some .local\/sc.names.lookup x=some .cell
 nofree:∀ y∈sc.names,y.2≠.free
theorem bindL_out {kindOf:Str->Option NameKind} {x:Str}:∀ {binds:List (Str×Value)} {m:Str->Option Value},(∀ v,(x,v) ∉ binds)->bindL kindOf binds m x=m x
 | [],_,_=>rfl
 | (n,v) :: r,m,h=>by
  unfold bindL
  rw [bindL_out fun w hw=>h w (List.mem_cons_of_mem _ hw)]
  split
  ·have:x≠n:=by rintro rfl;exact h v List.mem_cons_self
   simp [this]
  ·rfl
theorem bindC_out {kindOf:Str->Option NameKind} {x:Str}:∀ {binds:List (Str×Value)} {m:Str->Option Value},(∀ v,(x,v) ∉ binds)->bindC kindOf binds m x=m x
 | [],_,_=>rfl
 | (n,v) :: r,m,h=>by
  unfold bindC
  rw [bindC_out fun w hw=>h w (List.mem_cons_of_mem _ hw)]
  split
  ·rfl
  ·have:x≠n:=by rintro rfl;exact h v List.mem_cons_self
   simp [this]
theorem bindL_get {kindOf:Str->Option NameKind} {x:Str} {v:Value}:∀ {P:List Str} {vs:List Value} {i:Nat} {m:Str->Option Value},P.Nodup->P[i]? = some x->vs[i]? = some v->kindOf x=some .local →
  bindL kindOf (P.zip vs) m x=some v
 | [],_,_,_,_,h,_,_=>by simp at h
 | _ :: _,[],_,_,_,_,h,_=>by simp at h
 | p :: P,w :: vs,0,m,nd,h1,h2,hk=>by
  simp at h1 h2;subst h1;subst h2
  show bindL kindOf ((p,w) :: P.zip vs) m p=_
  unfold bindL
  rw [bindL_out fun v hv=>(List.nodup_cons.mp nd).1 (List.of_mem_zip hv).1,if_pos hk]
  simp
 | p :: P,w :: vs,i+1,m,nd,h1,h2,hk=>by
  show bindL kindOf ((p,w) :: P.zip vs) m x=_
  unfold bindL
  exact bindL_get (i:=i) (List.nodup_cons.mp nd).2 (by simpa using h1) (by simpa using h2) hk
theorem bindC_get {kindOf:Str->Option NameKind} {x:Str} {v:Value}:∀ {P:List Str} {vs:List Value} {i:Nat} {m:Str->Option Value},P.Nodup->P[i]? = some x->vs[i]? = some v->kindOf x≠some .local →
  bindC kindOf (P.zip vs) m x=some v
 | [],_,_,_,_,h,_,_=>by simp at h
 | _ :: _,[],_,_,_,_,h,_=>by simp at h
 | p :: P,w :: vs,0,m,nd,h1,h2,hk=>by
  simp at h1 h2;subst h1;subst h2
  show bindC kindOf ((p,w) :: P.zip vs) m p=_
  unfold bindC
  rw [bindC_out fun v hv=>(List.nodup_cons.mp nd).1 (List.of_mem_zip hv).1,if_neg hk]
  simp
 | p :: P,w :: vs,i+1,m,nd,h1,h2,hk=>by
  show bindC kindOf ((p,w) :: P.zip vs) m x=_
  unfold bindC
  exact bindC_get (i:=i) (List.nodup_cons.mp nd).2 (by simpa using h1) (by simpa using h2) hk
def start (N:List Str) (vs:List V):St:=vs.map some++List.replicate (N.length - vs.length) none
def cxOf (CX:CXT) (P:Program) (w:World) (K:PySem.W.Frag) (mg:Str->Option Value) (base:Heap) (N:List Str) (qual:Str) (scope:Scope) (f:Addr) (cd:Value) (A:Around) (outer:List Env) (s:Shared) (H:Hp) (E:XK):Cx where
 prog:=P
 w:=w
 K:=K
 mg:=mg
 base:=base
 A:=A.deeper (envOfC qual scope s.heap.objs.size f cd)
 N:=N
 s₀:=s
 H₀:=H
 env:=envOfC qual scope s.heap.objs.size f cd
 outer:=outer
 stack:=envOfC qual scope s.heap.objs.size f cd :: outer
 ex:=[]
 calm:=true
 fn:=fun _=>true
 pn:=[]
 xe:=fun e s'=>wpAny (model P w) (A.deeper (envOfC qual scope s.heap.objs.size f cd)) (leaving (envOfC qual scope s.heap.objs.size f cd) e) (fun _ s''=>CX outer H s E e s'') (fun e' s''=>CX outer H s E e' s'') s'
theorem cell_has {sc:Scope} {n:Nat} {x:Str} (h:sc.names.lookup x=some .cell):∃ c,(cellsFrom n sc.names []).lookup x=some c:=by
 have q:=PySem.W.cellsFrom_some sc.names n [] (.inl h)
 exact Option.isSome_iff_exists.mp q
theorem inv_start {CX:CXT} {P:Program} {w:World} {K:PySem.W.Frag} {mg:Str->Option Value} {base:Heap} {N ps:List Str} {qual:Str} {scope:Scope} {f:Addr} {cd:Value} {A:Around} {outer:List Env} {s s1:Shared} {H:Hp} {E:XK} {us:List Value} {vs:List V}
  (S:FnScope N ps scope) (hd:A.handled=none) (e0:Env0 P w K mg base A outer s H) (hl:vs.length=ps.length) (r:Vals vs us)
  (x:InCallC s s.heap.objs.size (bindL (envOfC qual scope s.heap.objs.size f cd).kindOf (ps.zip us) fun _=>none) (cellsFrom (s.heap.objs.size+1) scope.names []) (bindC (envOfC qual scope s.heap.objs.size f cd).kindOf (ps.zip us) fun _=>none) s1) :
  Inv (cxOf CX P w K mg base N qual scope f cd A outer s H E) [] (start N vs) H s1:=by
 have hpl:ps.length<=N.length:=by have:=congrArg List.length S.pre;rw [List.length_take] at this;omega
 obtain ⟨h1,tk,rfl,hk⟩:=x.done
 have noA:∀ b:Addr,b ∉ (cxOf CX P w K mg base N qual scope f cd A outer s H E).ex:=fun b z=>absurd (show b∈([]:List Addr) from z) (by simp)
 refine ⟨⟨e0.mod,S.kind,rfl,rfl,Nat.le_refl _,fun y z c h1 h2=>?_,fun y hy=>?_,fun y c _ h=>?_,fun _=>hd,Around.frames_deeper e0.frames,.inr ⟨rfl,rfl⟩,fun b z=>absurd z (noA b),e0.bs,e0.bsz,fun b _ _=>noA b,fun b z=>absurd z (noA b),e0.funs,e0.frf⟩,
  rfl,e0.bare,Un.kept hk,⟨_,x.toInCall.ns,fun i y v h1 h2 h3=>?_⟩,fun y c h=>⟨_,x.cell y c h⟩,e0.hok.fresh (Nat.le_refl _),fun y c h=>?_,fun p hp=>absurd (show p∈([]:List (Addr×Obj)) from hp) (by simp),e0.hok.kept hk,?_⟩
 ·exact name_of_addr x.apart (PySem.mem_of_lookup h1) (PySem.mem_of_lookup h2)
 ·have hy:scope.names.lookup y=some .cell\/scope.names.lookup y=some .free:=hy
  rcases hy with hy | hy
  ·exact cell_has hy
  ·exact absurd rfl (S.nofree _ (PySem.mem_of_lookup hy))
 ·exact Nat.le_of_lt (x.above y c (PySem.mem_of_lookup h))
 ·have hi:i < vs.length:=by
   unfold start at h2
   by_cases hi:i < vs.length
   ·exact hi
   ·rw [List.getElem?_append_right (by simpa using hi)] at h2
    rw [List.getElem?_replicate] at h2
    split at h2<;>cases h2
  have ha:vs[i]? = some v:=by
   unfold start at h2
   rw [List.getElem?_append_left (by simpa using hi),List.getElem?_map] at h2
   cases e:vs[i]? with
   | none=>rw [e] at h2;cases h2
   | some a=>rw [e] at h2;cases h2;rfl
  obtain ⟨u,hu,rv⟩:=r.get ha
  have hp:ps[i]? = some y:=by
   rw [<-S.pre,List.getElem?_take_of_lt (by omega)];exact h1
  have ndP:ps.Nodup:=by rw [<-S.pre];exact S.nd.sublist (List.take_sublist _ _)
  refine ⟨u,rv,?_⟩
  rcases S.par y (List.mem_of_getElem? hp) with k | k
  ·exact .inl ⟨k,bindL_get ndP hp hu k⟩
  ·obtain ⟨c,e⟩:=cell_has (n:=s.heap.objs.size+1) k
   refine .inr ⟨.inl k,c,e,?_⟩
   have q:=x.cell y c e
   rw [bindC_get ndP hp hu (by show scope.names.lookup y≠_;rw [k];decide)] at q
   exact q
 ·exact e0.hok.fresh (Nat.le_of_lt (x.above y c (PySem.mem_of_lookup h)))
 ·unfold start
  show _=N.length
  rw [List.length_append,List.length_map,List.length_replicate]
  omega
theorem fn_of {CX:CXT} {P:Program} {w:World} {K:PySem.W.Frag} {mg:Str->Option Value} {base:Heap} {k:Nat} {f:Addr} {name qual:Str} {params:Arguments} {body:List Stmt} {scope:Scope} {dV kV doc pm cdv ct oc:Value} {an od:Option Addr}
  {osl:Array (Option Value)} {N ps:List Str} {sp:Sp} (lk:K.lookup f=some ⟨oc,od,.func (PySem.W.fnOf name qual params body scope dV kV doc pm an cdv ct),osl⟩) (hcd:PySem.W.codeIn K cdv qual=true) (S:FnScope N ps scope)
  (len:∀ vs H Q E,sp vs H Q E->vs.length=ps.length)
  (hbody:∀ (A:Around) (outer:List Env) (s:Shared) (H:Hp) (vs:List V) (Q:VK) (E:XK),Room k (A.deeper (envOfC qual scope s.heap.objs.size f cdv))->sp vs H Q E →
   ∃ t,PSs (cxOf CX P w K mg base N qual scope f cdv A outer s H E) body t/\t { nx:=fun _ H'=>Q .non H',rt:=Q } (start N vs) H) :
  FnOk P w K mg base CX (k+1) f (PySem.W.fnOf name qual params body scope dV kV doc pm an cdv ct) ps sp:=by
 refine ⟨len,fun A outer s H args us vs Q E hr e0 hb r hsp=>?_⟩
 have hl:=len _ _ _ _ hsp
 have KX:K.In s.heap:=e0.mod.kin.keeps fun b o e=>(e0.bs b o e).1
 have lim:s.heap.NoLimit:=e0.mod.nolimit.keeps fun b o e=>(e0.bs b o e).1
 have hkind:∀ y∈ps.zip us,scope.names.lookup y.1=some .local\/(scope.names.lookup y.1=some .cell/\((cellsFrom (s.heap.objs.size+1) scope.names []).lookup y.1).isSome=true):=fun ⟨n,v⟩ hy=>by
  rcases S.par n (List.of_mem_zip hy).1 with q | q
  ·exact .inl q
  ·exact .inr ⟨q,PySem.W.cellsFrom_some _ _ _ (.inl q)⟩
 refine codeAny_call_function hr.depth (KX _ _ lk) rfl S.co S.gen rfl (PySem.W.codeRec_of KX hcd) (hb _ _ _ _ ?_)
 refine wpAny_newFunctionEnv_cells S.kind hkind fun env he s1 x=>?_
 subst he
 refine ⟨lim.keeps x.toInCall.keep,codeAny_func ?_⟩
 obtain ⟨t,ht,hq⟩:=hbody A outer s H vs Q E (hr.deeper _) hsp
 have I:Inv (cxOf CX P w K mg base N qual scope f cdv A outer s H E) [] (start N vs) H s1:=inv_start S hr.hd e0 hl r x
 refine wpAny_mono (ht [] s1 (start N vs) H _ I hq) (fun fl s' hs=>?_) fun e s' hs=>hs
 have fin:∀ {σ':St} {H':Hp} {v:V} {u:Value},Inv (cxOf CX P w K mg base N qual scope f cdv A outer s H E) [] σ' H' s'->RelV v u->Q v H'->CE outer P w H s Q u s':=
  fun {σ' H' v u} J rv q=>⟨v,H',J.os,J.bare,J.base,J.hok,rv,q⟩
 cases fl with
 | ret u=>
  obtain ⟨v,σ',H',J,rv,q⟩:=hs
  exact fin J rv q
 | next=>
  obtain ⟨σ',H',J,q⟩:=hs
  exact fin (v:=V.non) (u:=Value.none) J rfl q
 | brk=>
  obtain ⟨_,_,_,q⟩:=hs
  exact False.elim q
 | cont=>
  obtain ⟨_,_,_,q⟩:=hs
  exact False.elim q
end L2
namespace L2
open PySem PySem.Spec PyProof.Rows
section
variable {X:Cx} {x:Str} {p pos:Pos} {e:Expr} {es:List Expr} {t:TA} {id T:String} {r:List V->Hp->VK->Prop}
def tCB (r:List V->Hp->VK->Prop) (t:TA):TE:=fun σ H Q=>t σ H fun vs H1=>r vs H1 Q
theorem pe_callB (hc:CallR X (.builtin id) r) (hg:Gl X x) (hm:X.mg x=none) (hv:bootBuiltins x=some (.builtin id)) (ha:PA X (e :: es) t) (hn:x≠"__name__" := by decide) (hdb:(x == ("__debug__" : Str))=false:=by decide)
  (he:starEach (e :: es) X.env=(false,eval e X.env) :: starEach es X.env:=by rfl) (hpl:(backTo pos (starEach es X.env)).any (·.1)=false:=by rfl):PE X (.Call (.Name x p) (e :: es) [] pos) (tCB r t):=by
 intro pins s σ H Q I h
 refine wpAny_Call_Name_kw (ld_blt I hg hm hv ?_ hn hdb)
 exact PyProof.Rows.callWith_builtin1 (thn (ha pos pins s σ H _ I h) fun us s1 ⟨vs,H1,I1,r1,q1⟩=>hc pins s1 σ H1 vs us Q I1 r1 q1) he hpl
theorem pe_callTy (hc:CallR X (.type T) r) (hg:Gl X x) (hm:X.mg x=none) (hv:bootBuiltins x=some (.type T)) (ha:PA X (e :: es) t) (hn:x≠"__name__" := by decide) (hdb:(x == ("__debug__" : Str))=false:=by decide)
  (he:starEach (e :: es) X.env=(false,eval e X.env) :: starEach es X.env:=by rfl) (hpl:(backTo pos (starEach es X.env)).any (·.1)=false:=by rfl):PE X (.Call (.Name x p) (e :: es) [] pos) (tCB r t):=by
 intro pins s σ H Q I h
 refine wpAny_Call_Name_kw (ld_blt I hg hm hv ?_ hn hdb)
 exact PyProof.Rows.callWith_type1 (thn (ha pos pins s σ H _ I h) fun us s1 ⟨vs,H1,I1,r1,q1⟩=>hc pins s1 σ H1 vs us Q I1 r1 q1) he hpl
end
end L2
namespace HT
open PySem PyProof.Rows
section
open PySem.SeqAt
open PySem.AutoSeq1 (wpAny_loadPart')
open PySem.MeetsSeq PySem.MeetsSeq2 PySem.MeetsSeq3
end
section
variable {prog:Program} {w:World} {A:Around} {E:Value->Shared->Prop} {s:Shared}
def sIx (n d:Nat):Option Int->Nat
 | none=>d
 | some v=>if v < 0 then (v+(n:Int)).toNat else min v.toNat n
theorem sIx_none (n d:Nat):sIx n d none=d:=rfl
theorem sIx_nat (n d k:Nat):sIx n d (some (k:Int))=min k n:=by
 show (if (k:Int) < 0 then ((k:Int)+(n:Int)).toNat else min (k:Int).toNat n)=min k n
 rw [if_neg (by omega),Int.toNat_natCast]
end
end HT
namespace L2
open PySem PySem.Spec PyProof.Rows
abbrev TO:=St->Hp->(Option Int->Hp->Prop)->Prop
def PO (X:Cx) (e:Option Expr) (t:TO):Prop:=
 ∀ (pins:List (Addr×Obj)) (s:Shared) (σ:St) (H:Hp) (Q:Option Int->Hp->Prop),Inv X pins σ H s->t σ H Q →
  wpAny (model X.prog X.w) X.A (evalPart e X.env) (fun u s'=>∃ o H',Inv X pins σ H' s'/\IsPart u o/\Q o H') X.xe s
def tNoPart:TO:=fun _ H Q=>Q none H
section
variable {X:Cx} {e:Expr} {te:TE} {lo hi:Option Expr} {tl th:TO} {pos p2:Pos}
theorem po_none:PO X none tNoPart:=by
 intro pins s σ H Q I h
 rw [evalPart_none]
 exact wpAny_pure ⟨none,H,I,.none,h⟩
def SlR (X:Cx) (r:V->Option Int->Option Int->Hp->VK->Prop):Prop:=
 ∀ (pins:List (Addr×Obj)) (s:Shared) (σ:St) (H:Hp) (x:V) (v vl vu:Value) (lo hi:Option Int) (sl:Addr) (Q:VK),Inv X pins σ H s->RelV x v->s.heap.IsSliceOf sl vl vu .none->IsPart vl lo->IsPart vu hi->r x lo hi H Q →
  ∃ T id,typeLookup (.type T) "__getitem__" = pure (some (.builtin id))/\s.TypeIs v T/\wpAny (model X.prog X.w) X.A (getItem v (.ref sl)) (EP X pins σ Q) X.xe s
theorem SlR.or {r r':V->Option Int->Option Int->Hp->VK->Prop} (h:SlR X r) (h':SlR X r'):SlR X (fun x lo hi H Q=>r x lo hi H Q\/r' x lo hi H Q):=by
 intro pins s σ H x v vl vu lo hi sl Q I rx hs pl pu q
 rcases q with q | q
 ·exact h pins s σ H x v vl vu lo hi sl Q I rx hs pl pu q
 ·exact h' pins s σ H x v vl vu lo hi sl Q I rx hs pl pu q
def tSl (r:V->Option Int->Option Int->Hp->VK->Prop) (te:TE) (tl th:TO):TE:=fun σ H Q=>te σ H fun x H1=>tl σ H1 fun l H2=>th σ H2 fun u H3=>r x l u H3 Q
theorem pe_slice {r:V->Option Int->Option Int->Hp->VK->Prop} (hr:SlR X r) (he:PE X e te) (hl:PO X lo tl) (hu:PO X hi th):PE X (.Subscript e (.Slice lo hi none p2) pos) (tSl r te tl th):=by
 intro pins s σ H Q I h
 refine Subscript_ (thn (he pins s σ H _ I h) fun v s1 ⟨x,H1,I1,r1,q1⟩=>?_)
 refine wpAny_Slice (thn (hl pins s1 σ H1 _ I1 q1) fun vl s2 ⟨l,H2,I2,pl,q2⟩=>thn (hu pins s2 σ H2 _ I2 q2) fun vu s3 ⟨u,H3,I3,pu,q3⟩=>?_)
 rw [evalPart_none]
 refine wpAny_pure ?_
 have I4:Inv X pins σ H3 { s3 with heap:=s3.heap.push { cls:=.type "slice",data:=.fields #[vl,vu,.none] } }:=I3.kept (t':=s3.toks) fun b ob q=>Heap.get?_push_of_some _ q
 obtain ⟨T,id,hT,ht,hg⟩:=hr pins { s3 with heap:=s3.heap.push { cls:=.type "slice",data:=.fields #[vl,vu,.none] } } σ H3 x v vl vu l u s3.heap.objs.size Q I4 r1 (Heap.IsSliceOf.new ..) pl pu q3
 show wpAny (model X.prog X.w) X.A (subscriptTail e (.Slice lo hi none p2) v (.ref s3.heap.objs.size)) (EP X pins σ Q) X.xe { s3 with heap:=s3.heap.push { cls:=.type "slice",data:=.fields #[vl,vu,.none] } }
 exact tail_any (ops:=[.ref s3.heap.objs.size,v]) ht hT hg (by with_unfolding_all rfl)
def cutV (xs:List V) (lo hi:Option Int):List V:=(xs.drop (HT.sIx xs.length 0 lo)).take (HT.sIx xs.length xs.length hi - HT.sIx xs.length 0 lo)
theorem cutV_length (xs:List V) (lo hi:Option Int):(cutV xs lo hi).length<=xs.length:=by
 unfold cutV
 rw [List.length_take,List.length_drop]
 omega
end
end L2
namespace L2
open PySem PySem.Spec PyProof.Rows
def ixN (n:Nat) (i:Int):Option Nat:=if 0<=i then (if i < n then some i.toNat else none) else if -(n:Int)<=i then some (i+n).toNat else none
def atI {α:Type} (xs:List α) (i:Int):Option α:=(ixN xs.length i).bind fun j=>xs[j]?
theorem ixN_seq {n:Nat} {i:Int} {j:Nat} (h:ixN n i=some j):seqIndex? i n=some j/\j < n/\-(n:Int)<=i/\i < n:=by
 unfold ixN at h
 by_cases h0:0<=i
 ·rw [if_pos h0] at h
  by_cases h1:i < n
  ·rw [if_pos h1] at h
   have e:i.toNat=j:=Option.some.inj h
   exact ⟨by rw [seqIndex_of h0 h1,e],by omega,by omega,h1⟩
  ·rw [if_neg h1] at h;cases h
 ·rw [if_neg h0] at h
  by_cases h1 : -(n:Int)<=i
  ·rw [if_pos h1] at h
   have e:(i+n).toNat=j:=Option.some.inj h
   exact ⟨by rw [seqIndex_neg (by omega) h1,e],by omega,h1,by omega⟩
  ·rw [if_neg h1] at h;cases h
theorem atI_get {α:Type} {xs:List α} {i:Int} {v:α} (h:atI xs i=some v):∃ j,seqIndex? i xs.length=some j/\xs[j]? = some v/\j < xs.length/\-(xs.length:Int)<=i/\i < xs.length:=by
 unfold atI at h
 cases e:ixN xs.length i with
 | none=>rw [e] at h;cases h
 | some j=>
  rw [e] at h
  obtain ⟨h1,h2,h3,h4⟩:=ixN_seq e
  exact ⟨j,h1,h,h2,h3,h4⟩
theorem atI_nat {α:Type} {xs:List α} {j:Nat} {v:α} (h:xs[j]? = some v):atI xs (j:Int)=some v:=by
 have hj:j < xs.length:=(List.getElem?_eq_some_iff.mp h).1
 have e:ixN xs.length (j:Int)=some j:=by
  unfold ixN
  rw [if_pos (by omega),if_pos (by omega)];simp
 unfold atI;rw [e];exact h
theorem atI_last {α:Type} (xs:List α) (v:α):atI (xs++[v]) (-1)=some v:=by
 have hl:(xs++[v]).length=xs.length+1:=by simp
 have e:ixN (xs++[v]).length (-1)=some xs.length:=by
  unfold ixN
  rw [hl,if_neg (by decide),if_pos (by omega)]
  congr 1
  omega
 unfold atI
 rw [e]
 show (xs++[v])[xs.length]? = some v
 simp
def PlainIx (b:Expr):Prop:=∀ o i,subscripted b false o i=operate [o,i] (getItem o i)
def IxR (X:Cx) (r:R2):Prop:=
 ∀ (value slice:Expr) (pins:List (Addr×Obj)) (s:Shared) (σ:St) (H:Hp) (x y:V) (v u:Value) (Q:VK),Inv X pins σ H s->RelV x v->RelV y u->r x y H Q →
  subscripted slice false v u=operate [v,u] (getItem v u)->wpAny (model X.prog X.w) X.A (subscriptTail value slice v u) (EP X pins σ Q) X.xe s
section
variable {X:Cx} {a b:Expr} {ta tb:TE} {pos:Pos}
theorem IxR.or {r r':R2} (h:IxR X r) (h':IxR X r'):IxR X (fun x y H Q=>r x y H Q\/r' x y H Q):=by
 intro value slice pins s σ H x y v u Q I rx ry q hs
 rcases q with q | q
 ·exact h value slice pins s σ H x y v u Q I rx ry q hs
 ·exact h' value slice pins s σ H x y v u Q I rx ry q hs
theorem pe_ix {r:R2} (hr:IxR X r) (ha:PE X a ta) (hb:PE X b tb) (hs:PlainIx b):PE X (.Subscript a b pos) (tOp r ta tb):=by
 intro pins s σ H Q I h
 exact Subscript_ (binT ha hb I h fun v u s2 x y H2 I2 rx ry q=>hr a b pins s2 σ H2 x y v u Q I2 rx ry q (hs _ _))
def rIxL (K:PySem.W.Frag):R2:=fun x y H Q=>∃ p xs i v,x = .ref p/\y = .int i/\SqL K H p xs/\atI xs i=some v/\Q v H
def rIxT (K:PySem.W.Frag):R2:=fun x y H Q=>∃ p xs i v,x = .ref p/\y = .int i/\SqT K H p xs/\atI xs i=some v/\Q v H
def rIxS:R2:=fun x y H Q=>∃ z i c,x = .str z/\y = .int i/\z.length<=sizeLine/\atI z.cps.toList i=some c/\Q (.str ⟨#[c]⟩) H
theorem ix_list:IxR X (rIxL X.K):=by
 intro value slice pins s σ H x y v u Q I rx ry h hs
 obtain ⟨p,xs,i,z,rfl,rfl,hq,he,q⟩:=h
 cases rx
 obtain ⟨t,rfl⟩:=ry
 obtain ⟨its,r,pl,hz⟩:=I.list hq
 obtain ⟨j,h1,h2,h3,h4,h5⟩:=atI_get he
 obtain ⟨w,ew,rw'⟩:=r.get h2
 have hl:=r.length
 have hn:=line63
 have fin:EP X pins σ Q w s:=⟨z,H,I,rw',q⟩
 by_cases h0:0<=i
 ·have hj:i.toNat=j:=by
   rw [seqIndex_of h0 h5] at h1
   exact Option.some.inj h1
  exact item_listR pl.isList h0 (by omega) (by rw [hj];simpa using ew) fin hs
 ·have hj:(i+(its.toArray.size:Int)).toNat=j:=by
   rw [seqIndex_neg (by omega) h4] at h1
   rw [List.size_toArray,<-hl]
   exact Option.some.inj h1
  exact subscriptTail_builtinR (x:=w) pl.isList.typeIs slot_list_getitem.lookup
   (wpAny_getItem_list_neg (Q:=fun r s'=>r=w/\EP X pins σ Q r s') pl.isList (by omega) (by rw [List.size_toArray]<;>omega) (by omega) (by rw [hj];simpa using ew) ⟨rfl,fin⟩) hs
theorem ix_tup:IxR X (rIxT X.K):=by
 intro value slice pins s σ H x y v u Q I rx ry h hs
 obtain ⟨p,xs,i,z,rfl,rfl,hq,he,q⟩:=h
 cases rx
 obtain ⟨t,rfl⟩:=ry
 obtain ⟨its,r,pl,hz⟩:=I.tuple hq
 obtain ⟨j,h1,h2,h3,h4,h5⟩:=atI_get he
 obtain ⟨w,ew,rw'⟩:=r.get h2
 have hl:=r.length
 have hn:=line63
 have fin:EP X pins σ Q w s:=⟨z,H,I,rw',q⟩
 exact subscriptTail_builtinR (x:=w) pl.typeIs slot_tuple_getitem.lookup
  (getItem_tuple (j:=j) (Q:=fun r s'=>r=w/\EP X pins σ Q r s') pl (by omega) (by omega) (by rw [List.size_toArray,<-hl];exact h1) (by simpa using ew) ⟨rfl,fin⟩) hs
theorem ix_str:IxR X rIxS:=by
 intro value slice pins s σ H x y v u Q I rx ry h hs
 obtain ⟨z,i,c,rfl,rfl,hz,he,q⟩:=h
 obtain ⟨t,rfl⟩:=rx
 obtain ⟨t',rfl⟩:=ry
 obtain ⟨j,h1,h2,h3,h4,h5⟩:=atI_get he
 have hl:z.cps.toList.length=z.length:=by simp [Str.length]
 rw [hl] at h1 h4 h5
 have hn:=line63
 exact tail_any (typeIs_str s z t) slot_str_getitem.lookup (getItem_str (c:=c) (by
  have e1:decide (i < -(2 ^ 63:Int))=false:=decide_eq_false (by omega)
  have e2:decide (i ≥ 2 ^ 63)=false:=decide_eq_false (by omega)
  rw [e1,e2,Bool.or_false]) (by rw [h1];simpa using h2) ⟨.str ⟨#[c]⟩,H,I.tok _,⟨_,rfl⟩,q⟩) hs
def rIx (K:PySem.W.Frag):R2:=fun x y H Q=>rIxL K x y H Q\/rIxT K x y H Q\/rIxS x y H Q
theorem ix_seq:IxR X (rIx X.K):=ix_list.or (ix_tup.or ix_str)
theorem mapSeq_set (its:List Value) (n j:Nat) (u:Value):Obj.mapSeq (·.setIfInBounds j u) { cls:=.type "list",data:=.seq its.toArray n }={ cls:=.type "list",data:=.seq (its.set j u).toArray n }:=by
 simp [Obj.mapSeq]
theorem Inv.lst {pins:List (Addr×Obj)} {σ:St} {H:Hp} {s:Shared} {p:Addr} {xs:List V} (I:Inv X pins σ H s) (h:H p=some (.lst xs)) :
  ∃ (its:List Value) (n:Nat),Vals xs its/\s.heap.get? p=some { cls:=.type "list",data:=.seq its.toArray n }/\xs.length<=sizeLine:=by
 obtain ⟨z,its,n,r,e⟩:=I.hok p _ h
 exact ⟨its,n,r,e,z⟩
theorem Inv.lstUpd {pins:List (Addr×Obj)} {σ:St} {H:Hp} {s:Shared} {p:Addr} {xs ys:List V} {its its':List Value} {n n':Nat} {f:Obj->Obj} (I:Inv X pins σ H s) (h:H p=some (.lst xs))
  (ho:s.heap.get? p=some { cls:=.type "list",data:=.seq its.toArray n }) (hf:f { cls:=.type "list",data:=.seq its.toArray n }={ cls:=.type "list",data:=.seq its'.toArray n' }) (r:Vals ys its') (hz:ys.length<=sizeLine) (t:Nat) :
  Inv X pins σ (upd H p (.lst ys)) { s with heap:=s.heap.update p f,toks:=t }:=by
 have e:(s.heap.update p f).get? p=some { cls:=.type "list",data:=.seq its'.toArray n' }:=by
  rw [Heap.get?_update_self f ho (by rw [hf]<;>rfl),hf]
 refine I.write (x:=p) (e:=p) (by rw [h];trivial) (.inl rfl) (fun b u hb q=>(Heap.get?_update_other _ _ (Ne.symm hb)).trans q) ⟨_,e⟩ ?_
 exact ⟨hz,its',n',r,e⟩
def rSetL:V->V->V->Hp->(Hp->Prop)->Prop:=fun o i v H Q=>∃ p xs k j,o = .ref p/\i = .int k/\H p=some (.lst xs)/\ixN xs.length k=some j/\Q (upd H p (.lst (xs.set j v)))
theorem set_list:PSet X rSetL:=by
 intro pins s σ H o i v ov iv u Q I ro ri rv h
 obtain ⟨p,xs,k,j,rfl,rfl,hp,hj,q⟩:=h
 cases ro
 obtain ⟨t,rfl⟩:=ri
 obtain ⟨its,n,r,ho,hz⟩:=I.lst hp
 obtain ⟨h1,h2,h3,h4⟩:=ixN_seq hj
 have hl:=r.length
 have hn:=line63
 have I':Inv X pins σ (upd H p (.lst (xs.set j v))) { s with heap:=s.heap.update p (Obj.mapSeq (·.setIfInBounds j u)) }:=
  I.lstUpd hp ho (mapSeq_set its n j u) (r.set rv j) (by rw [List.length_set];exact hz) s.toks
 by_cases h0:0<=k
 ·have hk:k.toNat=j:=by
   rw [seqIndex_of h0 h4] at h1
   exact Option.some.inj h1
  exact PySem.W.ki_setAt ho h0 (by omega) (by rw [List.size_toArray,<-hl];exact h4) (by rw [hk];exact ⟨_,I',q⟩)
 ·have hk:(k+(its.toArray.size:Int)).toNat=j:=by
   rw [seqIndex_neg (by omega) h3] at h1
   rw [List.size_toArray,<-hl]
   exact Option.some.inj h1
  exact PySem.W.ki_setBack ho (by omega) (by rw [List.size_toArray,<-hl];exact h3) (by omega) (by rw [hk];exact ⟨_,I',q⟩)
theorem slice_bounds (lo hi:Option Int) (n:Nat):(sliceBounds lo hi none n).1=((HT.sIx n 0 lo:Nat):Int)/\(sliceBounds lo hi none n).2.1=((HT.sIx n n hi:Nat):Int)/\(sliceBounds lo hi none n).2.2=1:=by
 refine ⟨?_,?_,rfl⟩
 ·cases lo with
  | none=>simp [sliceBounds,HT.sIx]
  | some i=>
   simp only [sliceBounds,HT.sIx,Option.getD_none,show (1:Int) > 0 by decide,if_true]
   by_cases h:i < 0
   ·simp only [h,if_true]<;>omega
   ·simp only [h,if_false]<;>omega
 ·cases hi with
  | none=>simp [sliceBounds,HT.sIx]
  | some i=>
   simp only [sliceBounds,HT.sIx,Option.getD_none,show (1:Int) > 0 by decide,if_true]
   by_cases h:i < 0
   ·simp only [h,if_true]<;>omega
   ·simp only [h,if_false]<;>omega
theorem slicePick_cut (its:List Value) (lo hi:Option Int):slicePick its.toArray lo hi none=((its.drop (HT.sIx its.length 0 lo)).take (HT.sIx its.length its.length hi - HT.sIx its.length 0 lo)).toArray:=by
 obtain ⟨h1,h2,h3⟩:=slice_bounds lo hi its.toArray.size
 unfold slicePick
 rw [h1,h2,h3]
 simp only [sliceRange_one,pick_run,List.size_toArray]<;>rfl
def rSlL (K:PySem.W.Frag):V->Option Int->Option Int->Hp->VK->Prop:=fun x lo hi H Q=>∃ a xs,x = .ref a/\SqL K H a xs/\∀ p,H p=none->Q (.ref p) (upd H p (.lst (cutV xs lo hi)))
theorem sl_list:SlR X (rSlL X.K):=by
 intro pins s σ H x v vl vu lo hi sl Q I rx hs pl pu h
 obtain ⟨a,xs,rfl,hx,q⟩:=h
 cases rx
 obtain ⟨its,r,ht,hz⟩:=I.list hx
 have hlen:=r.length
 refine ⟨"list",_,slot_list_getitem.lookup,ht.isList.typeIs,?_⟩
 refine wpAny_getItem_list_slice ht.isList hs pl pu .none (by simp) ?_ (by rw [List.size_toArray]<;>omega)
 rw [slicePick_cut,<-hlen]
 refine ⟨.ref s.heap.objs.size,_,I.laid (t':=s.toks) (o:=.lst (cutV xs lo hi)) (fun b ob q=>Heap.get?_push_of_some _ q) (Nat.le_refl _) ?_,rfl,q _ (I.hok.fresh (Nat.le_refl _))⟩
 exact ⟨Nat.le_trans (cutV_length xs lo hi) hz,_,0,(r.drop (HT.sIx xs.length 0 lo)).take (HT.sIx xs.length xs.length hi - HT.sIx xs.length 0 lo),Heap.get?_push_size _ rfl⟩
def flatV:V->Bool
 | .non=>true
 | .bl _=>true
 | .int _=>true
 | .str _=>true
 | _=>false
def eqV:V->V->Bool
 | .non,.non=>true
 | .bl a,.bl b=>a == b
 | .bl a,.int b=>(if a then 1 else 0) == b
 | .int a,.bl b=>a == (if b then 1 else 0)
 | .int a,.int b=>a == b
 | .str a,.str b=>a == b
 | _,_=>false
theorem eqAt_V {A:Around} {s:Shared} {y x:V} {u v:Value} (ry:RelV y u) (rx:RelV x v) (fy:flatV y=true) (fx:flatV x=true):SeqAt.EqAt A s u v (eqV y x):=by
 cases y with
 | non=>
  cases ry
  cases x with
  | non=>cases rx;exact SeqAt.EqAt.same _
  | bl b=>cases rx;exact SeqAt.EqAt.none_bool b
  | int b=>obtain ⟨t,rfl⟩:=rx;exact SeqAt.EqAt.none_int b t
  | str b=>obtain ⟨t,rfl⟩:=rx;exact SeqAt.EqAt.none_str b t
  | _=>exact absurd (show false=true from fx) Bool.false_ne_true
 | bl a=>
  cases ry
  cases x with
  | non=>cases rx;exact SeqAt.EqAt.bool_none a
  | bl b=>cases rx;exact SeqAt.EqAt.bool_bool a b
  | int b=>obtain ⟨t,rfl⟩:=rx;exact SeqAt.EqAt.bool_int a b t
  | str b=>obtain ⟨t,rfl⟩:=rx;exact SeqAt.EqAt.bool_str a b t
  | _=>exact absurd (show false=true from fx) Bool.false_ne_true
 | int a=>
  obtain ⟨t',rfl⟩:=ry
  cases x with
  | non=>cases rx;exact SeqAt.EqAt.int_none a t'
  | bl b=>cases rx;exact SeqAt.EqAt.int_bool a t' b
  | int b=>obtain ⟨t,rfl⟩:=rx;exact SeqAt.EqAt.int_int a t' b t
  | str b=>obtain ⟨t,rfl⟩:=rx;exact SeqAt.EqAt.int_str a t' b t
  | _=>exact absurd (show false=true from fx) Bool.false_ne_true
 | str a=>
  obtain ⟨t',rfl⟩:=ry
  cases x with
  | non=>cases rx;exact SeqAt.EqAt.str_none a t'
  | bl b=>cases rx;exact SeqAt.EqAt.str_bool a t' b
  | int b=>obtain ⟨t,rfl⟩:=rx;exact SeqAt.EqAt.str_int a t' b t
  | str b=>obtain ⟨t,rfl⟩:=rx;exact SeqAt.EqAt.str_str a t' b t
  | _=>exact absurd (show false=true from fx) Bool.false_ne_true
 | _=>exact absurd (show false=true from fy) Bool.false_ne_true
def eqU (x:V) (u:Value):Bool:=match u with
 | .none=>eqV .non x
 | .bool b=>eqV (.bl b) x
 | .int i _=>eqV (.int i) x
 | .str z _=>eqV (.str z) x
 | _=>false
theorem eqU_of {x y:V} {u:Value} (r:RelV y u) (f:flatV y=true):eqU x u=eqV y x:=by
 cases y with
 | non=>cases r;rfl
 | bl b=>cases r;rfl
 | int i=>obtain ⟨t,rfl⟩:=r;rfl
 | str z=>obtain ⟨t,rfl⟩:=r;rfl
 | _=>exact absurd (show false=true from f) Bool.false_ne_true
theorem any_eqU {x:V}:∀ {xs:List V} {us:List Value},Vals xs us->xs.all flatV=true->us.any (eqU x)=xs.any fun y=>eqV y x
 | _,_,.nil,_=>rfl
 | y :: xs,u :: us,.cons r t,f=>by
  rw [List.all_cons,Bool.and_eq_true] at f
  rw [List.any_cons,List.any_cons,eqU_of r f.1,any_eqU t f.2]
theorem mem_eqAt {A:Around} {s:Shared} {x:V} {v:Value} (rx:RelV x v) (fx:flatV x=true):∀ {xs:List V} {us:List Value},Vals xs us->xs.all flatV=true->∀ u∈us,SeqAt.EqAt A s u v (eqU x u)
 | _,_,.nil,_=>fun u hu=>by cases hu
 | y :: xs,u :: us,.cons r t,f=>fun u' hu=>by
  rw [List.all_cons,Bool.and_eq_true] at f
  rcases List.mem_cons.mp hu with rfl | hu
  ·rw [eqU_of r f.1];exact eqAt_V r rx f.1 fx
  ·exact mem_eqAt rx fx t f.2 u' hu
def inV (x:V) (xs:List V):Bool:=xs.any fun y=>eqV y x
def rIn (K:PySem.W.Frag) (neg:Bool):R2:=fun x y H Q=>∃ p xs,y = .ref p/\(SqL K H p xs\/SqT K H p xs)/\flatV x=true/\xs.all flatV=true/\Q (.bl (if neg then !inV x xs else inV x xs)) H
theorem op_notIn_seq:OpR X (compareOp .NotIn) (rIn X.K true):=by
 intro pins s σ H x y v u Q I rx ry h
 obtain ⟨p,xs,rfl,hq,fx,fs,q⟩:=h
 cases ry
 rcases hq with hq | hq
 ·obtain ⟨its,r,pl,hz⟩:=I.list hq
  refine SeqAt.notIn_listAt (eqU x) pl.isList (fun w hw=>mem_eqAt rx fx r fs w (by simpa using hw)) ⟨.bl _,H,I,rfl,?_⟩
  rw [show its.toArray.any (eqU x)=its.any (eqU x) by simp,any_eqU r fs]
  exact q
 ·obtain ⟨its,r,pl,hz⟩:=I.tuple hq
  refine SeqAt.notIn_tupleAt (eqU x) pl (fun w hw=>mem_eqAt rx fx r fs w (by simpa using hw)) ⟨.bl _,H,I,rfl,?_⟩
  rw [show its.toArray.any (eqU x)=its.any (eqU x) by simp,any_eqU r fs]
  exact q
theorem op_notIn_str:OpR X (compareOp .NotIn) (fun x y H Q=>∃ i j,x = .str i/\y = .str j/\Q (.bl (!(!(Builtin.Str.occurrences j i 0 j.length 1).isEmpty))) H):=by
 intro pins s σ H x y v u Q I rx ry h
 obtain ⟨i,j,rfl,rfl,q⟩:=h
 obtain ⟨t,rfl⟩:=rx
 obtain ⟨t',rfl⟩:=ry
 exact notIn_str ⟨.bl _,H,I,rfl,q⟩
theorem call_len_seq:CallR X (.builtin "len") (fun xs H Q=>∃ p ys,xs=[.ref p]/\(SqL X.K H p ys\/SqT X.K H p ys)/\Q (.int ys.length) H):=by
 intro pins s σ H xs us Q I r h
 obtain ⟨p,ys,rfl,hq,q⟩:=h
 obtain ⟨u,rfl,rx⟩:=vals1 r
 cases rx
 have hn:=line63
 rcases hq with hq | hq
 ·obtain ⟨its,r',pl,hz⟩:=I.list hq
  have hlen:=r'.length
  exact Calls.call_len_list pl.isList (by simp only [List.size_toArray]<;>omega) ⟨.int ys.length,H,I.tok _,⟨s.toks+1,by rw [List.size_toArray,hlen]⟩,q⟩
 ·obtain ⟨its,r',pl,hz⟩:=I.tuple hq
  have hlen:=r'.length
  exact len_tuple pl (by simp only [List.size_toArray]<;>omega) ⟨.int ys.length,H,I.tok _,⟨s.toks+1,by rw [List.size_toArray,hlen]⟩,q⟩
theorem call_len_str:CallR X (.builtin "len") (fun xs H Q=>∃ z,xs=[.str z]/\z.length<=sizeLine/\Q (.int z.length) H):=by
 intro pins s σ H xs us Q I r h
 obtain ⟨z,rfl,hz,q⟩:=h
 obtain ⟨u,rfl,t,rfl⟩:=vals1 r
 have hn:=line63
 exact len_str (by omega) ⟨.int z.length,H,I.tok _,⟨_,rfl⟩,q⟩
theorem CallR.or {f:Value} {r r':List V->Hp->VK->Prop} (h:CallR X f r) (h':CallR X f r'):CallR X f (fun xs H Q=>r xs H Q\/r' xs H Q):=by
 intro pins s σ H xs us Q I rs q
 rcases q with q | q
 ·exact h pins s σ H xs us Q I rs q
 ·exact h' pins s σ H xs us Q I rs q
theorem call_tuple_of:CallR X (.type "tuple") (fun xs H Q=>∃ p ys,xs=[.ref p]/\((SqL X.K H p ys/\∀ l,H l=none->Q (.ref l) (upd H l (.tup ys)))\/(SqT X.K H p ys/\Q (.ref p) H))):=by
 intro pins s σ H xs us Q I r h
 obtain ⟨p,ys,rfl,h⟩:=h
 obtain ⟨u,rfl,rx⟩:=vals1 r
 cases rx
 rcases h with ⟨hq,q⟩ | ⟨hq,q⟩
 ·obtain ⟨its,r',pl,hz⟩:=I.list hq
  have hlen:=r'.length
  refine call_tuple_list pl.isList (fun h' kp=>?_) (by simp only [List.size_toArray]<;>omega)
  have I1:Inv X pins σ H { s with heap:=h' }:=I.kept (t':=s.toks) kp
  have I2:Inv X pins σ (upd H h'.objs.size (.tup ys)) { s with heap:=h'.push { cls:=.type "tuple",data:=.seq its.toArray } }:=
   I1.laid (t':=s.toks) (fun b o e=>Heap.get?_push_of_some _ e) (Nat.le_refl _) (show ObjOk X.prog X.w _ _ _ (.tup ys) from ⟨hz,its,r',IsTup.new _ _⟩)
  exact ⟨.ref h'.objs.size,_,I2,rfl,q _ (I1.hok.fresh (Nat.le_refl _))⟩
 ·obtain ⟨its,r',pl,hz⟩:=I.tuple hq
  exact call_tuple_same pl ⟨.ref p,H,I,rfl,q⟩
def tyV (K:PySem.W.Frag) (T:String) (x:V) (H:Hp):Prop:=match x with
 | .str _=>T = "str"
 | .int _=>T = "int"
 | .ref p=>(T = "list"/\∃ xs,SqL K H p xs)\/(T = "tuple"/\∃ o,K.lookup p=some o/\o.cls = .type "tuple"/\o.dict=none) ∨
   (T = "dict"/\((∃ kvs,H p=some (.dK kvs))\/∃ kvs,H p=some (.dT kvs)))\/(T = "set"/\∃ S n,H p=some (.set S n))
 | _=>False
theorem tyV_is {pins:List (Addr×Obj)} {σ:St} {H:Hp} {s:Shared} {T:String} {x:V} {v:Value} (I:Inv X pins σ H s) (r:RelV x v) (ty:tyV X.K T x H) :
  s.TypeIs v T/\∀ a,v = .ref a->∃ ob,s.heap.get? a=some ob/\ob.dict=none:=by
 cases x with
 | str z=>
  obtain ⟨t,rfl⟩:=r
  cases (show T = "str" from ty)
  exact ⟨typeIs_str s z t,fun _ e=>nomatch e⟩
 | int i=>
  obtain ⟨t,rfl⟩:=r
  cases (show T = "int" from ty)
  exact ⟨typeIs_int s i t,fun _ e=>nomatch e⟩
 | ref p=>
  cases r
  rcases ty with ⟨rfl,xs,hq⟩ | ⟨rfl,o,hk,hc,hd⟩ | ⟨rfl,hk⟩ | ⟨rfl,S,n,hk⟩
  ·obtain ⟨its,_,pl,_⟩:=I.list hq
   refine ⟨pl.isList.typeIs,fun a e=>?_⟩
   cases e
   obtain ⟨o,n,e,c,hd,_⟩:=pl
   exact ⟨o,e,hd⟩
  ·refine ⟨⟨o,I.kIn p o hk,hc⟩,fun a e=>?_⟩
   cases e
   exact ⟨o,I.kIn _ o hk,hd⟩
  ·have z:∃ o,s.heap.get? p=some o/\o.ExactDict:=by
    rcases hk with ⟨kvs,hk⟩ | ⟨kvs,hk⟩
    ·obtain ⟨_,_,_,_,o,_,_,e,ex,_⟩:=I.hok p _ hk
     exact ⟨o,e,ex⟩
    ·obtain ⟨_,_,_,_,o,_,_,e,ex,_⟩:=I.hok p _ hk
     exact ⟨o,e,ex⟩
   obtain ⟨o,e,ex⟩:=z
   refine ⟨⟨o,e,ex.1⟩,fun a e2=>?_⟩
   cases e2
   exact ⟨o,e,ex.2.1⟩
  ·obtain ⟨o,_,_,_,e,ex,_⟩:=I.hok p _ hk
   refine ⟨⟨o,e,ex.1⟩,fun a e2=>?_⟩
   cases e2
   exact ⟨o,e,ex.2.1⟩
 | _=>exact False.elim ty
variable {o e:Expr} {es:List Expr} {to:TE} {t:TA} {name:Str} {apos cpos:Pos} {T id:String} {r:V->List V->Hp->VK->Prop}
/- xs.append(e),list.index on a module's tuple .. are MtR facts of 06m -/
end
end L2
namespace L2
open PySem PySem.Spec PyProof.Rows
def MtM (X:Cx) (id:String) (r:V->List V->Hp->VK->Prop):Prop:=
 ∀ (pins:List (Addr×Obj)) (s:Shared) (σ:St) (H:Hp) (x:V) (xs:List V) (v:Value) (us:List Value) (Q:VK),Inv X pins σ H s->RelV x v->Vals xs us->r x xs H Q →
  wpAny (model X.prog X.w) X.A (call (.builtin id) (v :: us)) (EP X pins σ Q) X.xe s
theorem Vals.one:∀ {x:V} {us:List Value},Vals [x] us->∃ u,us=[u]/\RelV x u
 | _,_,.cons r .nil=>⟨_,rfl,r⟩
theorem Vals.two:∀ {x y:V} {us:List Value},Vals [x,y] us->∃ u v,us=[u,v]/\RelV x u/\RelV y v
 | _,_,_,.cons r (.cons q .nil)=>⟨_,_,rfl,r,q⟩
theorem Vals.zero:∀ {us:List Value},Vals [] us->us=[]
 | _,.nil=>rfl
theorem Vals.dropLast {xs:List V} {us:List Value} (h:Vals xs us):Vals xs.dropLast us.dropLast:=by
 induction h with
 | nil=>exact .nil
 | cons r t ih=>
  cases t with
  | nil=>exact .nil
  | cons q t'=>exact .cons r ih
theorem Vals.eraseIdx:∀ {xs:List V} {us:List Value} (i:Nat),Vals xs us->Vals (xs.eraseIdx i) (us.eraseIdx i)
 | _,_,_,.nil=>.nil
 | _,_,0,.cons _ t=>t
 | _,_,i+1,.cons r t=>.cons r (Vals.eraseIdx i t)
theorem Vals.rep {xs:List V} {us:List Value} (h:Vals xs us):∀ k:Nat,Vals (List.replicate k xs).flatten (List.replicate k us).flatten
 | 0=>.nil
 | k+1=>by
  rw [List.replicate_succ,List.replicate_succ,List.flatten_cons,List.flatten_cons]
  exact Vals.append h (Vals.rep h k)
theorem len_erase {α:Type}:∀ (l:List α) (i:Nat),(l.eraseIdx i).length<=l.length
 | [],_=>Nat.le_refl _
 | _ :: _,0=>Nat.le_succ _
 | _ :: r,i+1=>Nat.succ_le_succ (len_erase r i)
theorem foldl_rep (its:List Value):∀ (k:Nat) (acc:List Value),
  List.foldl (fun x1 x2=>x1++x2) acc.toArray (List.replicate k its.toArray)=(acc++(List.replicate k its).flatten).toArray
 | 0,acc=>by simp
 | k+1,acc=>by
  have e:acc.toArray++its.toArray=(acc++its).toArray:=by simp
  have e2:(acc++its)++(List.replicate k its).flatten=acc++(List.replicate (k+1) its).flatten:=by
   rw [List.replicate_succ,List.flatten_cons,List.append_assoc]
  rw [<-e2,<-foldl_rep its k (acc++its),<-e,List.replicate_succ,List.foldl_cons]
section
variable {X:Cx} {pins:List (Addr×Obj)} {σ:St} {H:Hp} {s:Shared} {l b:Addr} {xs ys zs:List V}
theorem Inv.lset {its its':List Value} {n:Nat} {f:Array Value->Array Value} {t':Nat} (I:Inv X pins σ H s) (hH:H l=some (.lst xs))
  (e:s.heap.get? l=some { cls:=.type "list",data:=.seq its.toArray n }) (hf:f its.toArray=its'.toArray) (hv:Vals ys its') (hz:ys.length<=sizeLine) :
  Inv X pins σ (upd H l (.lst ys)) { s with heap:=s.heap.update l (Obj.mapSeq f),toks:=t' }:=by
 have q:=PySem.IsL.update e f
 rw [hf] at q
 refine I.write (x:=l) (e:=l) (by rw [hH];exact trivial) (.inl rfl) (fun b' u hb hu=>(Heap.get?_update_other s.heap (Obj.mapSeq f) (Ne.symm hb)).trans hu) ⟨_,q⟩ ?_
 exact ⟨hz,its',_,hv,q⟩
theorem Inv.lnew {its:List Value} {t':Nat} (I:Inv X pins σ H s) (hv:Vals ys its) (hz:ys.length<=sizeLine) :
  Inv X pins σ (upd H s.heap.objs.size (.lst ys)) { s with heap:=s.heap.push { cls:=.type "list",data:=.seq its.toArray },toks:=t' }:=
 I.laid (fun _ _ q=>Heap.get?_push_of_some _ q) (Nat.le_refl _) ⟨hz,its,0,hv,Heap.get?_push_size _ rfl⟩
theorem Inv.fresh (I:Inv X pins σ H s):H s.heap.objs.size=none:=I.hok.fresh (Nat.le_refl _)
theorem Inv.lstM (I:Inv X pins σ H s) (hH:H l=some (.lst xs)):xs.length<=sizeLine/\∃ (its:List Value) (n:Nat),Vals xs its/\xs.length=its.length/\s.heap.get? l=some { cls:=.type "list",data:=.seq its.toArray n }:=by
 obtain ⟨z,its,n,r,e⟩:=I.hok l _ hH
 exact ⟨z,its,n,r,r.length,e⟩
theorem notLongL {n:Nat} (h:n<=sizeLine):Builtin.List.listTooLong n=false:=by
 unfold Builtin.List.listTooLong
 exact decide_eq_false (by omega)
end
section
variable {X:Cx}
def rAppend:V->List V->Hp->VK->Prop:=fun x vs H Q=>∃ l xs y,x = .ref l/\vs=[y]/\H l=some (.lst xs)/\xs.length < sizeLine/\Q .non (upd H l (.lst (xs++[y])))
theorem mt_append:MtM X "list.append" rAppend:=by
 intro pins s σ H x vs v us Q I rx rv h
 obtain ⟨l,xs,y,rfl,rfl,hH,hz,q⟩:=h
 cases rx
 obtain ⟨u,rfl,ru⟩:=rv.one
 obtain ⟨z,its,n,r,hl,e⟩:=I.lstM hH
 refine call_meets F.slot_list_append ⟨_,e,rfl⟩ F.entry_list_append (F.args_list_append_2 _ _) (PySem.list_append l its.toArray n u (by rw [List.size_toArray];omega)) ⟨e,?_⟩
 refine ⟨.non,_,I.lset (its':=its++[u]) hH e (by simp) (r.append (.cons ru .nil)) ?_,rfl,q⟩
 rw [List.length_append,List.length_singleton]
 omega
def rPopAt:V->List V->Hp->VK->Prop:=fun x vs H Q=>∃ l xs i k y,x = .ref l/\vs=[.int i]/\H l=some (.lst xs)/\-(2 ^ 63)<=i/\i < 2 ^ 63/\seqIndex? i xs.length=some k/\xs[k]? = some y/\Q y (upd H l (.lst (xs.eraseIdx k)))
theorem mt_popAt:MtM X "list.pop" rPopAt:=by
 intro pins s σ H x vs v us Q I rx rv h
 obtain ⟨l,xs,i,k,y,rfl,rfl,hH,h1,h2,hk,hy,q⟩:=h
 cases rx
 obtain ⟨u,rfl,ru⟩:=rv.one
 obtain ⟨t,rfl⟩:=ru
 obtain ⟨z,its,n,r,hl,e⟩:=I.lstM hH
 obtain ⟨w,hw,rw'⟩:=r.get hy
 refine call_meets F.slot_list_pop ⟨_,e,rfl⟩ F.entry_list_pop (F.args_list_pop_2 _ _)
  (MeetsSeq.list_pop_at l its.toArray n i t k w (fitsIndex_both h1 h2) (by rw [List.size_toArray,<-hl];exact hk) (by rw [<-Array.getElem?_toList];exact hw) (by rw [List.size_toArray];omega)) ⟨e,?_⟩
 refine ⟨y,_,I.lset (its':=its.eraseIdx k) hH e ?_ (r.eraseIdx k) ?_,rw',q⟩
 ·show its.toArray.eraseIdxIfInBounds k=(its.eraseIdx k).toArray
  rw [List.eraseIdxIfInBounds_toArray]
 ·have:=len_erase xs k
  omega
def rCat:R2:=fun x y H Q=>∃ l b xs zs,x = .ref l/\y = .ref b/\H l=some (.lst xs)/\H b=some (.lst zs)/\xs.length+zs.length<=sizeLine/\∀ p,H p=none->Q (.ref p) (upd H p (.lst (xs++zs)))
theorem op_cat:OpR X (binaryOp .Add) rCat:=by
 intro pins s σ H x y v u Q I rx ry h
 obtain ⟨l,b,xs,zs,rfl,rfl,hH,hB,hz,q⟩:=h
 cases rx
 cases ry
 obtain ⟨z,its,n,r,hl,e⟩:=I.lstM hH
 obtain ⟨z2,its2,n2,r2,hl2,e2⟩:=I.lstM hB
 refine PySem.P.add_list e e2 ?_ (by rw [List.size_toArray,List.size_toArray];omega)
 have ea:its.toArray++its2.toArray=(its++its2).toArray:=by simp
 rw [ea]
 exact ⟨.ref _,_,I.lnew (t':=s.toks) (r.append r2) (by rw [List.length_append];omega),rfl,q _ I.fresh⟩
def rRep:R2:=fun x y H Q=>∃ l k xs,x = .ref l/\y = .int k/\H l=some (.lst xs)/\-(2 ^ 63)<=k/\k < 2 ^ 63/\xs.length * k.toNat<=sizeLine ∧
 ∀ p,H p=none->Q (.ref p) (upd H p (.lst (List.replicate k.toNat xs).flatten))
theorem len_rep {α:Type} (xs:List α) (k:Nat):(List.replicate k xs).flatten.length=k * xs.length:=by
 induction k with
 | zero=>simp
 | succ k ih=>rw [List.replicate_succ,List.flatten_cons,List.length_append,ih,Nat.succ_mul,Nat.add_comm]
theorem op_rep:OpR X (binaryOp .Mult) rRep:=by
 intro pins s σ H x y v u Q I rx ry h
 obtain ⟨l,k,xs,rfl,rfl,hH,h1,h2,hz,q⟩:=h
 cases rx
 obtain ⟨t,rfl⟩:=ry
 obtain ⟨z,its,n,r,hl,e⟩:=I.lstM hH
 have hlen:its.toArray.size * k.toNat<=sizeLine:=by rw [List.size_toArray,<-hl];exact hz
 have hcap:¬ its.toArray.size * k.toNat > (2 ^ 63 - 1) / 8:=by
  have:(sizeLine:Nat)<=(2 ^ 63 - 1) / 8:=by decide
  omega
 have hfit:¬ (!Builtin.List.listFitsIndex k)=true:=by
  rw [fitsIndex_both h1 h2]
  exact Bool.false_ne_true
 have hlong:¬ Builtin.List.listTooLong (its.toArray.size * k.toNat)=true:=by
  rw [notLongL hlen]
  exact Bool.false_ne_true
 have hnew:List.foldl (fun x1 x2=>x1++x2) #[] (List.replicate (if its.toArray.isEmpty=true then 0 else k.toNat) its.toArray)=(List.replicate k.toNat its).flatten.toArray:=by
  have f0:∀ m:Nat,List.foldl (fun x1 x2=>x1++x2) #[] (List.replicate m its.toArray)=(List.replicate m its).flatten.toArray:=fun m=>by
   have:=foldl_rep its m []
   rw [List.nil_append] at this
   exact this
  rw [f0]
  cases its with
  | nil=>simp
  | cons a r'=>rw [if_neg (by simp)]
 refine wpAny_binaryOp_repeat_ref (T:= "list") (U:= "int") (by decide) ⟨_,e,rfl⟩ (fun s'=>typeIs_int s' k t) noFill_list_mul F.fills_int_mul F.slot_int_rmul repeat_list F.slot_int_index.lookup
  (call_meets F.slot_int_rmul (typeIs_int s k t) F.entry_int_rmul (F.args_int_rmul_2 _ _) (int___rmul___int_list k t l its.toArray n)
   ⟨e,rfl,⟨_,e,rfl⟩,call_meets F.slot_list_mul ⟨_,e,rfl⟩ F.entry_list_mul (F.args_list_mul_2 _ _) (AutoListH.list___mul___list_int_3 l its.toArray n k t hfit hcap hlong) ⟨e,?_⟩⟩)
 rw [hnew]
 exact ⟨.ref _,_,I.lnew (t':=s.toks) (r.rep k.toNat) (by rw [len_rep,Nat.mul_comm];exact hz),rfl,q _ I.fresh⟩
end
section
variable {prog:Program} {w:World} {A:Around} {E:Value->Shared->Prop} {s:Shared}
set_option maxRecDepth 100000 in
end
section
variable {X:Cx}
end
end L2
namespace Att
open PySem PySem.W PySem.Calls PyProof.Rows
theorem ints_of_wellAll {P:Params} {h:Heap}:∀ (ns:List Int) (vs:List Value),WellAll P h vs (ns.map WData.int)->IntsAre vs ns:=by
 intro ns
 induction ns with
 | nil=>
  intro vs w
  rw [List.map_nil] at w
  cases w
  exact .nil
 | cons n ns ih=>
  intro vs w
  rw [List.map_cons] at w
  cases w with
  | cons a b=>
   cases a
   exact .cons _ _ (ih _ b)
theorem script_of {l:OpenLaw} {n:Nat} (hn:l.most=some n) {P:Params} {h:Heap} {args:List WData} {vals:List Value}
  (hpre:l.row.toRowW.claim.pre args=true) (hwl:WellAll P h vals args) :
  ∃ a vs ns,vals=[Value.ref a]/\args=[WData.list (ns.map WData.int)]/\h.get? a=some { cls:=.type "list",data:=.seq vs.toArray }/\IntsAre vs ns/\ns.length<=n:=by
 have hsh:WShape.hasAll [] args [.list .int]=true:=(pre_splitW hpre).1
 have hc:l.pre.holds [] { args:=args }=true:=(pre_splitW hpre).2
 obtain ⟨d,r,rfl,h1,h2⟩:=hasAllW_cons hsh
 obtain rfl:=hasAllW_nil h2
 obtain ⟨xs,rfl,h3⟩:=hasW_list h1
 obtain ⟨ns,rfl⟩:=items_int h3
 have hlen:ns.length<=n:=by
  unfold OpenLaw.pre at hc
  have h4:(WTm.not (.lt (.lit (.int (n:Int))) (.len (.arg 0)))).holds [] { args:=[.list (ns.map .int)] }=true:=by
   have h4:=(holds_andW hc).1
   rw [hn] at h4
   exact h4
  have h5:=condW_of h4 (w_not (w_lt w_lit (w_len_list (w_arg rfl))))
  rw [List.length_map] at h5
  refine Nat.le_of_not_lt fun q=>?_
  have q':(n:Int) < ((ns.length:Nat):Int):=by omega
  first
   | (rw [decide_eq_true q'] at h5;exact absurd h5 (by decide))
   | (simp at h5;omega)
 cases hwl with
 | cons w1 w2=>
  cases w2
  cases w1 with
  | list ho hall=>exact ⟨_,_,ns,rfl,rfl,ho,ints_of_wellAll ns _ hall,hlen⟩
theorem post_true (l:OpenLaw) (args:List WData):l.row.toRowW.claim.post args (.bool true) args=true:=
 postW_of (r:=l.row.toRowW) (X:=(true == true))
  (show WShape.has [] (.bool true) .bool=true by first | rfl | decide | simp [WShape.has,WShape.arms,WShape.armsAll])
  (show (WTm.eq .res (.lit (.bool true))).value [] { args:=args,res:=some (.bool true),after:=args }=some (.bool (true == true)) from w_eq_bool (w_res rfl) w_lit) rfl
theorem attach_call {l:OpenLaw} {n:Nat} {q:Program} {loose:List Str} {XP:(Str->Option Value)->Heap->Prop} {YP:World->Heap->Prop} {d:DefRec}
  (hn:l.most=some n) (hdf:d.params.defaults=[])
  (call:∀ (w:World) (s₀ s₁:Shared) (mg mb:Str->Option Value) (fa:Addr) (o:Obj) (pm cd doc:Value) (a:Addr) (vs:List Value) (ns:List Int),
   Ground q loose [] XP w s₀ mg mb s₁.heap->YP w s₁.heap →
   s₁.heap.get? fa=some o->o.data = .func (docDef d.name d.params d.body d.scope pm cd doc)->s₁.heap.CodeRec cd d.name->mg d.name=some (.ref fa) →
   s₁.heap.get? a=some { cls:=.type "list",data:=.seq vs.toArray }->IntsAre vs ns->ns.length<=n->s₁.gens = #[] →
   codeAny (model l.prog w) callerA (.call (.ref fa) ⟨[.ref a],[]⟩) (fun r s'=>r = .ok (.ret (.bool true))/\OldK s₁.heap s'.heap/\s'.os=s₁.os/\AllBare s'.gens) s₁) :
  WalkO q loose XP YP l.row.toRowW d [] (fun f vs=>PySem.call f vs):=by
 intro w s₀ s₁ mg mb G Y fa o pm cd doc dV kV ho hd hcd hD hmg hg args vals as hpre hlay hrd hwl hlo
 obtain rfl:dV = .none:=Dflts.none hD hdf
 obtain rfl:kV = .none:=Dflts.noKw hD
 obtain ⟨a,vs,ns,rfl,rfl,hobj,hints,hlen⟩:=script_of hn hpre hwl
 refine enter_call (codeAny_mono (call w s₀ s₁ mg mb fa o pm cd doc a vs ns G Y ho (fd_plain hd) hcd hmg hobj hints hlen hg) fun r s' hq=>?_)
 obtain ⟨rfl,h2,h3,h4⟩:=hq
 exact ⟨.inl ⟨.bool true,.bool true,[],rfl,fun _=>rfl,.bool true,post_true l _,fun _=>⟨List.Pairwise.nil,fun _ hm=>(nomatch hm)⟩⟩,h2,h3,h4⟩
section
variable {prog:Program} {w:World} {A:Around} {E:Value->Shared->Prop} {s:Shared} {K:Frag}
end
end Att
namespace L2
open PySem PySem.Spec PyProof.Rows
theorem vals_ints:∀ {vs:List Value} {ns:List Int},IntsAre vs ns->Vals (ns.map V.int) vs
 | _,_,.nil=>.nil
 | _,_,.cons n t h=>.cons ⟨t,rfl⟩ (vals_ints h)
def Only (H:Hp):Prop:=∀ b,H b=none\/∃ o xs,H b=some (.frz o (.lst xs))
theorem law_call {P:Program} {w:World} {K:PySem.W.Frag} {mg mb:Str->Option Value} {CX:CXT} {k:Nat} {fa a:Addr} {fd:FuncData} {x:Str} {sp:Sp} {s₁:Shared} {vs:List Value} {ns:List Int}
  (KX:K.In s₁.heap) (hns:s₁.heap.Ns mainGlobals mg) (hb:s₁.heap.Ns builtinsNs mb) (hbb:∀ x:Str,x≠"__name__"->mb x=bootBuiltins x) (hlim:s₁.heap.NoLimit) (hg:s₁.gens = #[])
  (ha:s₁.heap.get? a=some { cls:=.type "list",data:=.seq vs.toArray }) (hi:IntsAre vs ns) (hl:ns.length<=sizeLine) (hr:Room k callerA)
  (F:∀ base:Heap,K.In base->base.Ns mainGlobals mg->FnOk P w K mg base CX k fa fd [x] sp) (hbind:∀ (s:Shared) (u:Value),BindsTo s fd ⟨[u],[]⟩ [(x,u)])
  (hsp:∀ H:Hp,Only H->SqL K H a (ns.map V.int)->sp [.ref a] H (fun v _=>v = .bl true) fun _ _ _=>False)
  (hCX:∀ H e s',CX [] H s₁ (fun _ _ _=>False) e s'->False) :
  codeAny (model P w) callerA (.call (.ref fa) ⟨[.ref a],[]⟩) (fun r s'=>r = .ok (.ret (.bool true))/\OldK s₁.heap s'.heap/\s'.os=s₁.os/\AllBare s'.gens) s₁:=by
 have rv:=vals_ints hi
 have lenV:=hi.length
 have core:∀ H:Hp,Only H->SqL K H a (ns.map V.int)->HOk P w H s₁.heap->(∀ b,H b≠none->b=a)->(H a≠none->K.lookup a=none) →
   codeAny (model P w) callerA (.call (.ref fa) ⟨[.ref a],[]⟩) (fun r s'=>r = .ok (.ret (.bool true))/\OldK s₁.heap s'.heap/\s'.os=s₁.os/\AllBare s'.gens) s₁:=by
  intro H hO hS hok hA hK
  have base_of:∀ {b:Addr} {o:Obj},s₁.heap.get? b=some o->H b=none->(hidT s₁.heap H).get? b=some o:=fun e n=>hidT_get e n
  have noA:∀ {b:Addr} {o:Obj} {es:Array DictEntry} {ep:Nat},s₁.heap.get? b=some o->o.data = .dict es ep->H b=none:=fun {b o es ep} e d=>by
   cases q:H b with
   | none=>rfl
   | some u=>
    have e':b=a:=hA b (by rw [q];simp)
    subst e'
    rw [ha] at e;cases e
    have d':Data.seq vs.toArray _=Data.dict es ep:=d
    cases d'
  have nsK:∀ {b:Addr} {m:Str->Option Value},s₁.heap.Ns b m->(hidT s₁.heap H).Ns b m:=fun {b m} ⟨o,es,ep,e,d,r⟩=>⟨o,es,ep,base_of e (noA e d),d,r⟩
  have hKb:K.In (hidT s₁.heap H):=fun b o e=>base_of (KX b o e) (by
   cases q:H b with
   | none=>rfl
   | some u=>
    have e':b=a:=hA b (by rw [q];simp)
    subst e'
    rw [hK (by rw [q];simp)] at e;cases e)
  have hM:Mod K mg (hidT s₁.heap H):=⟨hKb,nsK hns,⟨mb,nsK hb,hbb⟩,let ⟨mc,h1,h2⟩:=hlim;⟨mc,nsK h1,h2⟩⟩
  have e0:Env0 P w K mg (hidT s₁.heap H) callerA [] s₁ H:=⟨rfl,hM,fun b o e=>of_hidT e,Nat.le_of_eq (hidT_size _ _),trivial,fun b hb=>absurd (show b∈([]:List Addr) from hb) (by simp),hok,.of_eq hg⟩
  refine codeAny_mono ((F _ hKb (nsK hns)).run callerA [] s₁ H ⟨[.ref a],[]⟩ [.ref a] [.ref a] _ _ hr e0 (hbind s₁ (.ref a)) (.cons rfl .nil) (hsp H hO hS)) fun r s' h=>?_
  cases r with
  | error e=>exact (hCX H e s' h).elim
  | ok fl=>
   cases fl with
   | next=>exact False.elim h
   | brk=>exact False.elim h
   | cont=>exact False.elim h
   | ret u=>
    obtain ⟨v,H',os,bare,un,hok',r',q⟩:=h
    have q':v = .bl true:=q
    subst q'
    obtain rfl:u=Value.bool true:=r'
    refine ⟨rfl,OldK.of_keep fun b o e=>?_,os,bare⟩
    cases q:H b with
    | none=>exact un.keep b o e q (by intro z;exact absurd (show b∈([]:List Addr) from z) (by simp)) (by simp)
    | some u=>
     rcases hO b with z | ⟨ob,xs,z⟩
     ·rw [q] at z;cases z
     ·have z2:=un.frzs b ob _ z
      obtain ⟨e1,_⟩:=hok b _ z
      obtain ⟨e2,_⟩:=hok' b _ z2
      rw [e] at e1;cases e1
      exact e2
 cases hk:K.lookup a with
 | some o=>
  have e:=KX a o hk
  rw [ha] at e
  cases e
  refine core (fun _=>none) (fun _=>.inl rfl) (.inr ⟨_,vs.toArray,_,hk,rfl,rfl,rfl,by rw [List.size_toArray,lenV];exact hl,by simpa using rv⟩) (fun b u z=>by have z':(none:Option HO)=some u:=z;cases z') (fun b z=>absurd rfl z) fun z=>absurd rfl z
 | none=>
  refine core (fun b=>if b=a then some (.frz { cls:=.type "list",data:=.seq vs.toArray } (.lst (ns.map V.int))) else none) (fun b=>?_) (.inl (.inr ⟨{ cls:=.type "list",data:=.seq vs.toArray },if_pos rfl⟩)) (fun b u z=>?_) (fun b z=>?_) fun _=>hk
  ·by_cases hb:b=a
   ·exact .inr ⟨_,_,if_pos hb⟩
   ·exact .inl (if_neg hb)
  ·by_cases hb:b=a
   ·have z':=(if_pos hb).symm.trans z
    cases z'
    subst hb
    exact ⟨ha,by rw [List.length_map];exact hl,vs,_,rv,ha⟩
   ·have z':=(if_neg hb).symm.trans z
    cases z'
  ·by_cases hb:b=a
   ·exact hb
   ·exact absurd (if_neg hb) z
end L2
namespace L2
open PySem PySem.Spec PyProof.Rows
abbrev KOf {K:PySem.W.Frag} {h:Heap} (_:K.In h):PySem.W.Frag:=K
theorem walk_of {l:PySem.W.OpenLaw} {n k:Nat} {q:Program} {loose:List Str} {XP:(Str->Option Value)->Heap->Prop} {YP:World->Heap->Prop} {d:DefRec} {K:Params->PySem.W.Frag} {CX:World->CXT} {sp:World->Sp} {x:Str}
  (hn:l.most=some n) (hn2:n<=sizeLine) (hdf:d.params.defaults=[]) (hr:Room k callerA)
  (hY:∀ (w:World) (h:Heap),YP w h->(K w.params).In h)
  (F:∀ (w:World) (mg:Str->Option Value) (fa:Addr) (h:Heap),(K w.params).In h->h.Ns mainGlobals mg->mg d.name=some (.ref fa) →
   ∃ fd:FuncData,(∀ (s:Shared) (u:Value),BindsTo s fd ⟨[u],[]⟩ [(x,u)]) ∧
    ∀ base:Heap,(K w.params).In base->base.Ns mainGlobals mg->FnOk l.prog w (K w.params) mg base (CX w) k fa fd [x] (sp w))
  (hsp:∀ (w:World) (H:Hp) (a:Addr) (ns:List Int),ns.length<=n->Only H->SqL (K w.params) H a (ns.map V.int)->sp w [.ref a] H (fun v _=>v = .bl true) fun _ _ _=>False)
  (hCX:∀ (w:World) (H:Hp) (s:Shared) (e:Value) (s':Shared),CX w [] H s (fun _ _ _=>False) e s'->False) :
  PySem.W.WalkO q loose XP YP l.row.toRowW d [] (fun f vs=>PySem.call f vs):=by
 refine Att.attach_call hn hdf fun w s₀ s₁ mg mb fa o pm cd doc a vs ns G Y ho hd hcd hmg hobj hints hlen hg=>?_
 have KX:=hY w _ Y
 obtain ⟨fd,hb,hF⟩:=F w mg fa _ KX G.T.g hmg
 exact law_call KX G.T.g G.T.b G.T.builtins G.T.nolimit hg hobj hints (Nat.le_trans hlen hn2) hr hF hb (fun H hO hS=>hsp w H a ns hlen hO hS) fun H e s'=>hCX w H s₁ e s'
end L2
/- THE LAST THEOREM (shape;LID,My.* are yours):
   My.Adr: a structure of the addresses that your layer names (classes,functions);My.Txt K t: a structure (Prop) of the equations over K;
   My.txt_mk:{K} {implicit addresses ..} (e1:nsIn K mainGlobals "law" = some (some (.ref f))) (e2:K.lookup f=some ⟨oc,od,.func (fnOf "law" "law" params body scope dV kV doc pm an cdv ct),sl⟩) (e3:codeIn K cdv "law" = true) .. : ∃ t,My.Txt K t
set_option maxRecDepth 100000 in
set_option maxHeartbeats 0 in
theorem PySem.Challenge.cw_LID_holds : PySem.Challenge.rw_LID.Holds := by
 w_on;o_law;k_head;(case hw=>w_witness2)
 k_fill
 refine L2.walk_of (l:=PySem.Challenge.rw_LID) (n:=63) (k:=40) (x:= "script") (CX:=fun w=>..) (sp:=fun _=>My.sp_law) rfl (by decide) rfl ⟨rfl,by decide,by decide⟩ (fun w h Y=>PySem.W.kIn_of Y) ?F ?S ?C
 case F=>
  intro w mg fa h KX G hmg
  have T:∃ t,My.Txt (L2.KOf KX) t:=by
   dsimp only [L2.KOf]                          -- K must stand as «<heap const> w.params» for k_is
   refine' My.txt_mk ?e1 ?e2 ?e3 ..
   (case e1=>PySem.W.k_is)                    -- in the order: a name -> its address -> its object -> its parts
   (case e2=>PySem.W.k_is)
   ..
  obtain ⟨t,T⟩:=T
  have e0:=hmg.symm.trans (PySem.W.mg_of KX G T.law)
  cases e0                                       -- fa is the law's own address
  exact ⟨_,fun s u=>.of_eq rfl,fun base kb nb=>My.law_fn T kb nb⟩     -- if «.of_eq rfl» comes too early: refine' ⟨_,?b,fun base kb nb=>My.law_fn T kb nb⟩;exact fun s u=>.of_eq rfl
 case S=>exact fun w H a ns hl hO hS=>..
 case C=>exact ..
(the tactic k_is has no namespace: write k_is) -/
namespace L2
open PySem PySem.Spec PyProof.Rows
def defArgs (s:Stmt):Arguments:=match s with
 | .FunctionDef _ a _ _ _ _ _ _ _ _=>a
 | _=>{ posonlyargs:=[],args:=[],vararg:=none,kwonlyargs:=[],kw_defaults:=[],kwarg:=none,defaults:=[] }
def defBody (s:Stmt):List Stmt:=match s with
 | .FunctionDef _ _ b _ _ _ _ _ _ _=>b
 | _=>[]
def defScope (s:Stmt):Scope:=match s with
 | .FunctionDef _ _ _ _ _ _ sc _ _ _=>sc
 | _=>{ kind:=.function,names:=[],isGenerator:=false,isCoroutine:=false }
abbrev CX0:CXT:=fun _ _ _ _ _ _=>False
abbrev E0:XK:=fun _ _ _=>False
theorem pass0 {X:Cx}:Passes CX0 X E0:=fun _ _ _ _ _ _ _ h=>h.elim
structure Fun (K:PySem.W.Frag) (x qual:Str) (st:Stmt) (f:Addr) (fd:FuncData):Prop where
 ex:∃ (oc:Value) (od:Option Addr) (kV doc pm:Value) (an:Option Addr) (cdv ct:Value) (osl:Array (Option Value)),
  fd=PySem.W.fnOf x qual (defArgs st) (defBody st) (defScope st) .none kV doc pm an cdv ct/\K.lookup f=some ⟨oc,od,.func fd,osl⟩/\PySem.W.codeIn K cdv qual=true
 kp:PySem.W.keepIn K (.ref f)=true
section
variable {P:Program} {w:World} {K:PySem.W.Frag} {mg:Str->Option Value} {base:Heap}
theorem Fun.ok {x qual:Str} {st:Stmt} {f:Addr} {fd:FuncData} {N ps:List Str} {k:Nat} {sp:Sp} (F:Fun K x qual st f fd) (S:FnScope N ps (defScope st)) (len:∀ vs H Q E,sp vs H Q E->vs.length=ps.length)
  (hbody:∀ (cdv:Value) (A:Around) (outer:List Env) (s:Shared) (H:Hp) (vs:List V) (Q:VK) (E:XK),Room k (A.deeper (envOfC qual (defScope st) s.heap.objs.size f cdv))->sp vs H Q E →
   ∃ t,PSs (cxOf CX0 P w K mg base N qual (defScope st) f cdv A outer s H E).nox (defBody st) t/\t { nx:=fun _ H'=>Q .non H',rt:=Q } (start N vs) H):FnOk P w K mg base CX0 (k+1) f fd ps sp:=by
 obtain ⟨oc,od,kV,doc,pm,an,cdv,ct,osl,rfl,lk,hcd⟩:=F.ex
 refine fn_of lk hcd S len fun A outer s H vs Q E hr hsp=>?_
 obtain ⟨t,h,q⟩:=hbody cdv A outer s H vs Q E hr hsp
 exact ⟨t,h.nox,q⟩
theorem Fun.binds {x qual:Str} {st:Stmt} {f:Addr} {fd:FuncData} {ps:List Str} (F:Fun K x qual st f fd)
  (h:∀ (kV doc pm:Value) (an:Option Addr) (cdv ct:Value) (us:List Value),us.length=ps.length->bindArgs (PySem.W.fnOf x qual (defArgs st) (defBody st) (defScope st) .none kV doc pm an cdv ct) ⟨us,[]⟩=pure (ps.zip us)):Binds K fd ps []:=by
 obtain ⟨oc,od,kV,doc,pm,an,cdv,ct,osl,rfl,lk,hcd⟩:=F.ex
 exact .all (h kV doc pm an cdv ct)
theorem fun_mk {x qual:Str} {st:Stmt} {f:Addr} {oc:Value} {od an:Option Addr} {osl:Array (Option Value)} {kV doc pm cdv ct:Value} (l:K.lookup f=some ⟨oc,od,.func (PySem.W.fnOf x qual (defArgs st) (defBody st) (defScope st) .none kV doc pm an cdv ct),osl⟩)
  (c:PySem.W.codeIn K cdv qual=true) (k:PySem.W.keepIn K (.ref f)=true):Fun K x qual st f (PySem.W.fnOf x qual (defArgs st) (defBody st) (defScope st) .none kV doc pm an cdv ct):=⟨⟨oc,od,kV,doc,pm,an,cdv,ct,osl,rfl,l,c⟩,k⟩
end
section
variable {X:Cx}
end
theorem iteF {A B:Prop} (h:B):if false=true then A else B:=by
 rw [if_neg Bool.false_ne_true]
 exact h
theorem iteT {A B:Prop} (h:A):if true=true then A else B:=by
 rw [if_pos rfl]
 exact h
theorem ite2 {c A B:Prop} [Decidable c] (h1:c->A) (h2:¬ c->B):if c then A else B:=by
 by_cases h:c
 ·rw [if_pos h]
  exact h1 h
 ·rw [if_neg h]
  exact h2 h
def Same (H H':Hp):Prop:=∀ b o,H b=some o->H' b=some o
theorem Same.refl (H:Hp):Same H H:=fun _ _ h=>h
theorem Same.trans {H H1 H2:Hp} (a:Same H H1) (b:Same H1 H2):Same H H2:=fun c o h=>b c o (a c o h)
theorem Same.free {H H':Hp} (e:Same H H') {l:Addr} (h:H' l=Option.none):H l=Option.none:=by
 cases q:H l with
 | none=>rfl
 | some o=>
  rw [e l o q] at h
  cases h
theorem Same.seq {K:PySem.W.Frag} {H H':Hp} {a:Addr} {xs:List V} (e:Same H H') (h:SqL K H a xs):SqL K H' a xs:=by
 rcases h with (h | ⟨o,h⟩) | h
 ·exact .inl (.inl (e _ _ h))
 ·exact .inl (.inr ⟨o,e _ _ h⟩)
 ·exact .inr h
end L2
section
namespace L2
open PySem
section
variable {prog:Program} {w:World} {A:Around} {R:Result->Shared->Prop} {s:Shared}
theorem compLoop_any {elt target iter:Expr} {ifs:List Expr} {scope:Scope} {pos:Pos} {it acc:Value} {env:Env} (I:Nat->Shared->Prop)
  (turn:∀ n s,I n s->wpAny (model prog w) A (pyNext it) (fun r s₁=>match r with
   | none=>R (.ok .next) s₁
   | some v=>wpAny (model prog w) A (letOwnedTupleGo target it v) (fun _ s₁'=>wpAny (model prog w) A (assign target env v) (fun _ s₂=>
     wpAny (model prog w) A (forIn ifs true fun c r=>if r=true then do let ok <-isTrue c env (eval c env);pure (ForInStep.yield ok) else pure (ForInStep.yield r)) (fun ok s₃=>
      if ok=true then wpAny (model prog w) A (eval elt env) (fun x s₄=>
       wpAny (model prog w) A (call (.builtin "list.append") [acc,x]) (fun _ s₅=>∃ m,m < n/\I m s₅) (fun _ _=>False) s₄) (fun _ _=>False) s₃
      else ∃ m,m < n/\I m s₃) (fun _ _=>False) s₂) (fun _ _=>False) s₁') (fun _ _=>False) s₁) (fun _ _=>False) s)
  (n:Nat) (h:I n s) :
  codeAny (model prog w) A (.compLoop (.ListComp elt [⟨target,iter,ifs,0⟩] scope pos) 0 it acc env) R s:=by
 refine codeAny_loop rfl I (fun n s hI=>?_) n h
 show wpAny _ A ((compTurn (.ListComp elt [⟨target,iter,ifs,0⟩] scope pos) 0 it acc env).onRaise (fun x=>do noteFrame x env;theTreesLotGoes x)) _ _ s
 refine wpAny_noted ?_
 rw [compTurn_list]
 refine wpAny_bind (wpAny_standAt (wpAny_bind (wpAny_mono (turn n s hI) (fun r s₁ h₁=>?_) fun _ _ h'=>h'.elim)))
 cases r with
 | none=>exact wpAny_pure h₁
 | some v=>
  refine wpAny_bind (wpAny_mono h₁ (fun _ s₁' h₁'=>?_) fun _ _ h'=>h'.elim)
  refine wpAny_bind (wpAny_mono h₁' (fun _ s₂ h₂=>wpAny_bind (wpAny_mono h₂ (fun ok s₃ h₃=>?_) fun _ _ h'=>h'.elim)) fun _ _ h'=>h'.elim)
  cases ok with
  | false=>exact wpAny_pure ⟨rfl,h₃⟩
  | true=>
   exact wpAny_bind (wpAny_bind (wpAny_mono h₃ (fun x s₄ h₄=>wpAny_bind (wpAny_mono h₄ (fun _ s₅ h₅=>wpAny_pure (wpAny_pure ⟨rfl,h₅⟩)) fun _ _ h'=>h'.elim)) fun _ _ h'=>h'.elim))
end
theorem closure_from {env:Env}:∀ (names:List (Str×NameKind)) (acc:List (Str×Addr)),(∀ y∈names,y.2 = .free->∃ c,env.cells.lookup y.1=some c)->(∀ x c,acc.lookup x=some c->env.cells.lookup x=some c) →
  ∃ cl:List (Str×Addr),(forIn names acc fun (x:Str×NameKind) (r:List (Str×Addr))=>(match x with | (name,kind)=>if (kind == NameKind.free)=true then do let a <-cellOf env name;pure (ForInStep.yield ((name,a) :: r)) else pure (ForInStep.yield r):Sem (ForInStep (List (Str×Addr)))))=pure cl ∧
   (∀ x c,cl.lookup x=some c->env.cells.lookup x=some c)/\(∀ y∈names,y.2 = .free->∃ c,cl.lookup y.1=some c)/\∀ x c,acc.lookup x=some c->∃ c',cl.lookup x=some c'
 | [],acc,_,h=>⟨acc,rfl,h,(fun y z=>by cases z),fun _ c e=>⟨c,e⟩⟩
 | (name,kind) :: r,acc,hf,h=>by
  by_cases hk:kind = .free
  ·subst hk
   obtain ⟨c,hc⟩:=hf (name,.free) List.mem_cons_self rfl
   have h2:∀ x d,((name,c) :: acc).lookup x=some d->env.cells.lookup x=some d:=fun x d e=>by
    rw [List.lookup_cons] at e
    cases hx:x == name with
    | true=>rw [hx] at e;cases e;rw [eq_of_beq hx];exact hc
    | false=>rw [hx] at e;exact h x d e
   obtain ⟨cl,e,h3,h4,h5⟩:=closure_from r ((name,c) :: acc) (fun y hy=>hf y (List.mem_cons_of_mem _ hy)) h2
   refine ⟨cl,?_,h3,fun y hy hyf=>?_,fun x d hx=>?_⟩
   ·rw [List.forIn_cons]
    simp only [beq_self_eq_true,if_true,cellOf,hc,pure_bind]
    exact e
   ·rcases List.mem_cons.mp hy with rfl | hy
    ·exact h5 name c (by simp [List.lookup_cons])
    ·exact h4 y hy hyf
   ·cases hxn:x == name with
    | true=>exact h5 x c (by rw [List.lookup_cons,hxn])
    | false=>exact h5 x d (by rw [List.lookup_cons,hxn];exact hx)
  ·obtain ⟨cl,e,h3,h4,h5⟩:=closure_from r acc (fun y hy=>hf y (List.mem_cons_of_mem _ hy)) h
   have hb:(kind == NameKind.free)=false:=by simpa using hk
   refine ⟨cl,?_,h3,fun y hy hyf=>?_,h5⟩
   ·rw [List.forIn_cons]
    simp only [hb,Bool.false_eq_true,if_false,pure_bind]
    exact e
   ·rcases List.mem_cons.mp hy with rfl | hy
    ·exact absurd hyf hk
    ·exact h4 y hy hyf
theorem closure_ok {env:Env} {scope:Scope} (hf:∀ y∈scope.names,y.2 = .free->∃ c,env.cells.lookup y.1=some c) :
  ∃ cl,closureFor scope env=pure cl/\(∀ x c,cl.lookup x=some c->env.cells.lookup x=some c)/\∀ y∈scope.names,y.2 = .free->∃ c,cl.lookup y.1=some c:=by
 obtain ⟨cl,e,h1,h2,_⟩:=closure_from (env:=env) scope.names [] hf (fun x c e=>by simp at e)
 refine ⟨cl,?_,h1,h2⟩
 unfold closureFor
 exact (congrArg (· >>= pure) e).trans (pure_bind _ _)
end L2
end
section
namespace L2
open PySem PySem.Spec PyProof.Rows
abbrev Cx.block (X:Cx) (scope:Scope) (cl:List (Str×Addr)) (C:Addr) (N:List Str) (s:Shared) (H:Hp) (fp:List Addr):Cx:=
 { X with N:=N,s₀:=s,H₀:=H,env:=compEnvC scope cl C X.env,outer:=X.stack,ex:=fp,fn:=fun _=>false,pn:=[],xe:=fun _ _=>False }
def compOk (osc:Scope) (oN:List Str) (sc:Scope) (N:List Str) (js:List Nat):Bool:=
 sc.names.all (fun y=>y.2 != .cell) && (sc.names.all (fun y=>y.2 != .local || sc.names.lookup y.1 == some .local) && (decide (js.length<=N.length) &&
  (sc.names.all (fun y=>y.2 != .free || (osc.names.lookup y.1 == some .cell || osc.names.lookup y.1 == some .free)) &&
   (List.range js.length).all (fun i=>match N[N.length - js.length+i]?,oN[js.getD i 0]? with | some x,some y=>x == y && sc.names.lookup x == some .free | _,_=>false))))
structure CompSc (osc:Scope) (oN:List Str) (sc:Scope) (N:List Str) (js:List Nat):Prop where
 nocell:∀ y∈sc.names,y.2≠.cell
 names:∀ y∈sc.names,y.2 = .local->sc.names.lookup y.1=some .local
 len:js.length<=N.length
 tk:∀ y∈sc.names,y.2 = .free->osc.names.lookup y.1=some .cell\/osc.names.lookup y.1=some .free
 fr:∀ (i j:Nat),js[i]? = some j->∃ x,N[N.length - js.length+i]? = some x/\oN[j]? = some x/\sc.names.lookup x=some .free
theorem compOk_sc {osc:Scope} {oN:List Str} {sc:Scope} {N:List Str} {js:List Nat} (h:compOk osc oN sc N js=true):CompSc osc oN sc N js:=by
 unfold compOk at h
 simp only [Bool.and_eq_true] at h
 obtain ⟨h1,h2,h3,h4,h5⟩:=h
 refine ⟨fun y hy=>?_,fun y hy hl=>?_,of_decide_eq_true h3,fun y hy hf=>?_,fun i j hj=>?_⟩
 ·have:=List.all_eq_true.mp h1 y hy
  simpa using this
 ·have:=List.all_eq_true.mp h2 y hy
  rw [hl] at this
  simpa using this
 ·have:=List.all_eq_true.mp h4 y hy
  rw [hf] at this
  simpa using this
 ·have hi:i < js.length:=(List.getElem?_eq_some_iff.mp hj).1
  have:=List.all_eq_true.mp h5 i (List.mem_range.mpr hi)
  have e:js.getD i 0=j:=by rw [List.getD_eq_getElem?_getD,hj];rfl
  rw [e] at this
  split at this
  ·rename_i x y e1 e2
   simp only [Bool.and_eq_true,beq_iff_eq] at this
   obtain ⟨rfl,h⟩:=this
   exact ⟨x,e1,e2,h⟩
  ·cases this
def blk (n:Nat) (js:List Nat) (σ:St):St:=List.replicate n none++js.map fun j=>(σ[j]?).join
theorem blk_get {n:Nat} {js:List Nat} {σ:St} {i:Nat} {v:V} (h:(blk n js σ)[i]? = some (some v)):∃ k j,i=n+k/\js[k]? = some j/\σ[j]? = some (some v):=by
 unfold blk at h
 by_cases hi:i < n
 ·rw [List.getElem?_append_left (by simpa using hi),List.getElem?_replicate] at h
  split at h<;>cases h
 ·rw [List.getElem?_append_right (by simpa using hi),List.length_replicate,List.getElem?_map] at h
  cases e:js[i - n]? with
  | none=>rw [e] at h;cases h
  | some j=>
   rw [e] at h
   refine ⟨i - n,j,by omega,e,?_⟩
   have h':(σ[j]?).join=some v:=by simpa using h
   cases q:σ[j]? with
   | none=>rw [q] at h';cases h'
   | some o=>
    rw [q] at h'
    have:o=some v:=h'
    rw [this]
theorem relabel_lookup {env:Env}:∀ {names:List (Str×NameKind)} {x:Str} {k:NameKind},
  (names.map fun (n,k)=>if (k == NameKind.free && env.scope.kind == .function && env.kindOf n == some .cell) then (n,NameKind.cell) else (n,k)).lookup x=some k->k = .cell\/k = .free->(∀ y∈names,y.2≠.cell)->(x,NameKind.free)∈names
 | [],_,_,h,_,_=>by simp at h
 | (n,k1) :: r,x,k,h,hk,hc=>by
  have ih:=@relabel_lookup env r x k
  have hc':∀ y∈r,y.2≠.cell:=fun y hy=>hc y (List.mem_cons_of_mem _ hy)
  have h1:k1≠.cell:=hc (n,k1) List.mem_cons_self
  have h:List.lookup x ((if (k1 == NameKind.free && env.scope.kind == .function && env.kindOf n == some .cell)=true then (n,NameKind.cell) else (n,k1)) :: _)=some k:=h
  by_cases c:(k1 == NameKind.free && env.scope.kind == .function && env.kindOf n == some .cell)=true
  ·rw [if_pos c,List.lookup_cons] at h
   cases hx:x == n with
   | true=>
    have e:k1 = .free:=by simp only [Bool.and_eq_true,beq_iff_eq] at c;exact c.1.1
    rw [eq_of_beq hx,e]
    exact List.mem_cons_self
   | false=>rw [hx] at h;exact List.mem_cons_of_mem _ (ih h hk hc')
  ·rw [if_neg c,List.lookup_cons] at h
   cases hx:x == n with
   | true=>
    rw [hx] at h
    have e:k1=k:=Option.some.inj h
    have e2:k1 = .free:=by
     rcases hk with z | z
     ·exact absurd (e.trans z) h1
     ·exact e.trans z
    rw [eq_of_beq hx,e2]
    exact List.mem_cons_self
   | false=>rw [hx] at h;exact List.mem_cons_of_mem _ (ih h hk hc')
theorem relabel_free {env:Env}:∀ {names:List (Str×NameKind)} {x:Str},names.lookup x=some .free →
  (names.map fun (n,k)=>if (k == NameKind.free && env.scope.kind == .function && env.kindOf n == some .cell) then (n,NameKind.cell) else (n,k)).lookup x=some .cell ∨
  (names.map fun (n,k)=>if (k == NameKind.free && env.scope.kind == .function && env.kindOf n == some .cell) then (n,NameKind.cell) else (n,k)).lookup x=some .free
 | [],_,h=>by simp at h
 | (n,k1) :: r,x,h=>by
  have ih:=@relabel_free env r x
  show List.lookup x ((if (k1 == NameKind.free && env.scope.kind == .function && env.kindOf n == some .cell)=true then (n,NameKind.cell) else (n,k1)) :: _)=_\/List.lookup x ((if (k1 == NameKind.free && env.scope.kind == .function && env.kindOf n == some .cell)=true then (n,NameKind.cell) else (n,k1)) :: _)=_
  rw [List.lookup_cons] at h
  by_cases c:(k1 == NameKind.free && env.scope.kind == .function && env.kindOf n == some .cell)=true
  ·rw [if_pos c,List.lookup_cons]
   cases hx:x == n with
   | true=>exact .inl rfl
   | false=>rw [hx] at h;exact ih h
  ·rw [if_neg c,List.lookup_cons]
   cases hx:x == n with
   | true=>rw [hx] at h;exact .inr h
   | false=>rw [hx] at h;exact ih h
def PF (X:Cx) (ifs:List Expr) (t:TT):Prop:=
 ∀ (pins:List (Addr×Obj)) (s:Shared) (σ:St) (H:Hp) (Q:Bool->Hp->Prop),Inv X pins σ H s->t σ H Q →
  wpAny (model X.prog X.w) X.A (forIn ifs true fun c r=>if r=true then do let ok <-isTrue c X.env (eval c X.env);pure (ForInStep.yield ok) else pure (ForInStep.yield r)) (TP X pins σ Q) X.xe s
def tYes:TT:=fun _ H Q=>Q true H
theorem pf_nil {X:Cx}:PF X [] tYes:=fun _ _ _ H _ I h=>wpAny_tests_nil ⟨H,I,h⟩
def tComp (n:Nat) (js:List Nat) (wi:TI) (g:TG) (tt:TT) (te:TE):TE:=fun σ H Q=>wi σ H fun J H1=>∀ D,H1 D=none->∃ W:Nat->Nat->St->Hp->List V->Prop,
 (∃ m,W 0 m (blk n js σ) (upd H1 D (.lst [])) [])/\∀ i m τ H2 ys,W i m τ H2 ys->H2 D=some (.lst ys) ∧
  ((J.stop i H2/\Q (.ref D) H2)\/(J.go i H2/\ys.length < sizeLine/\∃ N:St->Hp->List V->Prop,(∀ τ' H' ys',N τ' H' ys'->∃ m',m' < m/\W (i+1) m' τ' H' ys')/\∀ x H3,J.yld i H2 x H3->g x τ H3 fun τ4 H4=>tt τ4 H4 fun b H5=>
   if b=true then te τ4 H5 fun y H6=>H6 D=some (.lst ys)/\N τ4 (upd H6 D (.lst (ys++[y]))) (ys++[y])
   else N τ4 H5 ys))
section
variable {X:Cx}
theorem block_inv {pins:List (Addr×Obj)} {σ:St} {H:Hp} {s:Shared} {h₁:Heap} {tk:Nat} {scope:Scope} {N:List Str} {js:List Nat} {cl:List (Str×Addr)} {fp:List Addr}
  (I:Inv X pins σ H s) (hk:scope.kind = .function) (hN:N.Nodup) (S:CompSc X.env.scope X.N scope N js) (hcl:∀ x c,cl.lookup x=some c->X.env.cells.lookup x=some c) (hcl2:∀ y∈scope.names,y.2 = .free->∃ c,cl.lookup y.1=some c)
  (hf:∀ b∈fp,b < s.heap.objs.size/\b≠X.env.locals/\b ∉ X.fs/\(b∈X.ex\/X.s₀.heap.objs.size<=b)/\(∀ x c,X.env.cells.lookup x=some c->c≠b))
  (hns:h₁.Ns s.heap.objs.size fun _=>none) (old:∀ b o,s.heap.get? b=some o->h₁.get? b=some o) :
  Inv (X.block scope cl s.heap.objs.size N s H fp) [] (blk (N.length - js.length) js σ) H { s with heap:=h₁,toks:=tk }:=by
 have look:∀ x,((relabel scope X.env).names.lookup x=some .cell\/(relabel scope X.env).names.lookup x=some .free)->∃ c,cl.lookup x=some c:=fun x hx=>by
  have hm:(x,NameKind.free)∈scope.names:=by
   rcases hx with z | z
   ·exact relabel_lookup z (.inl rfl) S.nocell
   ·exact relabel_lookup z (.inr rfl) S.nocell
  exact hcl2 _ hm rfl
 refine ⟨⟨I.ok.mod,hk,I.ok.glob,I.ok.blt,Nat.le_refl _,fun x y c h1 h2=>I.ok.inj x y c (hcl x c h1) (hcl y c h2),look,fun x c h=>(by cases h),I.ok.hd,I.ok.frames,.inl rfl,fun b hb=>?_,I.bs,Nat.le_trans I.ok.bsz I.sz,fun b o e hb=>?_,fun b hb z=>?_,I.stack,I.stkFree⟩,
  rfl,I.bare,Un.kept old,⟨_,hns,fun i x v h1 h2 h3=>?_⟩,fun x c h=>?_,I.hok.fresh (Nat.le_refl _),fun x c h=>I.freeC x c (hcl x c h),fun p hp=>absurd (show p∈([]:List (Addr×Obj)) from hp) (by simp),I.hok.kept old,?_⟩
 ·exact ⟨Nat.ne_of_lt (hf b hb).1,fun x c h=>(hf b hb).2.2.2.2 x c (hcl x c h)⟩
 ·rcases (hf b hb).2.2.2.1 with z | z
  ·exact I.ok.noex b o e z
  ·exact absurd (Nat.lt_of_lt_of_le (Heap.lt_size e) (Nat.le_trans I.ok.bsz z)) (Nat.lt_irrefl _)
 ·rcases List.mem_cons.mp (I.stkSub b z) with q | q
  ·exact (hf b hb).2.1 q
  ·exact (hf b hb).2.2.1 q
 ·obtain ⟨k,j,rfl,hj,hσ⟩:=blk_get h2
  obtain ⟨x',e1,e2,e3⟩:=S.fr k j hj
  rw [e1] at h1
  have ex:x'=x:=Option.some.inj h1
  subst ex
  have ok:=S.tk _ (PySem.mem_of_lookup e3) rfl
  obtain ⟨m,_,hl⟩:=I.loc
  obtain ⟨u,r,l⟩:=hl j x' v e2 hσ (.inr ok)
  refine ⟨u,r,?_⟩
  rcases l with ⟨hk',_⟩ | ⟨_,c,hc,hcell⟩
  ·have hk2:X.env.scope.names.lookup x'=some .local:=hk'
   rcases ok with z | z<;>(rw [hk2] at z;cases z)
  ·obtain ⟨c',hc'⟩:=hcl2 _ (PySem.mem_of_lookup e3) rfl
   have:c'=c:=Option.some.inj ((hcl _ _ hc').symm.trans hc)
   subst this
   obtain ⟨o,ho,hd⟩:=hcell
   exact .inr ⟨relabel_free e3,c',hc',⟨o,old _ _ ho,hd⟩⟩
 ·obtain ⟨v,o,ho,hd⟩:=I.cell x c (hcl x c h)
  exact ⟨v,o,old _ _ ho,hd⟩
 ·show (blk (N.length - js.length) js σ).length=N.length
  unfold blk
  rw [List.length_append,List.length_replicate,List.length_map]
  have:=S.len
  omega
theorem comp_block {pins:List (Addr×Obj)} {σ:St} {H:Hp} {s:Shared} {elt target iter:Expr} {ifs:List Expr} {scope:Scope} {pos:Pos} {N:List Str} {js:List Nat} {cl:List (Str×Addr)} {J:It} {fp:List Addr} {it:Addr} {tn:Nat->Heap->Prop}
  {g:TG} {tt:TT} {te:TE} {E:Value->Shared->Prop} {RR:Value->Addr->Result->Shared->Prop} {Q:VK}
  (hc:X.calm=true) (I:Inv X pins σ H s) (T:Turn X.prog X.w X.K target J fp it tn) (st:tn 0 s.heap) (hf:∀ b∈fp,FpOk X pins H b)
  (hk:scope.kind = .function) (hN:N.Nodup) (S:CompSc X.env.scope X.N scope N js) (hcl:∀ x c,cl.lookup x=some c->X.env.cells.lookup x=some c) (hcl2:∀ y∈scope.names,y.2 = .free->∃ c,cl.lookup y.1=some c)
  (hg:∀ cl C s H fp,PG (X.block scope cl C N s H fp) target g) (ht:∀ cl C s H fp,PF (X.block scope cl C N s H fp) ifs tt) (he:∀ cl C s H fp,PE (X.block scope cl C N s H fp) elt te)
  (h:∀ D,H D=none->∃ W:Nat->Nat->St->Hp->List V->Prop,(∃ m,W 0 m (blk (N.length - js.length) js σ) (upd H D (.lst [])) [])/\∀ i m τ H2 ys,W i m τ H2 ys->H2 D=some (.lst ys) ∧
   ((J.stop i H2/\Q (.ref D) H2)\/(J.go i H2/\ys.length < sizeLine/\∃ N:St->Hp->List V->Prop,(∀ τ' H' ys',N τ' H' ys'->∃ m',m' < m/\W (i+1) m' τ' H' ys')/\∀ x H3,J.yld i H2 x H3->g x τ H3 fun τ4 H4=>tt τ4 H4 fun b H5=>
    if b=true then te τ4 H5 fun y H6=>H6 D=some (.lst ys)/\N τ4 (upd H6 D (.lst (ys++[y]))) (ys++[y])
    else N τ4 H5 ys)))
  (hend:∀ D C H' s',(∃ m,s'.heap.Ns C m)->FpOk X pins H' C->Inv X pins σ H' s'->Q (.ref D) H'->RR (.ref D) C (.ok .next) s') :
  wpAny (model X.prog X.w) X.A (newList []) (fun acc s₃=>wpAny (model X.prog X.w) X.A (newFunctionEnv scope X.env.globals cl [] X.env.qual none .none (some X.env)) (fun cenv s₄=>
   codeAny (model X.prog X.w) X.A (.compStart (.ListComp elt [⟨target,iter,ifs,0⟩] scope pos) 0 (.ref it) acc { cenv with scope:=relabel scope X.env }) (RR acc cenv.locals) s₄) E s₃) E s:=by
 obtain ⟨W,⟨m0,w0⟩,turn⟩:=h s.heap.objs.size I.fresh
 refine wpAny_newObj_type (wpAny_newFunctionEnv S.nocell (by intro y hy;simp at hy) (fun h₁ hns₁ hsb₁=>?_) hk)
 have I3:Inv X pins σ (upd H s.heap.objs.size (.lst [])) { s with heap:=s.heap.push { cls:=.type "list",dict:=none,data:=.seq ([]:List Value).toArray } }:=I.lnew (its:=[]) (ys:=[]) (t':=s.toks) .nil (Nat.zero_le _)
 have hF3:∀ b∈fp,b < s.heap.objs.size:=fun b hb=>by
  obtain ⟨o,e,_⟩:=T.obj 0 s.heap st b hb
  exact Heap.lt_size e
 have st3:tn 0 (s.heap.push { cls:=.type "list",dict:=none,data:=.seq ([]:List Value).toArray }):=T.keep 0 _ _ st fun b hb o e=>Heap.get?_push_of_some _ e
 generalize hs3:({ s with heap:=s.heap.push { cls:=.type "list",dict:=none,data:=.seq ([]:List Value).toArray } }:Shared)=s3 at I3 hns₁ hsb₁ ⊢
 have e3:s3.heap=s.heap.push { cls:=.type "list",dict:=none,data:=.seq ([]:List Value).toArray }:=by rw [<-hs3]
 rw [<-e3] at st3
 have z3:s.heap.objs.size<=s3.heap.objs.size:=by rw [e3,Heap.size_push];exact Nat.le_succ _
 have old:∀ b o,s3.heap.get? b=some o->h₁.get? b=some o:=fun b o e=>hsb₁.extBut b o (Nat.ne_of_lt (Heap.lt_size e)) (Heap.get?_push_of_some _ e)
 have hf3:∀ b∈fp,b < s3.heap.objs.size/\b≠X.env.locals/\b ∉ X.fs/\(b∈X.ex\/X.s₀.heap.objs.size<=b)/\(∀ x c,X.env.cells.lookup x=some c->c≠b):=fun b hb=>
  let ⟨_,q1,q2,q3,q4,_⟩:=hf b hb
  ⟨Nat.lt_of_lt_of_le (hF3 b hb) z3,q1,q2,q3,q4⟩
 have nD:∀ b∈fp,upd H s.heap.objs.size (.lst []) b=none:=fun b hb=>by
  rw [upd_ne (Nat.ne_of_lt (hF3 b hb))]
  exact (hf b hb).1
 have I4:Inv (X.block scope cl s3.heap.objs.size N s3 (upd H s.heap.objs.size (.lst [])) fp) [] (blk (N.length - js.length) js σ) (upd H s.heap.objs.size (.lst [])) { s3 with heap:=h₁,toks:=s3.toks+([]:List (Str×Value)).length }:=
  block_inv I3 hk hN S hcl hcl2 hf3 hns₁ old
 have st4:tn 0 h₁:=T.keep 0 _ _ st3 fun b hb o e=>old b o e
 have hg':=hg cl s3.heap.objs.size s3 (upd H s.heap.objs.size (.lst [])) fp
 have ht':=ht cl s3.heap.objs.size s3 (upd H s.heap.objs.size (.lst [])) fp
 have he':=he cl s3.heap.objs.size s3 (upd H s.heap.objs.size (.lst [])) fp
 have stat:∀ {H':Hp},(∀ b∈fp,H' b=none)->∀ b∈fp,FpOk (X.block scope cl s3.heap.objs.size N s3 (upd H s.heap.objs.size (.lst [])) fp) [] H' b:=fun hn b hb=>
  ⟨hn b hb,(I4.ok.exf b hb).1,I4.ok.exfs b hb,.inl hb,(I4.ok.exf b hb).2,fun p hp=>absurd (show p∈([]:List (Addr×Obj)) from hp) (by simp)⟩
 have loop:codeAny (model X.prog X.w) X.A (.compLoop (.ListComp elt [⟨target,iter,ifs,0⟩] scope pos) 0 (.ref it) (.ref s.heap.objs.size) (compEnvC scope cl s3.heap.objs.size X.env)) (RR (.ref s.heap.objs.size) s3.heap.objs.size) { s3 with heap:=h₁,toks:=s3.toks+([]:List (Str×Value)).length }:=by
  refine compLoop_any (fun n s'=>∃ i τ H' ys,Inv (X.block scope cl s3.heap.objs.size N s3 (upd H s.heap.objs.size (.lst [])) fp) [] τ H' s'/\tn i s'.heap/\(∀ b∈fp,H' b=none)/\W i n τ H' ys) ?_ m0 ⟨0,_,_,[],I4,st4,nD,w0⟩
  rintro n s5 ⟨i,τ,H5,ys,I5,st5,fr5,w5⟩
  obtain ⟨hD,hw⟩:=turn i n τ H5 ys w5
  rcases hw with ⟨stop,qn⟩ | ⟨go,hz,M,hM,step⟩
  ·refine thn (T.done (X.block scope cl s3.heap.objs.size N s3 (upd H s.heap.objs.size (.lst [])) fp) rfl rfl rfl hc i [] s5 τ H5 (fun _ _=>False) I5 (stat fr5) st5 stop) fun r s6 ⟨hr,I6⟩=>?_
   subst hr
   refine hend _ _ H5 s6 (let ⟨m,hn,_⟩:=I6.loc;⟨m,hn⟩) (I3.fpOk (Nat.le_refl _) I6.free) ?_ qn
   exact I3.call' (ch:=fp) I6.os I6.base I6.hok I6.bare fun b hb=>⟨(hf b hb).2.2.2.1,(hf b hb).2.1,(hf b hb).2.2.2.2.1,(hf b hb).2.2.2.2.2⟩
  ·refine thn (T.item (X.block scope cl s3.heap.objs.size N s3 (upd H s.heap.objs.size (.lst [])) fp) rfl rfl rfl hc i [] s5 τ H5 (fun _ _=>False) I5 (stat fr5) st5 go) fun r s6 ⟨u,hr,h6⟩=>?_
   subst hr
   refine thn h6 fun _ s7 ⟨x,H7,I7,r7,y7,st7,fr7⟩=>?_
   have I7':=I7.pinned (stat fr7) (T.obj _ _ st7)
   refine thn (hg' _ s7 τ H7 x u _ I7' r7 (step x H7 y7)) fun _ s8 ⟨τ8,H8,I8,q8⟩=>?_
   refine thn (ht' _ s8 τ8 H8 _ I8 q8) fun b s9 ⟨H9,I9,q9⟩=>?_
   have again:∀ {τ':St} {H':Hp} {s':Shared} {ys':List V},Inv (X.block scope cl s3.heap.objs.size N s3 (upd H s.heap.objs.size (.lst [])) fp) ([]++pinsAt fp s7.heap) τ' H' s'->M τ' H' ys' →
     ∃ m,m < n/\∃ i τ H' ys,Inv (X.block scope cl s3.heap.objs.size N s3 (upd H s.heap.objs.size (.lst [])) fp) [] τ H' s'/\tn i s'.heap/\(∀ b∈fp,H' b=none)/\W i m τ H' ys:=fun {τ' H' s' ys'} I' hm'=>by
    obtain ⟨m',hm,w'⟩:=hM _ _ _ hm'
    refine ⟨m',hm,i+1,τ',H',ys',I'.unpinned,T.keep _ _ _ st7 fun b hb o e=>(I'.pin (b,o) (List.mem_append_right _ (List.mem_append_right _ (mem_pinsAt hb e)))).1,fun b hb=>?_,w'⟩
    obtain ⟨o,e,d⟩:=T.obj _ _ st7 b hb
    exact (I'.pin (b,o) (List.mem_append_right _ (List.mem_append_right _ (mem_pinsAt hb e)))).2.1
   cases b with
   | false=>exact again I9 q9
   | true=>
    refine thn (he' _ s9 τ8 H9 _ I9 q9) fun y s10 ⟨v10,H10,I10,r10,hD10,q10⟩=>?_
    refine thn (mt_append (X:=X.block scope cl s3.heap.objs.size N s3 (upd H s.heap.objs.size (.lst [])) fp) _ s10 τ8 H10 (.ref s.heap.objs.size) [v10] (.ref s.heap.objs.size) [y] (fun _ H'=>M τ8 H' (ys++[v10])) I10 rfl (.cons r10 .nil) ⟨_,ys,v10,rfl,rfl,hD10,hz,q10⟩) fun _ s11 ⟨_,H11,I11,_,q11⟩=>?_
    exact again I11 q11
 exact codeAny_compStart_list loop (T.self X.A 0 _ _ _ st4 loop)
variable {elt target iter:Expr} {ifs:List Expr} {scope:Scope} {pos spos:Pos} {wi:TI} {g:TG} {tt:TT} {te:TE}
theorem pe_comp (N:List Str) (js:List Nat) (hok:compOk X.env.scope X.N scope N js=true) (hN:N.Nodup) (hc:X.calm=true) (hi:PI X target iter wi)
  (hg:∀ cl C s H fp,PG (X.block scope cl C N s H fp) target g) (ht:∀ cl C s H fp,PF (X.block scope cl C N s H fp) ifs tt) (he:∀ cl C s H fp,PE (X.block scope cl C N s H fp) elt te)
  (hk:scope.kind = .function:=by rfl) (hs:∀ x,foldedSetIterable iter X.env x=pure x:=by intro _;rfl) :
  PE X (.ListComp elt [⟨target,iter,ifs,0⟩] scope pos) (tComp (N.length - js.length) js wi g tt te):=by
 intro pins s σ H Q I h
 have S:=compOk_sc hok
 obtain ⟨cl,hclos,hcl,hcl2⟩:=closure_ok (env:=X.env) (scope:=scope) fun y hy hf=>I.ok.has _ (S.tk y hy hf)
 rw [eval_ListComp]
 refine wpAny_comprehension_free (use:=none) rfl hs hclos hk S.names (thn (hi pins s σ H _ I h) fun v s1 h1=>thn h1 fun itv s2 h2=>?_)
 obtain ⟨it,fp,tn,J,H2,e,I2,T,st2,f2,hw⟩:=h2
 subst e
 refine comp_block (RR:=fun acc C=>compPost (model X.prog X.w) X.A X.xe none (EP X pins σ Q) acc C) (Q:=Q) hc I2 T st2 f2 hk hN S hcl hcl2 hg ht he hw ?_
 rintro D C H' s' ⟨m,hn⟩ ⟨c0,c1,c2,c3,c4,c5⟩ I' q
 exact ⟨m,hn,fun h' hs'=>⟨.ref D,H',I'.turned (t':=s'.toks) (fun b o hb e=>(hs'.2 b hb).trans e) c0 c1 c3 c4 c5,rfl,q⟩⟩
theorem ps_setComp {i:Nat} {y:Str} {py:Pos} (N:List Str) (js:List Nat) (hok:compOk X.env.scope X.N scope N js=true) (hN:N.Nodup) (hc:X.calm=true) (hXN:X.N.Nodup) (hyi:X.N[i]? = some y) (hy:Loc X.env.scope y) (hi:PI X target iter wi)
  (hg:∀ cl C s H fp,PG (X.block scope cl C N s H fp) target g) (ht:∀ cl C s H fp,PF (X.block scope cl C N s H fp) ifs tt) (he:∀ cl C s H fp,PE (X.block scope cl C N s H fp) elt te)
  (hsw:swapsWith (.ListComp elt [⟨target,iter,ifs,0⟩] scope pos) (some (.Name y py)) spos.line X.env=pure true:=by rfl)
  (hk:scope.kind = .function:=by rfl) (hs:∀ x,foldedSetIterable iter X.env x=pure x:=by intro _;rfl) (hf:X.fn y=true\/X.env.scope.names.lookup y=some .local:=by first | exact .inl rfl | exact .inr rfl | assumption) :
  PS X (.Assign [.Name y py] (.ListComp elt [⟨target,iter,ifs,0⟩] scope pos) spos) (tAsg (tComp (N.length - js.length) js wi g tt te) (gName i)):=by
 intro pins s σ H D I h
 have S:=compOk_sc hok
 obtain ⟨cl,hclos,hcl,hcl2⟩:=closure_ok (env:=X.env) (scope:=scope) fun y hy hf=>I.ok.has _ (S.tk y hy hf)
 rw [exec_Assign_Name_used _ _ _ _ hsw]
 refine wpAny_bind (wpAny_standAt (wpAny_bind ?_))
 show wpAny _ X.A (do let _ <-comprehension (.ListComp elt [⟨target,iter,ifs,0⟩] scope pos) scope X.env _ (newList []) false (eval iter X.env) (some (assign (.Name y py) X.env))) _ _ s
 refine wpAny_bind (wpAny_mono (wpAny_comprehension_free (use:=some (assign (.Name y py) X.env)) (Q:=fun _ s'=>SP X pins D .next s') rfl hs hclos hk S.names
  (thn (hi pins s σ H _ I h) fun v s1 h1=>thn h1 fun itv s2 h2=>?_)) (fun _ s' hq=>wpAny_pure (wpAny_pure hq)) fun _ _ e=>e)
 obtain ⟨it,fp,tn,J,H2,e,I2,T,st2,f2,hw⟩:=h2
 subst e
 refine comp_block (RR:=fun acc C=>compPost (model X.prog X.w) X.A X.xe (some (assign (.Name y py) X.env)) (fun _ s'=>SP X pins D .next s') acc C) (Q:=fun v H'=>D.nx (σ.set i (some v)) H') hc I2 T st2 f2 hk hN S hcl hcl2 hg ht he hw ?_
 rintro E C H' s' ⟨m,hn⟩ ⟨c0,c1,c2,c3,c4,c5⟩ I' q
 show wpAny _ X.A (assign (.Name y py) X.env (.ref E)) _ _ _
 obtain ⟨oC,es,ep,hoC,hdC,hrC⟩:=id hn
 have I2':Inv X (pins++[(C,oC)]) σ H' s':=I'.pins_of fun p hp=>(List.mem_append.mp hp).elim (fun z=>I'.pin p (List.mem_append_right _ z)) fun z=>by
  have e:p=(C,oC):=by simpa using z
  subst e
  exact ⟨hoC,c0,c1,c2,fun v z=>by rw [hdC] at z;cases z⟩
 refine wpAny_assign_Name (store_ok I2' hXN hyi hy (v:=.ref E) rfl (fun s'' I''=>?_) hf)
 have hC2:=(I''.pin (C,oC) (List.mem_append_right _ (List.mem_append_right _ (by simp)))).1
 have I3:Inv X pins (σ.set i (some (.ref E))) H' s'':=I''.unpinned
 exact ⟨m,⟨oC,es,ep,hC2,hdC,hrC⟩,fun h' hs'=>⟨_,H',I3.turned (t':=s''.toks) (fun b o hb e=>(hs'.2 b hb).trans e) c0 c1 c3 c4 c5,q⟩⟩
end
structure ItOk (J:It) (xs:List V) (ok:Hp->Prop):Prop where
 stop:∀ H,ok H->J.stop xs.length H
 go:∀ i H,ok H->i < xs.length->J.go i H
 yld:∀ i H x H',ok H->i < xs.length->J.yld i H x H'->H'=H/\xs[i]? = some x
theorem it_list (K:PySem.W.Frag) (a:Addr) (xs:List V):ItOk (Itl K a) xs fun H=>SqL K H a xs:=
 ⟨fun H h=>⟨xs,h,Nat.le_refl _⟩,fun i H h hi=>⟨xs,xs[i],h,by simp [hi]⟩,fun i H x H' h hi y=>⟨y.1,y.2 xs h⟩⟩
theorem it_range (lo:Int) (n:Nat):ItOk (Itr lo n) ((List.range n).map fun i=>V.int (lo+(i:Nat))) fun _=>True:=
 ⟨fun H _=>by show n<=_;simp,fun i H _ hi=>(by show i < n;simpa using hi),fun i H x H' _ hi y=>⟨y.1,by
  have hi':i < n:=by simpa using hi
  obtain ⟨_,rfl⟩:=y
  simp [hi']⟩⟩
theorem comp_by {J:It} {D:Addr} {xs:List V} {ok:Hp->Prop} {g:TG} {tt:TT} {te:TE} {Q:Hp->Prop} {τ:St} {H:Hp} (IO:ItOk J xs ok) (Pv:Nat->St->Hp->List V->Prop) (hz:xs.length<=sizeLine) (h0:Pv 0 τ H [])
  (hl:∀ i τ H ys,i<=xs.length->Pv i τ H ys->ok H/\H D=some (.lst ys)/\ys.length<=i)
  (hs:∀ i x τ H ys,i < xs.length->xs[i]? = some x->Pv i τ H ys->g x τ H fun τ4 H4=>tt τ4 H4 fun b H5=>
   if b=true then te τ4 H5 fun y H6=>H6 D=some (.lst ys)/\Pv (i+1) τ4 (upd H6 D (.lst (ys++[y]))) (ys++[y]) else Pv (i+1) τ4 H5 ys)
  (hd:∀ τ H ys,Pv xs.length τ H ys->Q H) :
  ∃ W:Nat->Nat->St->Hp->List V->Prop,(∃ m,W 0 m τ H [])/\∀ i m τ H2 ys,W i m τ H2 ys->H2 D=some (.lst ys) ∧
   ((J.stop i H2/\Q H2)\/(J.go i H2/\ys.length < sizeLine/\∃ N:St->Hp->List V->Prop,(∀ τ' H' ys',N τ' H' ys'->∃ m',m' < m/\W (i+1) m' τ' H' ys')/\∀ x H3,J.yld i H2 x H3->g x τ H3 fun τ4 H4=>tt τ4 H4 fun b H5=>
    if b=true then te τ4 H5 fun y H6=>H6 D=some (.lst ys)/\N τ4 (upd H6 D (.lst (ys++[y]))) (ys++[y])
    else N τ4 H5 ys)):=by
 refine ⟨fun i m τ H ys=>m=xs.length - i/\i<=xs.length/\Pv i τ H ys,⟨xs.length,by simp,Nat.zero_le _,h0⟩,?_⟩
 rintro i m τ H ys ⟨rfl,hi,p⟩
 obtain ⟨q,hD,hy⟩:=hl i τ H ys hi p
 refine ⟨hD,?_⟩
 by_cases hlt:i < xs.length
 ·refine .inr ⟨IO.go i H q hlt,by omega,Pv (i+1),fun τ' H' ys' p'=>⟨xs.length - (i+1),by omega,rfl,hlt,p'⟩,fun x H' y=>?_⟩
  obtain ⟨e,hx⟩:=IO.yld i H x H' q hlt y
  subst e
  exact hs i x τ _ ys hlt hx p
 ·have e:i=xs.length:=by omega
  subst e
  exact .inl ⟨IO.stop H q,hd τ H ys p⟩
theorem for_by {J:It} {xs:List V} {ok:Hp->Prop} {g:TG} {tb:TS} {D:Ends} {σ:St} {H:Hp} (IO:ItOk J xs ok) (Pv:Nat->St->Hp->Prop) (h0:Pv 0 σ H) (hl:∀ i σ H,i<=xs.length->Pv i σ H->ok H)
  (hs:∀ i x σ H,i < xs.length->xs[i]? = some x->Pv i σ H->g x σ H fun σ2 H2=>tb { D with nx:=Pv (i+1),ct:=Pv (i+1),bk:=D.nx } σ2 H2) (hd:∀ σ H,Pv xs.length σ H->D.nx σ H) :
  ∃ W:Nat->Nat->St->Hp->Prop,(∃ m,W 0 m σ H)/\∀ i m σ H,W i m σ H →
   (J.stop i H/\D.nx σ H)\/(J.go i H/\∃ N:St->Hp->Prop,(∀ σ' H',N σ' H'->∃ m',m' < m/\W (i+1) m' σ' H')/\∀ x H',J.yld i H x H'->g x σ H' fun σ2 H2=>tb { D with nx:=N,ct:=N,bk:=D.nx } σ2 H2):=by
 refine ⟨fun i m σ H=>m=xs.length - i/\i<=xs.length/\Pv i σ H,⟨xs.length,by simp,Nat.zero_le _,h0⟩,?_⟩
 rintro i m σ H ⟨rfl,hi,p⟩
 have q:=hl i σ H hi p
 by_cases hlt:i < xs.length
 ·refine .inr ⟨IO.go i H q hlt,Pv (i+1),fun σ' H' p'=>⟨xs.length - (i+1),by omega,rfl,hlt,p'⟩,fun x H' y=>?_⟩
  obtain ⟨e,hx⟩:=IO.yld i H x H' q hlt y
  subst e
  exact hs i x σ _ hlt hx p
 ·have e:i=xs.length:=by omega
  subst e
  exact .inl ⟨IO.stop H q,hd σ H p⟩
end L2
end
section
namespace L2
open PySem PySem.Spec PyProof.Rows
section
variable {X:Cx}
def tyN (H:Hp):V->Option String
 | .non=>some "NoneType"
 | .bl _=>some "bool"
 | .int _=>some "int"
 | .str _=>some "str"
 | .ref a=>match H a with
  | some (.lst _)=>some "list"
  | some (.tup _)=>some "tuple"
  | some (.dK _)=>some "dict"
  | _=>none
 | _=>none
theorem call_isinst:CallR X (.builtin "isinstance") (fun xs H Q=>∃ x T Tx,xs=[x,.ty T]/\tyN H x=some Tx/\T∈["int","bool","list","tuple","str"]/\Q (.bl (Tx == T || (Tx == "bool" && T == "int"))) H):=by
 intro pins s σ H xs us Q I r h
 obtain ⟨x,T,Tx,rfl,hT,hm,q⟩:=h
 obtain ⟨u,w',rfl,r1,r2⟩:=vals2 r
 obtain rfl:w' = .type T:=r2
 have no:∀ {b:Bool},b=(Tx == T || (Tx == "bool" && T == "int"))->∀ tk,EP X pins σ Q (.bool b) { s with toks:=tk }:=fun {b} hb tk=>⟨.bl b,H,I.tok _,rfl,by rw [hb];exact q⟩
 have ye:∀ {b:Bool},b=(Tx == T || (Tx == "bool" && T == "int"))->EP X pins σ Q (.bool b) s:=fun {b} hb=>⟨.bl b,H,I,rfl,by rw [hb];exact q⟩
 simp only [List.mem_cons,List.not_mem_nil,or_false] at hm
 cases x with
 | int i=>
  obtain ⟨t,rfl⟩:=r1
  cases hT
  rcases hm with rfl | rfl | rfl | rfl | rfl
  ·exact IsiPair.int_int (ye (by decide))
  ·exact IsiPair.int_bool (no (by decide) _)
  ·exact IsiPair.int_list (no (by decide) _)
  ·exact IsiPair.int_tuple (no (by decide) _)
  ·exact IsiPair.int_str (no (by decide) _)
 | str i=>
  obtain ⟨t,rfl⟩:=r1
  cases hT
  rcases hm with rfl | rfl | rfl | rfl | rfl
  ·exact IsiPair.str_int (no (by decide) _)
  ·exact IsiPair.str_bool (no (by decide) _)
  ·exact IsiPair.str_list (no (by decide) _)
  ·exact IsiPair.str_tuple (no (by decide) _)
  ·exact IsiPair.str_str (ye (by decide))
 | bl i=>
  cases r1
  cases hT
  rcases hm with rfl | rfl | rfl | rfl | rfl
  ·exact IsiPair.bool_int (ye (by decide))
  ·exact IsiPair.bool_bool (ye (by decide))
  ·exact IsiPair.bool_list (no (by decide) _)
  ·exact IsiPair.bool_tuple (no (by decide) _)
  ·exact IsiPair.bool_str (no (by decide) _)
 | ref a=>
  cases r1
  cases hH:H a with
  | none=>simp [tyN,hH] at hT
  | some o=>
   cases o with
   | lst ys=>
    simp [tyN,hH] at hT
    subst hT
    obtain ⟨_,its,n,_,e⟩:=I.hok a _ hH
    have hx:∃ o,s.heap.get? a=some o/\o.cls = .type "list" := ⟨_,e,rfl⟩
    rcases hm with rfl | rfl | rfl | rfl | rfl
    ·exact call_isinstance (isinstance_false_list (by decide +kernel) F.isi_meta_int F.sub_list_int) ⟨hx,no (by decide) _⟩
    ·exact call_isinstance (isinstance_false_list (by decide +kernel) F.isi_meta_bool F.sub_list_bool) ⟨hx,no (by decide) _⟩
    ·exact call_isinstance (isinstance_true (Tx:= "list") F.isi_meta_list F.sub_list_list) ⟨⟨_,e,rfl⟩,ye (by decide)⟩
    ·exact call_isinstance (isinstance_false_list (by decide +kernel) F.isi_meta_tuple F.sub_list_tuple) ⟨hx,no (by decide) _⟩
    ·exact call_isinstance (isinstance_false_list (by decide +kernel) F.isi_meta_str F.sub_list_str) ⟨hx,no (by decide) _⟩
   | tup ys=>
    simp [tyN,hH] at hT
    subst hT
    obtain ⟨_,its,_,o,e,hc,_⟩:=I.hok a _ hH
    have hx:∃ o,s.heap.get? a=some o/\o.cls = .type "tuple" := ⟨_,e,hc⟩
    rcases hm with rfl | rfl | rfl | rfl | rfl
    ·exact call_isinstance (isinstance_false_tuple (by decide +kernel) F.isi_meta_int F.sub_tuple_int) ⟨hx,no (by decide) _⟩
    ·exact call_isinstance (isinstance_false_tuple (by decide +kernel) F.isi_meta_bool F.sub_tuple_bool) ⟨hx,no (by decide) _⟩
    ·exact call_isinstance (isinstance_false_tuple (by decide +kernel) F.isi_meta_list F.sub_tuple_list) ⟨hx,no (by decide) _⟩
    ·exact call_isinstance (isinstance_true (Tx:= "tuple") F.isi_meta_tuple F.sub_tuple_tuple) ⟨⟨_,e,hc⟩,ye (by decide)⟩
    ·exact call_isinstance (isinstance_false_tuple (by decide +kernel) F.isi_meta_str F.sub_tuple_str) ⟨hx,no (by decide) _⟩
   | dK ys=>
    simp [tyN,hH] at hT
    subst hT
    obtain ⟨_,_,vs,_,dd⟩:=I.hok a _ hH
    obtain ⟨o,es,ep,e,hc,_⟩:=dd
    have hx:∃ o,s.heap.get? a=some o/\o.cls = .type "dict" := ⟨o,e,hc.1⟩
    rcases hm with rfl | rfl | rfl | rfl | rfl
    ·exact call_isinstance (isinstance_false_dict (by decide +kernel) F.isi_meta_int F.sub_dict_int) ⟨hx,no (by decide) _⟩
    ·exact call_isinstance (isinstance_false_dict (by decide +kernel) F.isi_meta_bool F.sub_dict_bool) ⟨hx,no (by decide) _⟩
    ·exact call_isinstance (isinstance_false_dict (by decide +kernel) F.isi_meta_list F.sub_dict_list) ⟨hx,no (by decide) _⟩
    ·exact call_isinstance (isinstance_false_dict (by decide +kernel) F.isi_meta_tuple F.sub_dict_tuple) ⟨hx,no (by decide) _⟩
    ·exact call_isinstance (isinstance_false_dict (by decide +kernel) F.isi_meta_str F.sub_dict_str) ⟨hx,no (by decide) _⟩
   | _=>simp [tyN,hH] at hT
 | non=>
  cases r1
  cases hT
  rcases hm with rfl | rfl | rfl | rfl | rfl
  ·exact IsiPair.NoneType_int (no (by decide) _)
  ·exact IsiPair.NoneType_bool (no (by decide) _)
  ·exact IsiPair.NoneType_list (no (by decide) _)
  ·exact IsiPair.NoneType_tuple (no (by decide) _)
  ·exact IsiPair.NoneType_str (no (by decide) _)
 | _=>cases hT
theorem vals_bools:∀ {bs:List Bool} {us:List Value},Vals (bs.map V.bl) us->us=bs.map Value.bool
 | [],us,r=>by cases r;rfl
 | b :: bs,us,r=>by
  cases r with
  | cons r1 r2=>
   cases r1
   rw [vals_bools r2];rfl
theorem all_range (bs:List Bool):(List.range bs.length).all (fun i=>bs.getD i true)=bs.all id:=by
 rw [Bool.eq_iff_iff,List.all_eq_true,List.all_eq_true]
 constructor
 ·intro h b hb
  obtain ⟨i,hi,rfl⟩:=List.mem_iff_getElem.mp hb
  have:=h i (List.mem_range.mpr hi)
  rw [List.getD_eq_getElem?_getD,List.getElem?_eq_getElem hi] at this
  exact this
 ·intro h i hi
  have hi:=List.mem_range.mp hi
  rw [List.getD_eq_getElem?_getD,List.getElem?_eq_getElem hi]
  exact h _ (List.getElem_mem hi)
theorem call_all (hc:X.calm=true):CallR X (.builtin "all") (fun xs H Q=>∃ (p:Addr) (bs:List Bool),xs=[.ref p]/\H p=some (.lst (bs.map V.bl))/\Q (.bl (bs.all id)) H):=by
 intro pins s σ H xs us Q I r h
 obtain ⟨p,bs,rfl,hH,q⟩:=h
 obtain ⟨u,rfl,r1⟩:=vals1 r
 cases r1
 obtain ⟨z,its,n,rv,e⟩:=I.hok p _ hH
 have ei:=vals_bools rv
 subst ei
 have hl:s.heap.IsList p (bs.map Value.bool).toArray:=⟨_,e,rfl,_,rfl⟩
 have hp:p < s.heap.objs.size:=Heap.lt_size e
 refine call_all_walk (wpAny_pyIter_list hl ?_)
 refine ⟨s.heap.objs.size,_,[s.heap.objs.size],_,_,_,(fun i=>bs.getD i true),rfl,Walks.list (A:=X.A.in1) (I.ok.hd hc) s.heap.objs.size p (Nat.ne_of_lt hp) (bs.map Value.bool).toArray,⟨⟨_,Heap.get?_push_size _ rfl,rfl,rfl⟩,hl.push _⟩,?_,fun h' tk hk=>?_⟩
 ·intro i v s' Q' E' hP hQ
  have hP:(bs.map Value.bool).toArray[i]? = some v:=hP
  have hb:∃ b,bs[i]? = some b/\v = .bool b:=by
   rw [List.getElem?_toArray,List.getElem?_map] at hP
   cases e:bs[i]? with
   | none=>rw [e] at hP;cases hP
   | some b=>rw [e] at hP;exact ⟨b,rfl,(Option.some.inj hP).symm⟩
  obtain ⟨b,hb,rfl⟩:=hb
  have e:bs.getD i true=b:=by rw [List.getD_eq_getElem?_getD,hb];rfl
  dsimp only at hQ
  rw [e] at hQ
  exact wpAny_truthy_bool hQ
 ·have hn:(bs.map Value.bool).toArray.size=bs.length:=by simp
  rw [hn,all_range]
  exact ⟨.bl (bs.all id),H,I.kept fun b o e=>hk b o (fun hm=>by
   have:b=s.heap.objs.size:=by simpa using hm
   exact absurd (this ▸ Heap.lt_size e) (Nat.lt_irrefl _)) (Heap.get?_push_of_some _ e),rfl,q⟩
theorem vals_strs:∀ {ws:List Str} {us:List Value},Vals (ws.map V.str) us->StrsAre us ws
 | [],us,r=>by cases r;exact .nil
 | w :: ws,us,r=>by
  cases r with
  | cons r1 r2=>
   obtain ⟨t,rfl⟩:=r1
   exact .cons w t (vals_strs r2)
theorem mt_join:MtM X "str.join" (fun x vs H Q=>∃ (sep:Str) (p:Addr) (ws:List Str),x = .str sep/\vs=[.ref p]/\H p=some (.lst (ws.map V.str))/\(ws.map (·.length)).sum+ws.length * sep.length<=16777216/\Q (.str (Txt.join sep ws)) H):=by
 intro pins s σ H x vs v us Q I rx rv h
 obtain ⟨sep,p,ws,rfl,rfl,hH,hz,q⟩:=h
 obtain ⟨t,rfl⟩:=rx
 obtain ⟨u,rfl,ru⟩:=rv.one
 cases ru
 obtain ⟨z,its,n,r,e⟩:=I.hok p _ hH
 exact join_list (items:=its.toArray) ⟨_,e,rfl,_,rfl⟩ (vals_strs r) hz fun t' k=>⟨.str _,H,I.tok _,⟨_,rfl⟩,q⟩
theorem mt_strip:MtM X "str.strip" (fun x vs H Q=>∃ z y,x = .str z/\vs=[.str y]/\z.length<=sizeLine/\Q (.str (Txt.stripChars z y)) H):=by
 intro pins s σ H x vs v us Q I rx rv h
 obtain ⟨z,y,rfl,rfl,hz,q⟩:=h
 obtain ⟨t,rfl⟩:=rx
 obtain ⟨u,rfl,t',rfl⟩:=rv.one
 exact SC.stripChars (fun t' k=>⟨.str _,H,I.tok _,⟨_,rfl⟩,q⟩) hz
theorem mt_insert:MtM X "list.insert" (fun x vs H Q=>∃ l i y xs,x = .ref l/\vs=[.int i,y]/\H l=some (.lst xs)/\0<=i/\i < 2 ^ 62/\xs.length < sizeLine/\Q .non (upd H l (.lst (xs.take i.toNat++y :: xs.drop i.toNat)))):=by
 intro pins s σ H x vs v us Q I rx rv h
 obtain ⟨l,i,y,xs,rfl,rfl,hH,h0,h62,hz,q⟩:=h
 cases rx
 obtain ⟨u,u2,rfl,⟨t,rfl⟩,ru⟩:=rv.two
 obtain ⟨z,its,n,r,hl,e⟩:=I.lstM hH
 have hfit:¬ (!Builtin.List.listFitsIndex i)=true:=by
  unfold Builtin.List.listFitsIndex
  simp
  omega
 refine call_meets F.slot_list_insert ⟨_,e,rfl⟩ F.entry_list_insert (F.args_list_insert_3 _ _ _) (AutoSeq1.list_insert_list_int_val_1 l its.toArray n i t u2 hfit (by rw [List.size_toArray];omega)) ⟨e,?_⟩
 refine ⟨.non,_,I.lset (its':=its.take i.toNat++u2 :: its.drop i.toNat) (ys:=xs.take i.toNat++y :: xs.drop i.toNat) hH e ?_ ((r.take _).append (.cons ru (r.drop _))) ?_,rfl,q⟩
 ·have hn:¬ i < 0:=by omega
  simp only [hn,if_false,List.size_toArray]
  by_cases hi:i.toNat<=its.length
  ·rw [Nat.min_eq_left hi]
   apply Array.ext'
   simp [List.take_of_length_le]
  ·have hi':its.length<=i.toNat:=by omega
   rw [Nat.min_eq_right hi',List.take_of_length_le hi',List.drop_of_length_le hi']
   apply Array.ext'
   simp
 ·rw [List.length_append,List.length_cons,List.length_take,List.length_drop]
  omega
theorem sl_str:SlR X (fun x lo hi H Q=>∃ z,x = .str z/\z.length<=sizeLine/\Q (.str (Txt.slice z lo hi)) H):=by
 intro pins s σ H x v vl vu lo hi sl Q I rx hs pl pu h
 obtain ⟨z,rfl,hz,q⟩:=h
 obtain ⟨t,rfl⟩:=rx
 have fin:∀ t' k,EP X pins σ Q (.str (Txt.slice z lo hi) t') { s with toks:=k }:=fun t' k=>⟨.str _,H,I.tok _,⟨_,rfl⟩,q⟩
 refine ⟨"str",_,F.slot_str_getitem.lookup,typeIs_str _ _ _,?_⟩
 cases pl with
 | none=>
  cases pu with
  | none=>exact wpAny_getItem_str_slice (l:=none) (u:=none) (st:=none) hs rfl (post_val_or_str ⟨Nat.le_trans (Txt.slice_le z _ _) hz,fin⟩)
  | int j uj=>exact wpAny_getItem_str_slice (l:=none) (u:=some (j,uj)) (st:=none) hs rfl (post_val_or_str ⟨Nat.le_trans (Txt.slice_le z _ _) hz,fin⟩)
 | int i ui=>
  cases pu with
  | none=>exact wpAny_getItem_str_slice (l:=some (i,ui)) (u:=none) (st:=none) hs rfl (post_val_or_str ⟨Nat.le_trans (Txt.slice_le z _ _) hz,fin⟩)
  | int j uj=>exact wpAny_getItem_str_slice (l:=some (i,ui)) (u:=some (j,uj)) (st:=none) hs rfl (post_val_or_str ⟨Nat.le_trans (Txt.slice_le z _ _) hz,fin⟩)
theorem call_int_bit:CallR X (.type "int") (fun xs H Q=>∃ b:Bool,xs=[.str (if b then ("1" : Str) else "0")]/\Q (.int (if b then 1 else 0)) H):=by
 intro pins s σ H xs us Q I r h
 obtain ⟨b,rfl,q⟩:=h
 obtain ⟨u,rfl,t,rfl⟩:=vals1 r
 cases b with
 | true=>exact PySem.W.KIN.call_text (x:=("1" : Str)) (n:=1) (by decide +kernel) (by decide +kernel) ⟨.int 1,H,I.tok _,⟨_,rfl⟩,q⟩
 | false=>exact PySem.W.KIN.call_text (x:=("0" : Str)) (n:=0) (by decide +kernel) (by decide +kernel) ⟨.int 0,H,I.tok _,⟨_,rfl⟩,q⟩
end
end L2
end
section
namespace L2
open PySem PySem.Spec PyProof.Rows
mutual
inductive DV (H:Hp):V->PyData->Prop
 | non:DV H .non .none
 | bl (b:Bool):DV H (.bl b) (.bool b)
 | int (i:Int):DV H (.int i) (.int i)
 | str (x:Str):DV H (.str x) (.str x)
 | lst {a:Addr} {xs:List V} {ds:List PyData}:H a=some (.lst xs)->DVs H xs ds->DV H (.ref a) (.list ds)
 | tup {a:Addr} {xs:List V} {ds:List PyData}:H a=some (.tup xs)->DVs H xs ds->DV H (.ref a) (.tuple ds)
 | dic {a:Addr}:H a=some (.dK [])->DV H (.ref a) (.dict [])
inductive DVs (H:Hp):List V->List PyData->Prop
 | nil:DVs H [] []
 | cons {x:V} {d:PyData} {xs:List V} {ds:List PyData}:DV H x d->DVs H xs ds->DVs H (x :: xs) (d :: ds)
end
mutual
theorem DV.mono {H H':Hp} (k:Same H H'):∀ {v:V} {d:PyData},DV H v d->DV H' v d
 | _,_,.non=>.non
 | _,_,.bl b=>.bl b
 | _,_,.int i=>.int i
 | _,_,.str x=>.str x
 | _,_,.lst h r=>.lst (k _ _ h) (DVs.mono k r)
 | _,_,.tup h r=>.tup (k _ _ h) (DVs.mono k r)
 | _,_,.dic h=>.dic (k _ _ h)
theorem DVs.mono {H H':Hp} (k:Same H H'):∀ {vs:List V} {ds:List PyData},DVs H vs ds->DVs H' vs ds
 | _,_,.nil=>.nil
 | _,_,.cons h r=>.cons (DV.mono k h) (DVs.mono k r)
end
section
variable {X:Cx} {pins:List (Addr×Obj)} {σ:St} {H:Hp} {s:Shared}
mutual
theorem DV.reads (I:Inv X pins σ H s):∀ {v:V} {d:PyData} {u:Value},DV H v d->d.canLay0=true->RelV v u->∃ as,Reads s.heap u d as
 | _,_,_,.non,_,r=>by cases r;exact ⟨_,.none⟩
 | _,_,_,.bl b,_,r=>by cases r;exact ⟨_,.bool b⟩
 | _,_,_,.int i,_,r=>by obtain ⟨t,rfl⟩:=r;exact ⟨_,.int i t⟩
 | _,_,_,.str x,_,r=>by obtain ⟨t,rfl⟩:=r;exact ⟨_,.str x t⟩
 | _,_,_,.lst h rr,c,r=>by
  cases r
  obtain ⟨_,its,n,rv,e⟩:=I.hok _ _ h
  obtain ⟨as,q⟩:=DVs.reads I rr (by simpa [PyData.canLay0] using c) rv
  exact ⟨_,.list e rfl rfl (by simpa using q)⟩
 | _,_,_,.tup h rr,c,r=>by
  cases r
  obtain ⟨_,its,rv,o,e,hc,n,hd⟩:=I.hok _ _ h
  obtain ⟨as,q⟩:=DVs.reads I rr (by simpa [PyData.canLay0] using c) rv
  exact ⟨_,.tuple e hc hd (by simpa using q)⟩
 | _,_,_,.dic h,c,r=>by simp [PyData.canLay0] at c
theorem DVs.reads (I:Inv X pins σ H s):∀ {vs:List V} {ds:List PyData} {us:List Value},DVs H vs ds->PyData.canLayAll0 ds=true->Vals vs us->∃ as,ReadsAll s.heap us ds as
 | _,_,_,.nil,_,r=>by cases r;exact ⟨_,.nil⟩
 | _,_,_,.cons h rr,c,r=>by
  have c':=by simpa [PyData.canLayAll0] using c
  cases r with
  | cons r1 r2=>
   obtain ⟨as,q⟩:=DV.reads I h c'.1 r1
   obtain ⟨bs,p⟩:=DVs.reads I rr c'.2 r2
   exact ⟨_,.cons q p⟩
end
end
section
variable {X:Cx}
theorem op_eqD (hu:X.A.units+64 < cLine):OpR X (compareOp .Eq) (fun x y H Q=>∃ d e,DV H x d/\DV H y e/\SeqAt.shaped d=true/\SeqAt.shaped e=true/\Q (.bl (PyData.eqv d e)) H):=by
 intro pins s σ H x y v u Q I rx ry h
 obtain ⟨d,e,hd,he,sd,se,q⟩:=h
 obtain ⟨as,ra⟩:=hd.reads I (SeqAt.canLay_of_shaped sd) rx
 obtain ⟨bs,rb⟩:=he.reads I (SeqAt.canLay_of_shaped se) ry
 exact eq_dataH ra rb sd se hu ⟨.bl _,H,I,rfl,q⟩
theorem op_neD (hu:X.A.units+64 < cLine):OpR X (compareOp .NotEq) (fun x y H Q=>∃ d e,DV H x d/\DV H y e/\SeqAt.shaped d=true/\SeqAt.shaped e=true/\Q (.bl (!PyData.eqv d e)) H):=by
 intro pins s σ H x y v u Q I rx ry h
 obtain ⟨d,e,hd,he,sd,se,q⟩:=h
 obtain ⟨as,ra⟩:=hd.reads I (SeqAt.canLay_of_shaped sd) rx
 obtain ⟨bs,rb⟩:=he.reads I (SeqAt.canLay_of_shaped se) ry
 exact ne_dataH ra rb sd se hu ⟨.bl _,H,I,rfl,q⟩
end
mutual
theorem eqv_refl:∀ d:PyData,d.canLay0=true->PyData.eqv d d=true
 | .none,_=>by simp [PyData.eqv]
 | .bool b,_=>by simp [PyData.eqv]
 | .int i,_=>by simp [PyData.eqv]
 | .str x,_=>by simp [PyData.eqv]
 | .list xs,h=>by rw [PyData.eqv];exact eqvAll_refl xs (by simpa [PyData.canLay0] using h)
 | .tuple xs,h=>by rw [PyData.eqv];exact eqvAll_refl xs (by simpa [PyData.canLay0] using h)
 | .dict xs,h=>by simp [PyData.canLay0] at h
theorem eqvAll_refl:∀ ds:List PyData,PyData.canLayAll0 ds=true->PyData.eqvAll ds ds=true
 | [],_=>by simp [PyData.eqvAll]
 | d :: ds,h=>by
  have h':d.canLay0=true/\PyData.canLayAll0 ds=true:=by simpa [PyData.canLayAll0] using h
  rw [PyData.eqvAll,eqv_refl d h'.1,eqvAll_refl ds h'.2];rfl
end
def sg (b:Bool):Nat:=if b then 49 else 48
def bs (w:List Bool):Str:=⟨(w.map sg).toArray⟩
theorem bs_len (w:List Bool):(bs w).length=w.length:=by show ((w.map sg).toArray).size=_;simp
theorem bs_app (v w:List Bool):bs v++bs w=bs (v++w):=by
 show (⟨(v.map sg).toArray++(w.map sg).toArray⟩ : Str)=⟨((v++w).map sg).toArray⟩
 simp
theorem bs_nil:("" : Str)=bs []:=by decide +kernel
theorem bs_if (b:Bool):bs [b]=(if b then ("1" : Str) else "0"):=by cases b<;>decide +kernel
end L2
end
section
namespace L2
open PySem PySem.Spec PyProof.Rows
section
variable {X:Cx} {a b c e o:Expr} {es:List Expr} {pos:Pos}
theorem PE.of {t t':TE} (h:PE X e t) (k:∀ σ H Q,t' σ H Q->t σ H Q):PE X e t':=fun pins s σ H Q I q=>h pins s σ H Q I (k _ _ _ q)
theorem OpR.of {f:Value->Value->Sem Value} {r r':R2} (h:OpR X f r) (k:∀ x y H Q,r' x y H Q->r x y H Q):OpR X f r':=fun pins s σ H x y v u Q I rx ry q=>h pins s σ H x y v u Q I rx ry (k _ _ _ _ q)
def tV (i:Nat):TE:=fun σ H Q=>match σ[i]? with
 | some (some v)=>Q v H
 | _=>False
theorem vr (i:Nat) {x:Str} (hN:X.N[i]? = some x:=by rfl) (hv:Vis X.env.scope x:=by first | exact Or.inl rfl | exact Or.inr (Or.inl rfl) | exact Or.inr (Or.inr rfl)) (hd:(x == ("__debug__" : Str))=false:=by decide)
  (hcd:(x == ("__classdict__" : Str))=false:=by decide):PE X (.Name x pos) (tV i):=(pe_var hN hv hd hcd).of fun σ H Q q=>by
 unfold tV at q
 split at q
 ·exact ⟨_,by assumption,q⟩
 ·exact q.elim
def rN (C:Int->Int->Prop) (g:Int->Int->V):R2:=fun x y H Q=>match x,y with
 | .int i,.int j=>C i j/\Q (g i j) H
 | _,_=>False
def rN0 (g:Int->Int->V):R2:=fun x y H Q=>match x,y with
 | .int i,.int j=>Q (g i j) H
 | _,_=>False
theorem OpR.n {f:Value->Value->Sem Value} {C:Int->Int->Prop} {g:Int->Int->V} (h:OpR X f (rI C g)):OpR X f (rN C g):=h.of fun x y H Q q=>by
 unfold rN at q
 split at q
 ·exact ⟨_,_,rfl,rfl,q⟩
 ·exact q.elim
theorem OpR.n0 {f:Value->Value->Sem Value} {g:Int->Int->V} (h:OpR X f (rI0 g)):OpR X f (rN0 g):=h.of fun x y H Q q=>by
 unfold rN0 at q
 split at q
 ·exact ⟨_,_,rfl,rfl,q⟩
 ·exact q.elim
def rAddU:R2:=fun x y H Q=>match x,y with
 | .int i,.int j=>Q (.int (i+j)) H
 | .str i,.str j=>i.length+j.length<=sizeLine/\Q (.str (i++j)) H
 | .ref p,.ref q=>∃ xs zs,H p=some (.lst xs)/\H q=some (.lst zs)/\xs.length+zs.length<=sizeLine/\∀ n,H n=none->Q (.ref n) (upd H n (.lst (xs++zs)))
 | _,_=>False
theorem op_addU:OpR X (binaryOp .Add) rAddU:=(op_add.or (op_add_str.or op_cat)).of fun x y H Q q=>by
 unfold rAddU at q
 split at q
 ·exact .inl ⟨_,_,rfl,rfl,q⟩
 ·exact .inr (.inl ⟨_,_,rfl,rfl,q⟩)
 ·obtain ⟨xs,zs,h1,h2,h3,h4⟩:=q
  exact .inr (.inr ⟨_,_,xs,zs,rfl,rfl,h1,h2,h3,h4⟩)
 ·exact q.elim
def rMulU:R2:=fun x y H Q=>match x,y with
 | .int i,.int j=>CMul i j/\Q (.int (i * j)) H
 | .ref p,.int k=>∃ xs,H p=some (.lst xs)/\-(2 ^ 63)<=k/\k < 2 ^ 63/\xs.length * k.toNat<=sizeLine/\∀ n,H n=none->Q (.ref n) (upd H n (.lst (List.replicate k.toNat xs).flatten))
 | _,_=>False
theorem op_mulU:OpR X (binaryOp .Mult) rMulU:=(op_mul.or op_rep).of fun x y H Q q=>by
 unfold rMulU at q
 split at q
 ·exact .inl ⟨_,_,rfl,rfl,q⟩
 ·obtain ⟨xs,h1,h2,h3,h4,h5⟩:=q
  exact .inr ⟨_,_,xs,rfl,rfl,h1,h2,h3,h4,h5⟩
 ·exact q.elim
def rEqU:R2:=fun x y H Q=>match x,y with
 | .int i,.int j=>Q (.bl (decide (i=j))) H
 | .str i,.str j=>Q (.bl (decide (i=j))) H
 | .bl i,.bl j=>Q (.bl (decide (i=j))) H
 | .ref p,.ref q=>∃ d e,DV H (.ref p) d/\DV H (.ref q) e/\SeqAt.shaped d=true/\SeqAt.shaped e=true/\Q (.bl (PyData.eqv d e)) H
 | _,_=>False
theorem vint_dec (i j:Int):decide (V.int i=V.int j)=decide (i=j):=by simp
theorem vstr_dec (i j:Str):decide (V.str i=V.str j)=decide (i=j):=by simp
theorem vbl_dec (i j:Bool):decide (V.bl i=V.bl j)=decide (i=j):=by simp
theorem op_eqU (hu:X.A.units+64 < cLine):OpR X (compareOp .Eq) rEqU:=(op_eq.or (op_eqD hu)).of fun x y H Q q=>by
 unfold rEqU at q
 split at q
 ·exact .inl ⟨rfl,by rw [vint_dec];exact q⟩
 ·exact .inl ⟨rfl,by rw [vstr_dec];exact q⟩
 ·exact .inl ⟨rfl,by rw [vbl_dec];exact q⟩
 ·exact .inr q
 ·exact q.elim
def rNeU:R2:=fun x y H Q=>rEqU x y H fun v H'=>match v with
 | .bl k=>Q (.bl (!k)) H'
 | _=>False
theorem op_neU (hu:X.A.units+64 < cLine):OpR X (compareOp .NotEq) rNeU:=(op_ne.or (op_neD hu)).of fun x y H Q q=>by
 unfold rNeU rEqU at q
 split at q
 ·exact .inl ⟨rfl,by rw [vint_dec];exact q⟩
 ·exact .inl ⟨rfl,by rw [vstr_dec];exact q⟩
 ·exact .inl ⟨rfl,by rw [vbl_dec];exact q⟩
 ·exact .inr q
 ·exact q.elim
def getV (H:Hp) (x:V) (i:Int):Option V:=match x with
 | .ref p=>match H p with
  | some (.lst xs)=>atI xs i
  | some (.tup xs)=>atI xs i
  | some (.frz _ (.lst xs))=>atI xs i
  | _=>none
 | .str z=>if z.length<=sizeLine then (atI z.cps.toList i).map fun c=>V.str ⟨#[c]⟩ else none
 | _=>none
theorem getV_lst {H:Hp} {p:Addr} {xs:List V} {i:Int} (h:H p=some (.lst xs)):getV H (.ref p) i=atI xs i:=by simp [getV,h]
theorem getV_tup {H:Hp} {p:Addr} {xs:List V} {i:Int} (h:H p=some (.tup xs)):getV H (.ref p) i=atI xs i:=by simp [getV,h]
def rIxU:R2:=fun x y H Q=>match y with
 | .int i=>∃ v,getV H x i=some v/\Q v H
 | _=>False
theorem ixU:IxR X rIxU:=by
 intro value slice pins s σ H x y v u Q I rx ry q hs
 refine ix_seq value slice pins s σ H x y v u Q I rx ry ?_ hs
 unfold rIxU at q
 split at q
 ·obtain ⟨z,hz,q⟩:=q
  unfold getV at hz
  split at hz
  ·split at hz
   ·rename_i xs hx
    exact .inl ⟨_,xs,_,z,rfl,rfl,SqL.of hx,hz,q⟩
   ·rename_i xs hx
    exact .inr (.inl ⟨_,xs,_,z,rfl,rfl,SqT.of hx,hz,q⟩)
   ·rename_i oo xs hx
    exact .inl ⟨_,xs,_,z,rfl,rfl,.inl (.inr ⟨_,hx⟩),hz,q⟩
   ·cases hz
  ·split at hz
   ·rename_i hl
    obtain ⟨c,hc,rfl⟩:=Option.map_eq_some_iff.mp hz
    exact .inr (.inr ⟨_,_,c,rfl,rfl,hl,hc,q⟩)
   ·cases hz
  ·cases hz
 ·exact q.elim
def rSlU:V->Option Int->Option Int->Hp->VK->Prop:=fun x lo hi H Q=>match x with
 | .ref p=>∃ xs,H p=some (.lst xs)/\∀ n,H n=none->Q (.ref n) (upd H n (.lst (cutV xs lo hi)))
 | .str z=>z.length<=sizeLine/\Q (.str (Txt.slice z lo hi)) H
 | _=>False
theorem slU:SlR X rSlU:=by
 intro pins s σ H x v vl vu lo hi sl Q I rx hs pl pu q
 refine (sl_list.or sl_str) pins s σ H x v vl vu lo hi sl Q I rx hs pl pu ?_
 unfold rSlU at q
 split at q
 ·obtain ⟨xs,h,q⟩:=q
  exact .inl ⟨_,xs,rfl,SqL.of h,q⟩
 ·exact .inr ⟨_,rfl,q⟩
 ·exact q.elim
def tPartU (t:TE):TO:=fun σ H Q=>t σ H fun x H1=>match x with
 | .int i=>Q (some i) H1
 | _=>False
theorem po_someU {te:TE} (h:PE X e te):PO X (some e) (tPartU te):=by
 intro pins s σ H Q I hw
 rw [evalPart_some]
 refine thn (h pins s σ H _ I hw) fun u s1 ⟨x,H1,I1,r1,q1⟩=>?_
 dsimp only at q1
 split at q1
 ·obtain ⟨t,rfl⟩:=r1
  exact ⟨some _,H1,I1,.int _ t,q1⟩
 ·exact q1.elim
def tBU (t:TE):TT:=fun σ H Q=>t σ H fun x H1=>match x with
 | .bl c=>Q c H1
 | _=>False
theorem bu_of {Q:Bool->Hp->Prop} {x:V} {H1:Hp} (q:match x with | .bl c=>Q c H1 | _=>False):∃ c,x = .bl c/\Q c H1:=by
 split at q
 ·exact ⟨_,rfl,q⟩
 ·exact q.elim
theorem pt_cmpU {op:CmpOp} {r:R2} {ta tb:TE} (ho:OpR X (compareOp op) r) (ha:PE X a ta) (hb:PE X b tb) (hm:behindInMarks op b=false:=by first | exact nomark _ | rfl | (with_unfolding_all rfl)):PT X (.Compare a [op] [b] pos) (tBU (tOp r ta tb)):=by
 intro pins s σ H Q I h
 refine wpAny_isTrue_Compare1 (thn (ha pins s σ H _ I h) fun v s1 ⟨x,H1,I1,r1,q1⟩=>thn (hb pins s1 σ H1 _ I1 q1) fun u s2 ⟨y,H2,I2,r2,q2⟩=>
  thn (ho pins s2 σ H2 x y v u _ I2 r1 r2 q2) fun c s3 ⟨z,H3,I3,r3,q3⟩=>?_) hm
 obtain ⟨k,e,q3⟩:=bu_of q3
 subst e
 cases r3
 exact wpAny_truthy_bool ⟨H3,I3,q3⟩
theorem pe_cmpU {op:CmpOp} {r:R2} {ta tb:TE} (ho:OpR X (compareOp op) r) (ha:PE X a ta) (hb:PE X b tb) (hm:behindInMarks op b=false:=by first | exact nomark _ | rfl | (with_unfolding_all rfl)):PE X (.Compare a [op] [b] pos) (tOp r ta tb):=pe_cmpR ho ha hb hm
def tAndU (ta tb:TE):TE:=fun σ H Q=>ta σ H fun x H1=>match x with
 | .bl c=>if c=true then tb σ H1 Q else Q (.bl false) H1
 | _=>False
def tNotU (ta:TE):TE:=fun σ H Q=>ta σ H fun x H1=>match x with
 | .bl c=>Q (.bl (!c)) H1
 | _=>False
def tChainU (r r':R2) (ta tb tc:TE):TE:=fun σ H Q=>ta σ H fun x H1=>tb σ H1 fun y H2=>r x y H2 fun z H3=>match z with
 | .bl k=>if k=true then tc σ H3 fun w' H4=>r' y w' H4 Q else Q (.bl false) H3
 | _=>False
variable {ta tb tc:TE} {rest:List Expr}
theorem pe_andU (ha:PE X a ta) (hb:PE X (.BoolOp .And (b :: rest) pos) tb):PE X (.BoolOp .And (a :: b :: rest) pos) (tAndU ta tb):=by
 intro pins s σ H Q I h
 refine BoolOp_and (thn (ha pins s σ H _ I h) fun v s1 ⟨x,H1,I1,r1,q1⟩=>?_)
 dsimp only at q1
 split at q1
 ·rename_i c
  cases r1
  refine wpAny_truthy_bool ?_
  cases c with
  | true=>exact hb pins s1 σ H1 Q I1 q1
  | false=>exact ⟨.bl false,H1,I1,rfl,q1⟩
 ·exact q1.elim
theorem pe_notU (ha:PE X a ta):PE X (.UnaryOp .Not a pos) (tNotU ta):=by
 intro pins s σ H Q I h
 refine UnaryOp_ (thn (ha pins s σ H _ I h) fun v s1 ⟨x,H1,I1,r1,q1⟩=>?_)
 dsimp only at q1
 split at q1
 ·cases r1
  exact not_of (wpAny_truthy_bool ⟨.bl _,H1,I1,rfl,q1⟩)
 ·exact q1.elim
theorem pe_chainU {op op':CmpOp} {r r':R2} (ho:OpR X (compareOp op) r) (ho':OpR X (compareOp op') r') (ha:PE X a ta) (hb:PE X b tb) (hc:PE X c tc)
  (hm:lastMarks [op,op'] [b,c]=false:=by with_unfolding_all rfl):PE X (.Compare a [op,op'] [b,c] pos) (tChainU r r' ta tb tc):=by
 intro pins s σ H Q I h
 refine Compare_chain (thn (ha pins s σ H _ I h) fun v s1 ⟨x,H1,I1,r1,q1⟩=>chain_link (thn (hb pins s1 σ H1 _ I1 q1) fun u s2 ⟨y,H2,I2,r2,q2⟩=>
  thn (ho pins s2 σ H2 x y v u _ I2 r1 r2 q2) fun d s3 ⟨z,H3,I3,r3,q3⟩=>?_)) hm
 dsimp only at q3
 split at q3
 ·rename_i k
  cases r3
  refine wpAny_truthy_bool ?_
  cases k with
  | false=>exact ite_ff ⟨.bl false,H3,I3,rfl,q3⟩
  | true=>exact ite_tt (chain_last (thn (hc pins s3 σ H3 _ I3 q3) fun w' s4 ⟨z',H4,I4,r4,q4⟩=>ho' pins s4 σ H4 y z' u w' Q I4 r2 r4 q4))
 ·exact q3.elim
theorem CallR.of {f:Value} {r r':List V->Hp->VK->Prop} (h:CallR X f r) (k:∀ xs H Q,r' xs H Q->r xs H Q):CallR X f r':=fun pins s σ H xs us Q I rx q=>h pins s σ H xs us Q I rx (k _ _ _ q)
theorem MtM.of {id:String} {r r':V->List V->Hp->VK->Prop} (h:MtM X id r) (k:∀ x xs H Q,r' x xs H Q->r x xs H Q):MtM X id r':=fun pins s σ H x xs v us Q I rx rs q=>h pins s σ H x xs v us Q I rx rs (k _ _ _ _ q)
def lenV (H:Hp) (x:V):Option Nat:=match x with
 | .str z=>if z.length<=sizeLine then some z.length else none
 | .ref p=>match H p with
  | some (.lst xs)=>some xs.length
  | some (.tup xs)=>some xs.length
  | some (.frz _ (.lst xs))=>some xs.length
  | _=>none
 | _=>none
def rLen:List V->Hp->VK->Prop:=fun vs H Q=>match vs with
 | [x]=>∃ k:Nat,lenV H x=some k/\Q (.int k) H
 | _=>False
theorem call_lenU:CallR X (.builtin "len") rLen:=(call_len_seq.or call_len_str).of fun xs H Q q=>by
 unfold rLen at q
 split at q
 ·obtain ⟨k,hk,q⟩:=q
  unfold lenV at hk
  split at hk
  ·split at hk
   ·rename_i hl
    cases hk
    exact .inr ⟨_,rfl,hl,q⟩
   ·cases hk
  ·split at hk
   ·cases hk;exact .inl ⟨_,_,rfl,.inl (SqL.of (by assumption)),q⟩
   ·cases hk;exact .inl ⟨_,_,rfl,.inr (SqT.of (by assumption)),q⟩
   ·cases hk;exact .inl ⟨_,_,rfl,.inl (.inl (.inr ⟨_,by assumption⟩)),q⟩
   ·cases hk
  ·cases hk
 ·exact q.elim
def rListOf:List V->Hp->VK->Prop:=fun vs H Q=>match vs with
 | [.ref p]=>∃ xs,(H p=some (.lst xs)\/H p=some (.tup xs))/\∀ l,H l=none->Q (.ref l) (upd H l (.lst xs))
 | _=>False
def rMax:List V->Hp->VK->Prop:=fun vs H Q=>match vs with
 | [.int i,.int j]=>Q (.int (if j > i then j else i)) H
 | _=>False
theorem call_maxU (hc:X.calm=true):CallR X (.builtin "max") rMax:=(call_max2 hc).of fun xs H Q q=>by
 unfold rMax at q
 split at q
 ·exact ⟨_,_,rfl,q⟩
 ·exact q.elim
def rMin:List V->Hp->VK->Prop:=fun vs H Q=>match vs with
 | [.int i,.int j]=>Q (.int (if j < i then j else i)) H
 | _=>False
theorem call_minU (hc:X.calm=true):CallR X (.builtin "min") rMin:=(call_min2 hc).of fun xs H Q q=>by
 unfold rMin at q
 split at q
 ·exact ⟨_,_,rfl,q⟩
 ·exact q.elim
def rIntOf:List V->Hp->VK->Prop:=fun vs H Q=>match vs with
 | [.int i]=>Q (.int i) H
 | [.bl k]=>Q (.int (if k then 1 else 0)) H
 | [.str z]=>∃ k:Bool,z=bs [k]/\Q (.int (if k then 1 else 0)) H
 | _=>False
theorem call_intU:CallR X (.type "int") rIntOf:=(call_int1.or call_int_bit).of fun xs H Q q=>by
 unfold rIntOf at q
 split at q
 ·exact .inl (.inl ⟨_,rfl,q⟩)
 ·exact .inl (.inr ⟨_,rfl,q⟩)
 ·obtain ⟨k,h,q⟩:=q
  exact .inr ⟨k,by rw [h,bs_if],q⟩
 ·exact q.elim
def rIsI:List V->Hp->VK->Prop:=fun vs H Q=>match vs with
 | [x,.ty T]=>∃ Tx,tyN H x=some Tx/\T∈["int","bool","list","tuple","str"]/\Q (.bl (Tx == T || (Tx == "bool" && T == "int"))) H
 | _=>False
theorem call_isU:CallR X (.builtin "isinstance") rIsI:=call_isinst.of fun xs H Q q=>by
 unfold rIsI at q
 split at q
 ·obtain ⟨Tx,h1,h2,q⟩:=q
  exact ⟨_,_,Tx,rfl,h1,h2,q⟩
 ·exact q.elim
def rAll:List V->Hp->VK->Prop:=fun vs H Q=>match vs with
 | [.ref p]=>∃ bl:List Bool,H p=some (.lst (bl.map V.bl))/\Q (.bl (bl.all id)) H
 | _=>False
theorem call_allU (hc:X.calm=true):CallR X (.builtin "all") rAll:=(call_all hc).of fun xs H Q q=>by
 unfold rAll at q
 split at q
 ·obtain ⟨bl,h,q⟩:=q
  exact ⟨_,bl,rfl,h,q⟩
 ·exact q.elim
def rApp:V->List V->Hp->VK->Prop:=fun x vs H Q=>match x,vs with
 | .ref l,[y]=>∃ xs,H l=some (.lst xs)/\xs.length < sizeLine/\Q .non (upd H l (.lst (xs++[y])))
 | _,_=>False
theorem mt_appU:MtM X "list.append" rApp:=mt_append.of fun x xs H Q q=>by
 unfold rApp at q
 split at q
 ·obtain ⟨ys,h1,h2,q⟩:=q
  exact ⟨_,ys,_,rfl,rfl,h1,h2,q⟩
 ·exact q.elim
def rIns:V->List V->Hp->VK->Prop:=fun x vs H Q=>match x,vs with
 | .ref l,[.int i,y]=>∃ xs,H l=some (.lst xs)/\0<=i/\i < 2 ^ 62/\xs.length < sizeLine/\Q .non (upd H l (.lst (xs.take i.toNat++y :: xs.drop i.toNat)))
 | _,_=>False
theorem mt_insU:MtM X "list.insert" rIns:=mt_insert.of fun x xs H Q q=>by
 unfold rIns at q
 split at q
 ·obtain ⟨ys,h1,h2,h3,h4,q⟩:=q
  exact ⟨_,_,_,ys,rfl,rfl,h1,h2,h3,h4,q⟩
 ·exact q.elim
def rPopI:V->List V->Hp->VK->Prop:=fun x vs H Q=>match x,vs with
 | .ref l,[.int i]=>∃ xs y,H l=some (.lst xs)/\0<=i/\i < 2 ^ 62/\xs[i.toNat]? = some y/\Q y (upd H l (.lst (xs.eraseIdx i.toNat)))
 | _,_=>False
theorem mt_popU:MtM X "list.pop" rPopI:=mt_popAt.of fun x xs H Q q=>by
 unfold rPopI at q
 split at q
 ·rename_i l i
  obtain ⟨ys,y,h1,h2,h3,h4,q⟩:=q
  have hlt:i.toNat < ys.length:=(List.getElem?_eq_some_iff.mp h4).1
  have hi:seqIndex? i ys.length=some i.toNat:=seqIndex_of h2 (by omega)
  exact ⟨l,ys,i,i.toNat,y,rfl,rfl,h1,by omega,by omega,hi,h4,q⟩
 ·exact q.elim
def rJoin:V->List V->Hp->VK->Prop:=fun x vs H Q=>match x,vs with
 | .str sep,[.ref p]=>∃ ws:List Str,H p=some (.lst (ws.map V.str))/\(ws.map (·.length)).sum+ws.length * sep.length<=16777216/\Q (.str (Txt.join sep ws)) H
 | _,_=>False
theorem mt_joinU:MtM X "str.join" rJoin:=mt_join.of fun x xs H Q q=>by
 unfold rJoin at q
 split at q
 ·obtain ⟨ws,h1,h2,q⟩:=q
  exact ⟨_,_,ws,rfl,rfl,h1,h2,q⟩
 ·exact q.elim
def rStrip:V->List V->Hp->VK->Prop:=fun x vs H Q=>match x,vs with
 | .str z,[.str y]=>z.length<=sizeLine/\Q (.str (Txt.stripChars z y)) H
 | _,_=>False
theorem mt_stripU:MtM X "str.strip" rStrip:=mt_strip.of fun x xs H Q q=>by
 unfold rStrip at q
 split at q
 ·exact ⟨_,_,rfl,rfl,q⟩
 ·exact q.elim
def tyU (H:Hp) (T:String):V->Prop
 | .str _=>T = "str"
 | .int _=>T = "int"
 | .ref p=>∃ xs,T = "list"/\H p=some (.lst xs)
 | _=>False
theorem tyU_of {K:PySem.W.Frag} {H:Hp} {T:String} {x:V} (h:tyU H T x):tyV K T x H:=by
 cases x with
 | str z=>exact h
 | int z=>exact h
 | ref p=>obtain ⟨xs,h1,h2⟩:=h;exact .inl ⟨h1,xs,SqL.of h2⟩
 | _=>exact h.elim
end
theorem le_line {n:Nat} (h:n<=1000):n<=sizeLine:=Nat.le_trans h (by decide)
theorem lt_line {n:Nat} (h:n<=1000):n < sizeLine:=Nat.lt_of_le_of_lt h (by decide)
theorem Same.upd {H:Hp} {p:Addr} {o:HO} (h:H p=none):Same H (upd H p o):=fun b u e=>by rw [upd_ne (ne_of_none e h)];exact e
theorem atI_int {α:Type} {xs:List α} {i:Int} {v:α} (h0:0<=i) (h:xs[i.toNat]? = some v):atI xs i=some v:=by
 have e:i=(i.toNat:Int):=by omega
 rw [e]
 exact atI_nat h
theorem gl {H:Hp} {p:Addr} {xs:List V} {i:Int} {v:V} (h:H p=some (.lst xs)) (h0:0<=i) (hv:xs[i.toNat]? = some v):getV H (.ref p) i=some v:=by rw [getV_lst h];exact atI_int h0 hv
theorem gt {H:Hp} {p:Addr} {xs:List V} {i:Int} {v:V} (h:H p=some (.tup xs)) (h0:0<=i) (hv:xs[i.toNat]? = some v):getV H (.ref p) i=some v:=by rw [getV_tup h];exact atI_int h0 hv
theorem lenL {H:Hp} {p:Addr} {xs:List V} (h:H p=some (.lst xs)):lenV H (.ref p)=some xs.length:=by simp [lenV,h]
theorem lenT {H:Hp} {p:Addr} {xs:List V} (h:H p=some (.tup xs)):lenV H (.ref p)=some xs.length:=by simp [lenV,h]
theorem gs {H:Hp} {w:List Bool} {i:Int} {b:Bool} (hz:w.length<=sizeLine) (h0:0<=i) (hv:w[i.toNat]? = some b):getV H (.str (bs w)) i=some (.str (bs [b])):=by
 show (if (bs w).length<=sizeLine then (atI (bs w).cps.toList i).map fun c=>V.str ⟨#[c]⟩ else none)=_
 rw [if_pos (by rw [bs_len];exact hz)]
 have:atI (bs w).cps.toList i=some (sg b):=atI_int h0 (by show ((w.map sg).toArray.toList)[i.toNat]? = _;simp [hv])
 rw [this]
 rfl
end L2
end
section
namespace L2
open PySem
end L2
end
section
namespace L2
open PySem PySem.Spec PyProof.Rows
def FnX (K:PySem.W.Frag) (mg:Str->Option Value) (x:Str) (st:Stmt) (ps:List Str):Prop:=∃ f fd,Fun K x x st f fd/\mg x=some (.ref f)/\Binds K fd ps []
def Can (P:Program) (w:World) (K:PySem.W.Frag) (mg:Str->Option Value) (base:Heap) (x:Str) (k:Nat) (ps:List Str) (sp:Sp):Prop:=
 ∃ f fd,FnOk P w K mg base CX0 k f fd ps sp/\mg x=some (.ref f)/\PySem.W.keepIn K (.ref f)=true/\Binds K fd ps []
section
variable {P:Program} {w:World} {K:PySem.W.Frag} {mg:Str->Option Value} {base:Heap}
theorem can_fn {x:Str} {st:Stmt} {N ps:List Str} {k:Nat} {sp:Sp} (D:FnX K mg x st ps) (S:FnScope N ps (defScope st)) (len:∀ vs H Q E,sp vs H Q E->vs.length=ps.length)
  (hbody:∀ (f:Addr) (cdv:Value) (A:Around) (outer:List Env) (s:Shared) (H:Hp) (vs:List V) (Q:VK) (E:XK),Room k (A.deeper (envOfC x (defScope st) s.heap.objs.size f cdv))->sp vs H Q E →
   ∃ t,PSs (cxOf CX0 P w K mg base N x (defScope st) f cdv A outer s H E).nox (defBody st) t/\t { nx:=fun _ H'=>Q .non H',rt:=Q } (start N vs) H):Can P w K mg base x (k+1) ps sp:=by
 obtain ⟨f,fd,F,hm,hb⟩:=D
 exact ⟨f,fd,F.ok S len fun cdv A outer s H vs Q E hr h=>hbody f cdv A outer s H vs Q E hr h,hm,F.kp,hb⟩
end
section
variable {X:Cx} {x:Str} {p pos apos:Pos} {e o:Expr} {es:List Expr} {t:TA} {te to ti:TE} {k:Nat} {ps:List Str} {sp:Sp}
def tCan (sp:Sp) (t:TA):TE:=fun σ H Q=>t σ H fun vs H1=>sp vs H1 Q E0
theorem PA.of {t t':TA} (h:PA X es t) (k:∀ σ H Q,t' σ H Q->t σ H Q):PA X es t':=fun pos pins s σ H Q I q=>h pos pins s σ H Q I (k _ _ _ q)
theorem pe_can (C:Can X.prog X.w X.K X.mg X.base x k ps sp) (hr:Room k X.A) (ha:PA X (e :: es) t) (hg:Gl X x:=by rfl)
  (hdb:(x == ("__debug__" : Str))=false:=by decide) (he:starEach (e :: es) X.env=(false,eval e X.env) :: starEach es X.env:=by rfl) (hpl:(backTo pos (starEach es X.env)).any (·.1)=false:=by rfl) :
  PE X (.Call (.Name x p) (e :: es) [] pos) (tCan sp t):=by
 obtain ⟨f,fd,F,hm,hk,hb⟩:=C
 have h:=pe_call (pos:=pos) (p:=p) F hr hg hm hk hb .nil pass0 ha hdb he hpl
 intro pins s σ H Q I q
 refine thn (h pins s σ H Q I ?_) fun _ _ z=>z
 have ee:tCall sp [] E0 t=tCan sp t:=by funext σ H Q;unfold tCall tCan;simp only [List.append_nil]
 rw [ee]
 exact q
theorem pe_len (hm:X.mg "len" = none) (ha:PA X (e :: es) t) (hg:Gl X "len" := by rfl) (he:starEach (e :: es) X.env=(false,eval e X.env) :: starEach es X.env:=by rfl) (hpl:(backTo pos (starEach es X.env)).any (·.1)=false:=by rfl) :
  PE X (.Call (.Name "len" p) (e :: es) [] pos) (tCB rLen t):=pe_callB call_lenU hg hm PySem.boot_len ha (he:=he) (hpl:=hpl)
theorem pe_isinst (hm:X.mg "isinstance" = none) (ha:PA X (e :: es) t) (hg:Gl X "isinstance" := by rfl) (he:starEach (e :: es) X.env=(false,eval e X.env) :: starEach es X.env:=by rfl) (hpl:(backTo pos (starEach es X.env)).any (·.1)=false:=by rfl) :
  PE X (.Call (.Name "isinstance" p) (e :: es) [] pos) (tCB rIsI t):=pe_callB call_isU hg hm PyProof.Rows.boot_isinstance ha (he:=he) (hpl:=hpl)
theorem pe_all (hc:X.calm=true) (hm:X.mg "all" = none) (ha:PA X (e :: es) t) (hg:Gl X "all" := by rfl) (he:starEach (e :: es) X.env=(false,eval e X.env) :: starEach es X.env:=by rfl) (hpl:(backTo pos (starEach es X.env)).any (·.1)=false:=by rfl) :
  PE X (.Call (.Name "all" p) (e :: es) [] pos) (tCB rAll t):=pe_callB (call_allU hc) hg hm PyProof.Rows.boot_all ha (he:=he) (hpl:=hpl)
theorem pe_max (hc:X.calm=true) (hm:X.mg "max" = none) (ha:PA X (e :: es) t) (hg:Gl X "max" := by rfl) (he:starEach (e :: es) X.env=(false,eval e X.env) :: starEach es X.env:=by rfl) (hpl:(backTo pos (starEach es X.env)).any (·.1)=false:=by rfl) :
  PE X (.Call (.Name "max" p) (e :: es) [] pos) (tCB rMax t):=pe_callB (call_maxU hc) hg hm PyProof.Rows.boot_max ha (he:=he) (hpl:=hpl)
theorem pe_min (hc:X.calm=true) (hm:X.mg "min" = none) (ha:PA X (e :: es) t) (hg:Gl X "min" := by rfl) (he:starEach (e :: es) X.env=(false,eval e X.env) :: starEach es X.env:=by rfl) (hpl:(backTo pos (starEach es X.env)).any (·.1)=false:=by rfl) :
  PE X (.Call (.Name "min" p) (e :: es) [] pos) (tCB rMin t):=pe_callB (call_minU hc) hg hm PyProof.Rows.boot_min ha (he:=he) (hpl:=hpl)
theorem pe_ty {T:String} (hb:bootBuiltins x=some (.type T)) (hm:X.mg x=none) (hg:Gl X x:=by rfl) (hn:x≠"__name__" := by decide) (hd:(x == ("__debug__" : Str))=false:=by decide):PE X (.Name x pos) (tC (.ty T)):=pe_bltn hg hm hb rfl hn hd
def tMt (T:String) (r:V->List V->Hp->VK->Prop) (to:TE) (t:TA):TE:=fun σ H Q=>to σ H fun x H1=>tyU H1 T x/\t σ H1 fun xs H2=>r x xs H2 Q
theorem pe_mt {T id:String} {name:Str} {cpos:Pos} {r:V->List V->Hp->VK->Prop} (pa:PlainAttrs T) (slot:Slot T name id) (hty:typeOf (.builtin id)=pure (.type "method_descriptor")) (hm:MtM X id r) (ho:PE X o to) (ha:PA X (e :: es) t)
  (hbase:attributeBase o name X.env (eval o X.env)=eval o X.env:=by rfl)
  (hfew:((backTo cpos (starEach (e :: es) X.env)).all (fun x=>!x.1) && (backToKw cpos (keywordEach [] X.env)).all (fun x=>x.1.isSome)
   && decide ((e :: es).length+([]:List Keyword).length+(if ([]:List Keyword).isEmpty then 0 else 1) < 30))=true:=by rfl)
  (hline:(apos.endLine == cpos.line)=true:=by rfl) (hs:starEach (e :: es) X.env=(false,eval e X.env) :: starEach es X.env:=by rfl) (hplain:(backTo cpos (starEach es X.env)).any (·.1)=false:=by rfl) :
  PE X (.Call (.Attribute o name apos) (e :: es) [] cpos) (tMt T r to t):=by
 intro pins s σ H Q I h
 refine wpAny_Call_method_late hbase hfew hline rfl (thn (ho pins s σ H _ I h) fun v s1 ⟨x,H1,I1,r1,ty,q1⟩=>?_)
 obtain ⟨h1,h2⟩:=tyV_is I1 r1 (tyU_of ty)
 refine ⟨T,id,pa,slot,hty,h1,h2,?_⟩
 have hA:=ha cpos pins s1 σ H1 _ I1 q1
 rw [hs] at hA ⊢
 refine Calls.callWith_builtin (by show (false || (backTo cpos (starEach es X.env)).any (·.1))=false;rw [hplain]<;>rfl) (Calls.evalArgs_plain ?_)
 exact thn hA fun us s2 ⟨vs,H2,I2,r2,q2⟩=>hm pins s2 σ H2 x vs v us Q I2 r1 r2 q2
def rSetU:V->V->V->Hp->(Hp->Prop)->Prop:=fun o i v H Q=>match o,i with
 | .ref p,.int k=>∃ xs j,H p=some (.lst xs)/\ixN xs.length k=some j/\Q (upd H p (.lst (xs.set j v)))
 | _,_=>False
theorem setU:PSet X rSetU:=by
 intro pins s σ H o i v ov iv u Q I ro ri rv q
 refine set_list pins s σ H o i v ov iv u Q I ro ri rv ?_
 unfold rSetU at q
 split at q
 ·obtain ⟨xs,j,h1,h2,q⟩:=q
  exact ⟨_,xs,_,j,rfl,rfl,h1,h2,q⟩
 ·exact q.elim
def gTupU (K:PySem.W.Frag) (n:Nat) (t:TGs):TG:=fun v σ H Q=>match v with
 | .ref a=>∃ xs,H a=some (.tup xs)/\xs.length=n/\t xs σ H Q
 | _=>False
def gConsU (t:TG) (u:TGs):TGs:=fun vs σ H Q=>match vs with
 | v :: r=>t v σ H fun σ' H'=>u r σ' H' Q
 | []=>False
theorem pgs_consU {es:List Expr} {t:TG} {u:TGs} (h1:PG X e t) (h2:PGs X es u)
  (hs:(assignEach (e :: es) X.env).map (·.2)=assign e X.env :: (assignEach es X.env).map (·.2):=by rfl):PGs X (e :: es) (gConsU t u):=by
 intro pins s σ H vs us Q I r hw
 refine pgs_cons h1 h2 hs pins s σ H vs us Q I r ?_
 unfold gConsU at hw
 split at hw
 ·exact ⟨_,_,rfl,hw⟩
 ·exact hw.elim
variable {tg:Expr}
def iLst (K:PySem.W.Frag) (tl:TE):TI:=fun σ H R=>tl σ H fun x H1=>match x with
 | .ref a=>(∃ xs,SqL K H1 a xs)/\R (Itl K a) H1
 | _=>False
theorem pi_lst {l:Expr} {tl:TE} (hl:PE X l tl):PI X tg l (iLst X.K tl):=by
 intro pins s σ H R I h
 refine thn (hl pins s σ H _ I h) fun v s1 ⟨x,H1,I1,r1,q1⟩=>?_
 dsimp only at q1
 split at q1
 ·rename_i a
  obtain ⟨⟨xs,hq⟩,q⟩:=q1
  cases r1
  obtain ⟨its,rv,p,hz⟩:=I1.list hq
  refine wpAny_pyIter_list p.isList ?_
  refine ⟨s1.heap.objs.size,[s1.heap.objs.size],_,_,H1,rfl,I1.kept (t':=s1.toks) fun b o e=>Heap.get?_push_of_some _ e,turn_list a _,⟨_,Heap.get?_push_size _ rfl,rfl,rfl⟩,fun b hb=>?_,q⟩
  have e:b=s1.heap.objs.size:=by simpa using hb
  subst e
  exact I1.fpOk (Nat.le_refl _) (I1.hok.fresh (Nat.le_refl _))
 ·exact q1.elim
def iR1 (ta:TA):TI:=fun σ H R=>ta σ H fun vs H1=>match vs with
 | [.int j]=>-(2 ^ 62)<=j/\j < 2 ^ 62/\R (Itr 0 j.toNat) H1
 | _=>False
theorem PI.of {iter:Expr} {w w':TI} (h:PI X tg iter w) (k:∀ σ H R,w' σ H R->w σ H R):PI X tg iter w':=fun pins s σ H R I q=>h pins s σ H R I (k _ _ _ q)
theorem pi_r1 {a:Expr} {ta:TA} (hm:X.mg "range" = none) (ha:PA X [a] ta) (hg:Gl X "range" := by rfl) (hs:starEach [a] X.env=[(false,eval a X.env)]:=by rfl):PI X tg (.Call (.Name "range" p) [a] [] pos) (iR1 ta):=by
 intro pins s σ H R I h
 refine Call_ (ld_blt I hg hm boot_range (PyProof.Rows.callWith_type1 (thn (ha pos pins s σ H _ I h) fun us s1 ⟨vs,H1,I1,r1,q1⟩=>?_) hs rfl))
 dsimp only at q1
 split at q1
 ·obtain ⟨q1,q2,q⟩:=q1
  obtain ⟨u,rfl,t,rfl⟩:=vals1 r1
  exact call_range_1 (range_it I1 (by omega) (by omega) q1 q2 (by simpa using q))
 ·exact q1.elim
end
end L2
end
section
namespace L2
open PySem PySem.Spec PyProof.Rows
def visB (sc:Scope) (x:Str):Bool:=(match sc.names.lookup x with
 | some .local=>true
 | some .cell=>true
 | some .free=>true
 | _=>false) && (!(x == ("__debug__" : Str)) && !(x == ("__classdict__" : Str)))
theorem vis_of {sc:Scope} {x:Str} (h:visB sc x=true):Vis sc x/\(x == ("__debug__" : Str))=false/\(x == ("__classdict__" : Str))=false:=by
 unfold visB at h
 simp only [Bool.and_eq_true,Bool.not_eq_true'] at h
 obtain ⟨h1,h2,h3⟩:=h
 refine ⟨?_,h2,h3⟩
 split at h1
 ·exact .inl (by assumption)
 ·exact .inr (.inl (by assumption))
 ·exact .inr (.inr (by assumption))
 ·cases h1
def locB (sc:Scope) (x:Str):Bool:=match sc.names.lookup x with
 | some .local=>true
 | some .cell=>true
 | _=>false
theorem loc_of {sc:Scope} {x:Str} (h:locB sc x=true):Loc sc x:=by
 unfold locB at h
 split at h
 ·exact .inl (by assumption)
 ·exact .inr (by assumption)
 ·cases h
section
variable {X:Cx} {x:Str} {pos:Pos}
theorem vk (i:Nat) (hN:X.N[i]? = some x:=by rfl) (hv:visB X.env.scope x=true:=by kernel_rfl):PE X (.Name x pos) (tV i):=
 vr i hN (vis_of hv).1 (vis_of hv).2.1 (vis_of hv).2.2
theorem gk (i:Nat) (hN:X.N.Nodup) (hi:X.N[i]? = some x:=by rfl) (hx:locB X.env.scope x=true:=by kernel_rfl) (hf:(X.fn x || X.env.scope.names.lookup x == some .local)=true:=by kernel_rfl):PG X (.Name x pos) (gName i):=
 pg_name hN hi (loc_of hx) (by
  rw [Bool.or_eq_true] at hf
  exact hf.elim .inl fun z=>.inr (eq_of_beq z))
theorem vn (x:Str) (i:Nat) (hN:X.N[i]? = some x:=by with_unfolding_all rfl) (hv:visB X.env.scope x=true:=by kernel_rfl):PE X (.Name x pos) (tV i):=vk i hN hv
theorem gn (x:Str) (i:Nat) (hN:X.N.Nodup) (hi:X.N[i]? = some x:=by with_unfolding_all rfl) (hx:locB X.env.scope x=true:=by kernel_rfl) (hf:(X.fn x || X.env.scope.names.lookup x == some .local)=true:=by kernel_rfl):PG X (.Name x pos) (gName i):=gk i hN hi hx hf
def gB (X:Cx) (x:Str):Bool:=X.env.scope.names.lookup x == some .globalImplicit
theorem gl_of (h:gB X x=true):Gl X x:=eq_of_beq h
variable {p apos:Pos} {e o:Expr} {es:List Expr} {t:TA} {te to ti:TE} {k:Nat} {ps:List Str} {sp:Sp} {tg:Expr}
theorem fn_can (x:Str) {P':Program} {w':World} {K':PySem.W.Frag} {mg':Str->Option Value} {base':Heap} (C:Can P' w' K' mg' base' x k ps sp) (hX:X.prog=P'/\X.w=w'/\X.K=K'/\X.mg=mg'/\X.base=base') (hr:Room k X.A) (ha:PA X (e :: es) t) (hg:gB X x=true:=by kernel_rfl)
  (hdb:(x == ("__debug__" : Str))=false:=by kernel_rfl) (he:starEach (e :: es) X.env=(false,eval e X.env) :: starEach es X.env:=by kernel_rfl) (hpl:(backTo pos (starEach es X.env)).any (·.1)=false:=by kernel_rfl) :
  PE X (.Call (.Name x p) (e :: es) [] pos) (tCan sp t):=by
 obtain ⟨rfl,rfl,rfl,rfl,rfl⟩:=hX
 exact pe_can C hr ha (gl_of hg) hdb he hpl
theorem fn_len {mg':Str->Option Value} (hm:mg' "len" = none) (hX:X.mg=mg') (ha:PA X (e :: es) t) (hg:gB X "len" = true:=by kernel_rfl) (he:starEach (e :: es) X.env=(false,eval e X.env) :: starEach es X.env:=by kernel_rfl) (hpl:(backTo pos (starEach es X.env)).any (·.1)=false:=by kernel_rfl) :
  PE X (.Call (.Name "len" p) (e :: es) [] pos) (tCB rLen t):=pe_len (by rw [hX];exact hm) ha (gl_of hg) he hpl
theorem fn_isinst {mg':Str->Option Value} (hm:mg' "isinstance" = none) (hX:X.mg=mg') (ha:PA X (e :: es) t) (hg:gB X "isinstance" = true:=by kernel_rfl) (he:starEach (e :: es) X.env=(false,eval e X.env) :: starEach es X.env:=by kernel_rfl) (hpl:(backTo pos (starEach es X.env)).any (·.1)=false:=by kernel_rfl) :
  PE X (.Call (.Name "isinstance" p) (e :: es) [] pos) (tCB rIsI t):=pe_isinst (by rw [hX];exact hm) ha (gl_of hg) he hpl
theorem fn_all {mg':Str->Option Value} (hm:mg' "all" = none) (hX:X.mg=mg') (ha:PA X (e :: es) t) (hc:X.calm=true:=by kernel_rfl) (hg:gB X "all" = true:=by kernel_rfl) (he:starEach (e :: es) X.env=(false,eval e X.env) :: starEach es X.env:=by kernel_rfl) (hpl:(backTo pos (starEach es X.env)).any (·.1)=false:=by kernel_rfl) :
  PE X (.Call (.Name "all" p) (e :: es) [] pos) (tCB rAll t):=pe_all hc (by rw [hX];exact hm) ha (gl_of hg) he hpl
theorem fn_max {mg':Str->Option Value} (hm:mg' "max" = none) (hX:X.mg=mg') (ha:PA X (e :: es) t) (hc:X.calm=true:=by kernel_rfl) (hg:gB X "max" = true:=by kernel_rfl) (he:starEach (e :: es) X.env=(false,eval e X.env) :: starEach es X.env:=by kernel_rfl) (hpl:(backTo pos (starEach es X.env)).any (·.1)=false:=by kernel_rfl) :
  PE X (.Call (.Name "max" p) (e :: es) [] pos) (tCB rMax t):=pe_max hc (by rw [hX];exact hm) ha (gl_of hg) he hpl
theorem fn_min {mg':Str->Option Value} (hm:mg' "min" = none) (hX:X.mg=mg') (ha:PA X (e :: es) t) (hc:X.calm=true:=by kernel_rfl) (hg:gB X "min" = true:=by kernel_rfl) (he:starEach (e :: es) X.env=(false,eval e X.env) :: starEach es X.env:=by kernel_rfl) (hpl:(backTo pos (starEach es X.env)).any (·.1)=false:=by kernel_rfl) :
  PE X (.Call (.Name "min" p) (e :: es) [] pos) (tCB rMin t):=pe_min hc (by rw [hX];exact hm) ha (gl_of hg) he hpl
theorem ty_int {mg':Str->Option Value} (hm:mg' "int" = none) (hX:X.mg=mg') (hg:gB X "int" = true:=by kernel_rfl):PE X (.Name "int" pos) (tC (.ty "int")):=pe_ty PyProof.Rows.boot_int (by rw [hX];exact hm) (gl_of hg)
theorem ty_bool {mg':Str->Option Value} (hm:mg' "bool" = none) (hX:X.mg=mg') (hg:gB X "bool" = true:=by kernel_rfl):PE X (.Name "bool" pos) (tC (.ty "bool")):=pe_ty PyProof.Rows.boot_bool (by rw [hX];exact hm) (gl_of hg)
theorem ty_list {mg':Str->Option Value} (hm:mg' "list" = none) (hX:X.mg=mg') (hg:gB X "list" = true:=by kernel_rfl):PE X (.Name "list" pos) (tC (.ty "list")):=pe_ty PyProof.Rows.boot_list (by rw [hX];exact hm) (gl_of hg)
theorem ty_tuple {mg':Str->Option Value} (hm:mg' "tuple" = none) (hX:X.mg=mg') (hg:gB X "tuple" = true:=by kernel_rfl):PE X (.Name "tuple" pos) (tC (.ty "tuple")):=pe_ty PyProof.Rows.boot_tuple (by rw [hX];exact hm) (gl_of hg)
theorem ty_str {mg':Str->Option Value} (hm:mg' "str" = none) (hX:X.mg=mg') (hg:gB X "str" = true:=by kernel_rfl):PE X (.Name "str" pos) (tC (.ty "str")):=pe_ty PyProof.Rows.boot_str (by rw [hX];exact hm) (gl_of hg)
theorem it_r1 {a:Expr} {ta:TA} {mg':Str->Option Value} (hm:mg' "range" = none) (hX:X.mg=mg') (ha:PA X [a] ta) (hg:gB X "range" = true:=by kernel_rfl) (hs:starEach [a] X.env=[(false,eval a X.env)]:=by kernel_rfl):PI X tg (.Call (.Name "range" p) [a] [] pos) (iR1 ta):=pi_r1 (by rw [hX];exact hm) ha (gl_of hg) hs
theorem ix_at {a b:Expr} {ta tb:TE} (ha:PE X a ta) (hb:PE X b tb) (hs:∀ o i,subscripted b false o i=operate [o,i] (getItem o i):=by intro _ _;kernel_rfl):PE X (.Subscript a b pos) (tOp rIxU ta tb):=pe_ix ixU ha hb hs
theorem a_cons {e:Expr} {es:List Expr} {te:TE} {t:TA} (ha:PE X e te) (hr:PA X es t) (hs:starEach (e :: es) X.env=(false,eval e X.env) :: starEach es X.env:=by kernel_rfl):PA X (e :: es) (tCons te t):=pa_cons ha hr hs
theorem t_cmp {op:CmpOp} {r:R2} {a b:Expr} {ta tb:TE} (ho:OpR X (compareOp op) r) (ha:PE X a ta) (hb:PE X b tb) (hm:behindInMarks op b=false:=by kernel_rfl):PT X (.Compare a [op] [b] pos) (tBU (tOp r ta tb)):=pt_cmpU ho ha hb hm
theorem e_cmp {op:CmpOp} {r:R2} {a b:Expr} {ta tb:TE} (ho:OpR X (compareOp op) r) (ha:PE X a ta) (hb:PE X b tb) (hm:behindInMarks op b=false:=by kernel_rfl):PE X (.Compare a [op] [b] pos) (tOp r ta tb):=pe_cmpU ho ha hb hm
theorem e_chain {op op':CmpOp} {r r':R2} {a b c:Expr} {ta tb tc:TE} (ho:OpR X (compareOp op) r) (ho':OpR X (compareOp op') r') (ha:PE X a ta) (hb:PE X b tb) (hc:PE X c tc)
  (hm:lastMarks [op,op'] [b,c]=false:=by kernel_rfl):PE X (.Compare a [op,op'] [b,c] pos) (tChainU r r' ta tb tc):=pe_chainU ho ho' ha hb hc hm
theorem s_asg {tg e:Expr} {te:TE} {g:TG} (he:PE X e te) (hg:PG X tg g) (hs:swapsWithSole [tg] e pos.line X.env=pure false:=by kernel_rfl) (hw:swappedStores [tg] e X.env=pure none:=by kernel_rfl)
  (h1:(assignEach [tg] X.env).map (·.2)=[assign tg X.env]:=by kernel_rfl):PS X (.Assign [tg] e pos) (tAsg te g):=ps_asg he hg hs hw h1
theorem s_expr {e:Expr} {te:TE} (he:PE X e te) (hs:swapsWith e none pos.line X.env=pure false:=by kernel_rfl):PS X (.Expr e pos) (tDrop te):=ps_expr he hs
theorem s_for {iter:Expr} {body:List Stmt} {wi:TI} {g:TG} {tb:TS} (hi:PI X tg iter wi) (hg:PG X tg g) (hb:PSs X body tb) (hp:PassesOwn (model X.prog X.w) X.A X.env X.xe:=by exact PassesOwn.never) (hc:X.calm=true:=by kernel_rfl)
  (hs:∀ x,foldedSetIterable iter X.env x=pure x:=by intro _;kernel_rfl):PS X (.For tg iter body [] pos) (tFor wi g tb):=ps_for hp hc hi hg hb hs
theorem gs_cons {es:List Expr} {t:TG} {u:TGs} (h1:PG X e t) (h2:PGs X es u)
  (hs:(assignEach (e :: es) X.env).map (·.2)=assign e X.env :: (assignEach es X.env).map (·.2):=by kernel_rfl):PGs X (e :: es) (gConsU t u):=pgs_consU h1 h2 hs
theorem g_sub {o i:Expr} {to ti:TE} (ho:PE X o to) (hi:PE X i ti) (ha:∀ v,assign (.Subscript o i pos) X.env v=(do
   let ov <-holding [v] (eval o X.env)
   let iv <-holding [v,ov] (eval i X.env)
   standAt pos
   holding [v,ov,iv] (setItem ov iv v)
   release [v,ov,iv] []):=by intro _;kernel_rfl):PG X (.Subscript o i pos) (gSub to ti rSetU):=pg_sub ho hi setU ha
theorem m_append {cpos:Pos} (ho:PE X o to) (ha:PA X (e :: es) t)
  (hbase:attributeBase o "append" X.env (eval o X.env)=eval o X.env:=by kernel_rfl)
  (hfew:((backTo cpos (starEach (e :: es) X.env)).all (fun x=>!x.1) && (backToKw cpos (keywordEach [] X.env)).all (fun x=>x.1.isSome)
   && decide ((e :: es).length+([]:List Keyword).length+(if ([]:List Keyword).isEmpty then 0 else 1) < 30))=true:=by kernel_rfl)
  (hline:(apos.endLine == cpos.line)=true:=by kernel_rfl) (hs:starEach (e :: es) X.env=(false,eval e X.env) :: starEach es X.env:=by kernel_rfl) (hplain:(backTo cpos (starEach es X.env)).any (·.1)=false:=by kernel_rfl) :
  PE X (.Call (.Attribute o "append" apos) (e :: es) [] cpos) (tMt "list" rApp to t):=pe_mt PySem.F.plainAttrs_list PySem.F.slot_list_append PySem.F.type_list_append mt_appU ho ha hbase hfew hline hs hplain
theorem m_insert {cpos:Pos} (ho:PE X o to) (ha:PA X (e :: es) t)
  (hbase:attributeBase o "insert" X.env (eval o X.env)=eval o X.env:=by kernel_rfl)
  (hfew:((backTo cpos (starEach (e :: es) X.env)).all (fun x=>!x.1) && (backToKw cpos (keywordEach [] X.env)).all (fun x=>x.1.isSome)
   && decide ((e :: es).length+([]:List Keyword).length+(if ([]:List Keyword).isEmpty then 0 else 1) < 30))=true:=by kernel_rfl)
  (hline:(apos.endLine == cpos.line)=true:=by kernel_rfl) (hs:starEach (e :: es) X.env=(false,eval e X.env) :: starEach es X.env:=by kernel_rfl) (hplain:(backTo cpos (starEach es X.env)).any (·.1)=false:=by kernel_rfl) :
  PE X (.Call (.Attribute o "insert" apos) (e :: es) [] cpos) (tMt "list" rIns to t):=pe_mt PySem.F.plainAttrs_list PySem.F.slot_list_insert PySem.F.type_list_insert mt_insU ho ha hbase hfew hline hs hplain
theorem m_pop {cpos:Pos} (ho:PE X o to) (ha:PA X (e :: es) t)
  (hbase:attributeBase o "pop" X.env (eval o X.env)=eval o X.env:=by kernel_rfl)
  (hfew:((backTo cpos (starEach (e :: es) X.env)).all (fun x=>!x.1) && (backToKw cpos (keywordEach [] X.env)).all (fun x=>x.1.isSome)
   && decide ((e :: es).length+([]:List Keyword).length+(if ([]:List Keyword).isEmpty then 0 else 1) < 30))=true:=by kernel_rfl)
  (hline:(apos.endLine == cpos.line)=true:=by kernel_rfl) (hs:starEach (e :: es) X.env=(false,eval e X.env) :: starEach es X.env:=by kernel_rfl) (hplain:(backTo cpos (starEach es X.env)).any (·.1)=false:=by kernel_rfl) :
  PE X (.Call (.Attribute o "pop" apos) (e :: es) [] cpos) (tMt "list" rPopI to t):=pe_mt PySem.F.plainAttrs_list PySem.F.slot_list_pop PySem.F.type_list_pop mt_popU ho ha hbase hfew hline hs hplain
theorem m_join {cpos:Pos} (ho:PE X o to) (ha:PA X (e :: es) t)
  (hbase:attributeBase o "join" X.env (eval o X.env)=eval o X.env:=by kernel_rfl)
  (hfew:((backTo cpos (starEach (e :: es) X.env)).all (fun x=>!x.1) && (backToKw cpos (keywordEach [] X.env)).all (fun x=>x.1.isSome)
   && decide ((e :: es).length+([]:List Keyword).length+(if ([]:List Keyword).isEmpty then 0 else 1) < 30))=true:=by kernel_rfl)
  (hline:(apos.endLine == cpos.line)=true:=by kernel_rfl) (hs:starEach (e :: es) X.env=(false,eval e X.env) :: starEach es X.env:=by kernel_rfl) (hplain:(backTo cpos (starEach es X.env)).any (·.1)=false:=by kernel_rfl) :
  PE X (.Call (.Attribute o "join" apos) (e :: es) [] cpos) (tMt "str" rJoin to t):=pe_mt PySem.F.plainAttrs_str PySem.F.slot_str_join PySem.F.type_str_join mt_joinU ho ha hbase hfew hline hs hplain
theorem m_strip {cpos:Pos} (ho:PE X o to) (ha:PA X (e :: es) t)
  (hbase:attributeBase o "strip" X.env (eval o X.env)=eval o X.env:=by kernel_rfl)
  (hfew:((backTo cpos (starEach (e :: es) X.env)).all (fun x=>!x.1) && (backToKw cpos (keywordEach [] X.env)).all (fun x=>x.1.isSome)
   && decide ((e :: es).length+([]:List Keyword).length+(if ([]:List Keyword).isEmpty then 0 else 1) < 30))=true:=by kernel_rfl)
  (hline:(apos.endLine == cpos.line)=true:=by kernel_rfl) (hs:starEach (e :: es) X.env=(false,eval e X.env) :: starEach es X.env:=by kernel_rfl) (hplain:(backTo cpos (starEach es X.env)).any (·.1)=false:=by kernel_rfl) :
  PE X (.Call (.Attribute o "strip" apos) (e :: es) [] cpos) (tMt "str" rStrip to t):=pe_mt PySem.F.plainAttrs_str PySem.F.slot_str_strip PySem.F.type_str_strip mt_stripU ho ha hbase hfew hline hs hplain
theorem c_comp (N:List Str) (js:List Nat) {elt target iter:Expr} {ifs:List Expr} {scope:Scope} {wi:TI} {g:TG} {tt:TT} {te:TE} (hN:N.Nodup) (hi:PI X target iter wi)
  (hg:∀ cl C s H fp,PG (X.block scope cl C N s H fp) target g) (ht:∀ cl C s H fp,PF (X.block scope cl C N s H fp) ifs tt) (he:∀ cl C s H fp,PE (X.block scope cl C N s H fp) elt te)
  (hok:compOk X.env.scope X.N scope N js=true:=by kernel_rfl) (hc:X.calm=true:=by kernel_rfl) (hk:scope.kind = .function:=by kernel_rfl) (hs:∀ x,foldedSetIterable iter X.env x=pure x:=by intro _;kernel_rfl) :
  PE X (.ListComp elt [⟨target,iter,ifs,0⟩] scope pos) (tComp (N.length - js.length) js wi g tt te):=pe_comp N js hok hN hc hi hg ht he hk hs
theorem s_comp (y:Str) (i:Nat) (N:List Str) (js:List Nat) {elt target iter:Expr} {ifs:List Expr} {scope:Scope} {wi:TI} {g:TG} {tt:TT} {te:TE} {py spos:Pos} (hN:N.Nodup) (hXN:X.N.Nodup) (hi:PI X target iter wi)
  (hg:∀ cl C s H fp,PG (X.block scope cl C N s H fp) target g) (ht:∀ cl C s H fp,PF (X.block scope cl C N s H fp) ifs tt) (he:∀ cl C s H fp,PE (X.block scope cl C N s H fp) elt te)
  (hyi:X.N[i]? = some y:=by with_unfolding_all rfl) (hy:locB X.env.scope y=true:=by kernel_rfl)
  (hok:compOk X.env.scope X.N scope N js=true:=by kernel_rfl) (hc:X.calm=true:=by kernel_rfl) (hk:scope.kind = .function:=by kernel_rfl) (hs:∀ x,foldedSetIterable iter X.env x=pure x:=by intro _;kernel_rfl)
  (hsw:swapsWith (.ListComp elt [⟨target,iter,ifs,0⟩] scope pos) (some (.Name y py)) spos.line X.env=pure true:=by kernel_rfl) (hf:(X.fn y || X.env.scope.names.lookup y == some .local)=true:=by kernel_rfl) :
  PS X (.Assign [.Name y py] (.ListComp elt [⟨target,iter,ifs,0⟩] scope pos) spos) (tAsg (tComp (N.length - js.length) js wi g tt te) (gName i)):=
 ps_setComp N js hok hN hc hXN hyi (loc_of hy) hi hg ht he hsw hk hs (by
  rw [Bool.or_eq_true] at hf
  exact hf.elim .inl fun z=>.inr (eq_of_beq z))
end
theorem iteP {c A B:Prop} [Decidable c] (hc:c) (h:A):if c then A else B:=by rw [if_pos hc];exact h
end L2
end
section
namespace L2
open PySem PySem.Spec PyProof.Rows
def Off (F:Addr->Prop) (H H':Hp):Prop:=∀ b o,H b=some o->¬ F b->H' b=some o
structure Deck (F:Addr->Prop) (H:Hp) (a:Addr):Prop where
 ex:∃ (p:Addr) (qs:List Addr) (n:Int),H a=some (.lst [.ref p,.int n])/\H p=some (.lst (qs.map V.ref))/\0 < qs.length/\qs.length<=63/\(∀ q∈qs,∃ c f m,H q=some (.lst [.int c,.int f,.int m]))/\∀ b,F b↔b=a\/b=p\/b∈qs
theorem Off.refl {F:Addr->Prop} {H:Hp}:Off F H H:=fun _ _ e _=>e
theorem Off.trans {F:Addr->Prop} {H H1 H2:Hp} (h:Off F H H1) (k:Off F H1 H2):Off F H H2:=fun b o e n=>k b o (h b o e n) n
theorem Same.off {F:Addr->Prop} {H H1:Hp} (h:Same H H1):Off F H H1:=fun b o e _=>h b o e
theorem Deck.same {F:Addr->Prop} {H H1:Hp} {a:Addr} (h:Deck F H a) (k:Same H H1):Deck F H1 a:=by
 obtain ⟨p,qs,n,h1,h2,h3,h4,h5,h6⟩:=h.ex
 exact ⟨p,qs,n,k _ _ h1,k _ _ h2,h3,h4,fun q hq=>let ⟨c,f,m,e⟩:=h5 q hq;⟨c,f,m,k _ _ e⟩,h6⟩
theorem Deck.there {F:Addr->Prop} {H:Hp} {a b:Addr} (h:Deck F H a) (hb:F b):∃ o,H b=some o:=by
 obtain ⟨p,qs,n,h1,h2,h3,h4,h5,h6⟩:=h.ex
 rcases (h6 b).mp hb with rfl | rfl | z
 ·exact ⟨_,h1⟩
 ·exact ⟨_,h2⟩
 ·obtain ⟨c,f,m,e⟩:=h5 b z
  exact ⟨_,e⟩
theorem Deck.new {F:Addr->Prop} {H:Hp} {a b:Addr} (h:Deck F H a) (hb:H b=none):¬ F b:=fun z=>by
 obtain ⟨o,e⟩:=h.there z
 rw [hb] at e
 cases e
theorem tOr_by {t u:TT} {σ:St} {H:Hp} {Q:Bool->Hp->Prop} {c1 c2:Bool} (h1:∀ Q:Bool->Hp->Prop,Q c1 H->t σ H Q) (h2:c1=false->∀ Q:Bool->Hp->Prop,Q c2 H->u σ H Q) (q:Q (c1 || c2) H):tOr t u σ H Q:=by
 refine h1 _ ?_
 cases c1 with
 | true=>exact iteT (by simpa using q)
 | false=>exact iteF (h2 rfl _ (by simpa using q))
end L2
namespace L2
open PySem PySem.Spec PyProof.Rows
section
variable {H:Hp}
theorem DV.lst_inv {v:V} {ds:List PyData} (h:DV H v (.list ds)):∃ a xs,v = .ref a/\H a=some (.lst xs)/\DVs H xs ds:=by
 cases h with
 | lst h r=>exact ⟨_,_,rfl,h,r⟩
theorem DV.tup_inv {v:V} {ds:List PyData} (h:DV H v (.tuple ds)):∃ a xs,v = .ref a/\H a=some (.tup xs)/\DVs H xs ds:=by
 cases h with
 | tup h r=>exact ⟨_,_,rfl,h,r⟩
theorem DV.int_inv {v:V} {i:Int} (h:DV H v (.int i)):v = .int i:=by cases h;rfl
theorem DV.str_inv {v:V} {x:Str} (h:DV H v (.str x)):v = .str x:=by cases h;rfl
theorem DVs.length:∀ {xs:List V} {ds:List PyData},DVs H xs ds->xs.length=ds.length
 | _,_,.nil=>rfl
 | _,_,.cons _ r=>by rw [List.length_cons,List.length_cons,DVs.length r]
theorem DVs.get:∀ {xs:List V} {ds:List PyData} {i:Nat} {d:PyData},DVs H xs ds->ds[i]? = some d->∃ x,xs[i]? = some x/\DV H x d
 | _,_,_,_,.nil,h=>by simp at h
 | _,_,0,_,.cons h _,e=>by
  simp at e
  subst e
  exact ⟨_,rfl,h⟩
 | _,_,i+1,d,.cons _ r,e=>by
  obtain ⟨x,h1,h2⟩:=DVs.get (i:=i) (d:=d) r (by simpa using e)
  exact ⟨x,by simpa using h1,h2⟩
theorem DVs.app:∀ {xs ys:List V} {ds es:List PyData},DVs H xs ds->DVs H ys es->DVs H (xs++ys) (ds++es)
 | _,_,_,_,.nil,s=>s
 | _,_,_,_,.cons h r,s=>.cons h (DVs.app r s)
theorem DVs.ints:∀ (ns:List Int),DVs H (ns.map V.int) (ns.map PyData.int)
 | []=>.nil
 | n :: r=>.cons (.int n) (DVs.ints r)
theorem DVs.strs:∀ (ws:List Str),DVs H (ws.map V.str) (ws.map PyData.str)
 | []=>.nil
 | n :: r=>.cons (.str n) (DVs.strs r)
end
end L2
end
section
namespace Om
abbrev Rows:=List (List (List Bool×Nat))
structure CodeOk (k n:Nat) (rows:Rows):Prop where
 k1:1<=k
 k3:k<=3
 n1:1<=n
 n6:n<=6
 s1:1<=rows.length
 s8:rows.length<=8
 len:∀ st∈rows,st.length=2 ^ k
 row:∀ st∈rows,∀ r∈st,r.1.length=n/\r.2 < rows.length
def step (rows:Rows) (s l:Nat):List Bool×Nat:=(rows.getD s []).getD l ([],0)
end Om
end
section
namespace L2
open PySem PySem.Spec PyProof.Rows
theorem tw_all {α:Type} {p:α->Bool}:∀ {l:List α},(∀ x∈l,p x=true)->l.takeWhile p=l
 | [],_=>rfl
 | a :: l,h=>by rw [List.takeWhile_cons,if_pos (h a List.mem_cons_self),tw_all fun x hx=>h x (List.mem_cons_of_mem _ hx)]
theorem strip01 (w:List Bool):Txt.stripChars (bs w) ("01" : Str)=bs []:=by
 unfold Txt.stripChars
 rw [stripBy_eq]
 have hg:∀ b:Bool,(("01" : Str).cps.contains (sg b))=true:=by intro b;cases b<;>decide +kernel
 have hlo:stripLo ("01" : Str).cps.contains true (bs w)=w.length:=by
  unfold stripLo
  rw [if_pos rfl]
  have e:(bs w).cps.toList=w.map sg:=by show (w.map sg).toArray.toList=_;simp
  rw [e]
  have:(w.map sg).takeWhile ("01" : Str).cps.contains=w.map sg:=tw_all fun x hx=>by
   obtain ⟨b,_,rfl⟩:=List.mem_map.mp hx
   exact hg b
  rw [this,List.length_map]
 rw [hlo]
 show (⟨((w.map sg).toArray).extract w.length _⟩ : Str)=bs []
 have:∀ j,((w.map sg).toArray).extract w.length j = #[]:=fun j=>by
  apply Array.ext'
  simp
 rw [this]
 rfl
def rowD (r:List Bool×Nat):PyData:=.tuple [.str (bs r.1),.int (r.2:Nat)]
def stateD (st:List (List Bool×Nat)):PyData:=.list (st.map rowD)
def codeD (k n:Nat) (rows:Om.Rows):PyData:=.tuple [.int (k:Nat),.int (n:Nat),.list (rows.map stateD)]
end L2
namespace L2
open PySem PySem.Spec PyProof.Rows
theorem SqL.upd {K:PySem.W.Frag} {H:Hp} {a D:Addr} {xs:List V} {o:HO} (h:H a=some (.lst xs)) (hD:H D=none):SqL K (upd H D o) a xs:=SqL.of (Same.upd hD _ _ h)
end L2
end
section
namespace L2
open PySem PySem.Spec PyProof.Rows
section
variable {prog:Program} {w:World} {A:Around} {E:Value->Shared->Prop}
theorem draw_list {it l:Addr} {items:Array Value} (hne:l≠it):∀ (n i:Nat) (s:Shared) (Q:List Value->Shared->Prop),s.heap.IsListIter it l i->s.heap.IsList l items->i+n<=items.size →
  (∀ h',h'.IsListIter it l (i+n)->Heap.SameBut it s.heap h'->Q ((items.toList.drop i).take n) { s with heap:=h' })->wpAny (model prog w) A (draw (.ref it) n) Q E s
 | 0,i,s,Q,hit,_,_,hQ=>by
  show wpAny _ _ (pure []) Q E s
  exact wpAny_pure (by simpa using hQ s.heap hit (Heap.SameBut.refl ..))
 | n+1,i,s,Q,hit,ht,hle,hQ=>by
  have hlt:i < items.size:=by omega
  show wpAny _ _ (pyNext (.ref it) >>= _) Q E s
  refine wpAny_bind (wpAny_pyNext_list_item hit ht (x:=items[i]) (by simp [hlt]) fun h₁ hit₁ hs₁=>?_)
  refine wpAny_bind (wpAny_holding (draw_list hne n (i+1) _ _ hit₁ (ht.extBut hs₁.extBut hne) (by omega) fun h₂ hit₂ hs₂=>wpAny_pure ?_))
  have hd:items.toList.drop i=items[i] :: items.toList.drop (i+1):=by simp [List.drop_eq_getElem_cons,hlt]
  have:=hQ h₂ (by rw [show i+(n+1)=i+1+n by omega];exact hit₂) (hs₁.trans hs₂)
  rw [hd,List.take_succ_cons] at this
  exact this
theorem unpackItems_list {s:Shared} {t:Addr} {items:Array Value} {Q:List Value->Shared->Prop} (hh:A.handled=none) (ht:s.heap.IsList t items)
  (hQ:∀ h',Heap.ExtBut s.heap.objs.size s.heap h'->Q items.toList { s with heap:=h' }):wpAny (model prog w) A (unpackItems (.ref t) items.size none) Q E s:=by
 have hlt:t≠s.heap.objs.size:=by obtain ⟨o,ho,_⟩:=ht;exact Nat.ne_of_lt (Heap.lt_size ho)
 unfold unpackItems
 refine wpAny_bind ?_
 ·unfold notIterableAtAll
  refine wpAny_bind (wpAny_specialOf ht.typeIs slot_list_iter.lookup ?_)
  refine wpAny_pure ?_
  simp only [Bool.false_eq_true,if_false]
  refine wpAny_bind (wpAny_holding (wpAny_pyIter_list ht ?_))
  refine wpAny_bind (wpAny_holding (draw_list hlt items.size 0 _ _ ⟨_,Heap.get?_push_size _ rfl,rfl,rfl⟩ (ht.push _) (by omega) fun h₁ hit₁ hs₁=>?_))
  have hall:List.take items.size (List.drop 0 items.toList)=items.toList:=by
   rw [List.drop_zero];exact List.take_of_length_le (by simp)
  rw [hall]
  rw [if_neg (by simp)]
  have ht₁:h₁.IsList t items:=(ht.push _).extBut hs₁.extBut hlt
  refine wpAny_bind (wpAny_holding (wpAny_pyNext_list_end hh hit₁ ht₁ (by simp) fun h₂ he₂=>?_))
  simp only [Option.isSome_none,Bool.false_eq_true,if_false]
  refine wpAny_pure (hQ h₂ fun b o hb e=>he₂ b o hb (hs₁.extBut b o hb (Heap.get?_push_of_some _ e)))
theorem assign_Tuple_list {s:Shared} {env:Env} {elts:List Expr} {x1} {pos:Pos} {t:Addr} {items:Array Value} {Q:Unit->Shared->Prop} (hh:A.handled=none) (ht:s.heap.IsList t items)
  (hn:(assignEach elts env).length=items.size) (hstar:(assignEach elts env).findIdx? (·.1)=none)
  (h:∀ h',Heap.ExtBut s.heap.objs.size s.heap h'->wpAny (model prog w) A (assignInOrder ((assignEach elts env).map (·.2)) items.toList) Q E { s with heap:=h' }) :
  wpAny (model prog w) A (assign (.Tuple elts x1 pos) env (.ref t)) Q E s:=by
 rw [assign_Tuple]
 refine wpAny_bind (wpAny_standAt ?_)
 unfold unpack
 rw [hn,hstar]
 exact wpAny_bind (wpAny_holding (unpackItems_list hh ht h))
end
section
variable {X:Cx} {pos:Pos}
def gTupL (K:PySem.W.Frag) (n:Nat) (t:TGs):TG:=fun v σ H Q=>match v with
 | .ref a=>∃ xs,(H a=some (.tup xs)\/H a=some (.lst xs))/\xs.length=n/\t xs σ H Q
 | _=>False
theorem g_tupL {es:List Expr} {k:Nat} {t:TGs} (h:PGs X es t) (hc:X.calm=true:=by kernel_rfl)
  (hst:(assignEach es X.env).findIdx? (·.1)=none:=by kernel_rfl):PG X (.Tuple es k pos) (gTupL X.K (assignEach es X.env).length t):=by
 intro pins s σ H v u Q I r hw
 unfold gTupL at hw
 split at hw
 ·obtain ⟨xs,h1 | h1,h2,hw⟩:=hw
  ·exact pg_tup hc h rfl hst pins s σ H _ u Q I r ⟨_,xs,rfl,SqT.of h1,h2,hw⟩
  ·cases r
   obtain ⟨its,rv,p,hz⟩:=I.list (SqL.of h1)
   refine assign_Tuple_list (I.ok.hd hc) p.isList (by simp [<-rv.length,h2]) hst fun h' hx=>?_
   have I1:Inv X pins σ H { s with heap:=h' }:=I.kept (t':=s.toks) fun b o e=>hx b o (Nat.ne_of_lt (Heap.lt_size e)) e
   exact h pins _ σ H xs _ Q I1 (by simpa using rv) hw
 ·exact hw.elim
theorem op_isB:OpR X (compareOp .Is) (fun x y H Q=>match x,y with
  | .bl a,.bl b=>Q (.bl (a == b)) H
  | _,_=>False):=by
 intro pins s σ H x y v u Q I rx ry h
 split at h
 ·cases rx
  cases ry
  exact is_bool ⟨.bl _,H,I,rfl,h⟩
 ·exact h.elim
end
section
variable {X:Cx}
def tTru (t:TE):TT:=fun σ H Q=>t σ H fun x H1=>match x with
 | .bl c=>Q c H1
 | .ref p=>∃ xs,H1 p=some (.lst xs)/\Q (!xs.isEmpty) H1
 | _=>False
theorem t_tru {e:Expr} {t:TE} (h:PE X e t) (he:∀ whole,isTrue e X.env whole=(do let v <-whole;standAt e.pos;holding [v] (truthy v)):=by intro _;kernel_rfl):PT X e (tTru t):=by
 intro pins s σ H Q I hw
 refine isTrue_plain (thn (h pins s σ H _ I hw) fun v s1 ⟨x,H1,I1,r1,q1⟩=>?_) (he _)
 refine tru_ok pins s1 σ H1 x v Q I1 r1 ?_
 dsimp only at q1
 split at q1
 ·exact ⟨_,rfl,q1⟩
 ·obtain ⟨xs,h1,q⟩:=q1
  exact ⟨_,.inl ⟨xs,SqL.of h1,rfl⟩,q⟩
 ·exact q1.elim
end
section
variable {X:Cx}
def rNeg:V->Hp->VK->Prop:=fun x H Q=>match x with
 | .int i=>Q (.int (-i)) H
 | _=>False
theorem e_neg {a:Expr} {ta:TE} {pos:Pos} (ha:PE X a ta):PE X (.UnaryOp .USub a pos) (tUn rNeg ta):=by
 refine pe_un (fun pins s σ H x v Q I rx q=>?_) ha
 unfold rNeg at q
 split at q
 ·exact un_neg pins s σ H _ v Q I rx ⟨_,rfl,q⟩
 ·exact q.elim
end
section
variable {H:Hp}
theorem code_inv {cv:V} {k n:Nat} {rows:Om.Rows} (h:DV H cv (codeD k n rows)):∃ a b ss,cv = .ref a/\H a=some (.tup [.int k,.int n,.ref b])/\H b=some (.lst ss)/\DVs H ss (rows.map stateD):=by
 obtain ⟨a,xs,rfl,ha,hx⟩:=h.tup_inv
 cases hx with
 | cons h1 hx=>
  cases hx with
  | cons h2 hx=>
   cases hx with
   | cons h3 hx=>
    cases hx
    obtain rfl:=h1.int_inv
    obtain rfl:=h2.int_inv
    obtain ⟨b,ss,rfl,hb,hs⟩:=h3.lst_inv
    exact ⟨a,b,ss,rfl,ha,hb,hs⟩
theorem state_at {ss:List V} {rows:Om.Rows} (h:DVs H ss (rows.map stateD)) {s:Nat} {st:List (List Bool×Nat)} (hs:rows[s]? = some st):∃ q rs,ss[s]? = some (.ref q)/\H q=some (.lst rs)/\DVs H rs (st.map rowD):=by
 obtain ⟨x,hx,d⟩:=h.get (i:=s) (d:=stateD st) (by rw [List.getElem?_map,hs];rfl)
 obtain ⟨q,rs,rfl,hq,hr⟩:=d.lst_inv
 exact ⟨q,rs,hx,hq,hr⟩
theorem row_at {rs:List V} {st:List (List Bool×Nat)} (h:DVs H rs (st.map rowD)) {l:Nat} {r:List Bool×Nat} (hl:st[l]? = some r):∃ p,rs[l]? = some (.ref p)/\H p=some (.tup [.str (bs r.1),.int (r.2:Nat)]):=by
 obtain ⟨x,hx,d⟩:=h.get (i:=l) (d:=rowD r) (by rw [List.getElem?_map,hl];rfl)
 obtain ⟨p,xs,rfl,hp,hd⟩:=d.tup_inv
 cases hd with
 | cons h1 hd=>
  cases hd with
  | cons h2 hd=>
   cases hd
   obtain rfl:=h1.str_inv
   obtain rfl:=h2.int_inv
   exact ⟨p,hx,hp⟩
end
end L2
namespace Om
def words (rows:Rows):Nat->List Nat->List (List Bool)
 | _,[]=>[]
 | s,l :: r=>(step rows s l).1 :: words rows (step rows s l).2 r
end Om
end
section
namespace L2
open PySem PySem.Spec PyProof.Rows
section
variable {X:Cx} {x:Str} {p pos:Pos} {e:Expr} {es:List Expr} {t:TA}
def rLenS (K:PySem.W.Frag):List V->Hp->VK->Prop:=fun vs H Q=>match vs with
 | [.ref a]=>∃ ys,SqL K H a ys/\Q (.int (ys.length:Nat)) H
 | _=>False
theorem fn_lenS {mg':Str->Option Value} (hm:mg' "len" = none) (hX:X.mg=mg') (ha:PA X (e :: es) t) (hg:gB X "len" = true:=by kernel_rfl) (he:starEach (e :: es) X.env=(false,eval e X.env) :: starEach es X.env:=by kernel_rfl) (hpl:(backTo pos (starEach es X.env)).any (·.1)=false:=by kernel_rfl) :
  PE X (.Call (.Name "len" p) (e :: es) [] pos) (tCB (rLenS X.K) t):=pe_callB (call_len_seq.of fun xs H Q q=>by
   unfold rLenS at q
   split at q
   ·obtain ⟨ys,h,q⟩:=q
    exact ⟨_,ys,rfl,.inl h,q⟩
   ·exact q.elim) (gl_of hg) (by rw [hX];exact hm) PySem.boot_len ha (he:=he) (hpl:=hpl)
def rIxS' (K:PySem.W.Frag):R2:=fun x y H Q=>match x,y with
 | .ref a,.int i=>∃ ys v,SqL K H a ys/\atI ys i=some v/\Q v H
 | _,_=>False
theorem ix_atS {a b:Expr} {ta tb:TE} (ha:PE X a ta) (hb:PE X b tb) (hs:∀ o i,subscripted b false o i=operate [o,i] (getItem o i):=by intro _ _;kernel_rfl):PE X (.Subscript a b pos) (tOp (rIxS' X.K) ta tb):=
 pe_ix (fun value slice pins s σ H x y v u Q I rx ry q hs=>ix_list value slice pins s σ H x y v u Q I rx ry (by
  unfold rIxS' at q
  split at q
  ·obtain ⟨ys,z,h1,h2,q⟩:=q
   exact ⟨_,ys,_,z,rfl,rfl,h1,h2,q⟩
  ·exact q.elim) hs) ha hb hs
end
theorem SqL.same {K:PySem.W.Frag} {H H':Hp} {a:Addr} {xs:List V} (h:SqL K H a xs) (s:Same H H'):SqL K H' a xs:=s.seq h
theorem bs_01:("01" : Str)=bs [false,true]:=by decide +kernel
theorem g01 {H:Hp} {r:Int} (h0:0<=r) (h1:r < 2):getV H (.str ("01" : Str)) r=some (.str (bs [decide (r=1)])):=by
 rw [bs_01]
 refine gs (le_line (Nat.le_of_ble_eq_true rfl)) h0 ?_
 have:r=0\/r=1:=by omega
 rcases this with rfl | rfl<;>rfl
theorem Off.upd_new {F:Addr->Prop} {H H':Hp} {p:Addr} {o:HO} (h:Off F H H') (hp:H' p=none):Off F H (upd H' p o):=h.trans (Same.upd hp).off
theorem Off.upd_own {F:Addr->Prop} {H H':Hp} {p:Addr} {o:HO} (h:Off F H H') (hp:H p=none):Off F H (upd H' p o):=fun b u e n=>by
 rw [upd_ne (ne_of_none e hp)]
 exact h b u e n
theorem Deck.own {F:Addr->Prop} {H:Hp} {a p:Addr} {o:HO} (h:Deck F H a) (hp:¬ F p):Deck F (upd H p o) a:=by
 obtain ⟨q,qs,n,h1,h2,h3,h4,h5,h6⟩:=h.ex
 refine ⟨q,qs,n,?_,?_,h3,h4,fun x hx=>?_,h6⟩
 ·rw [upd_ne (fun z=>hp ((h6 p).mpr (.inl z.symm)))];exact h1
 ·rw [upd_ne (fun z=>hp ((h6 p).mpr (.inr (.inl z.symm))))];exact h2
 ·obtain ⟨c,f,m,e⟩:=h5 x hx
  have np:x≠p:=fun z=>hp ((h6 p).mpr (.inr (.inr (by rw [<-z];exact hx))))
  exact ⟨c,f,m,by rw [upd_ne np];exact e⟩
end L2
end
section
namespace L2
open PySem PySem.Spec PyProof.Rows
theorem seq_by {t u:TS} {D:Ends} {σ:St} {H:Hp} (M:St->Hp->Prop) (fin:∀ σ' H',M σ' H'->u D σ' H') (h:(∀ σ' H',M σ' H'->u D σ' H')->t { D with nx:=u D } σ H):tSeq t u D σ H:=h fin
def WS (ws:List (List Bool)):HO:=.lst (ws.map fun w=>V.str (bs w))
theorem ws_len {ws:List (List Bool)}:(ws.map fun w=>V.str (bs w)).length=ws.length:=by simp
theorem ws_get {ws:List (List Bool)} {i:Nat} {w:List Bool} (h:ws[i]? = some w):(ws.map fun w=>V.str (bs w))[i]? = some (.str (bs w)):=by rw [List.getElem?_map,h];rfl
end L2
namespace L2
open PySem PySem.Spec PyProof.Rows
end L2
end
section
namespace L2
open PySem PySem.Spec PyProof.Rows
structure Sub (F:Addr->Prop) (st:Addr) (G H:Hp):Prop where
 s:Same G H
 n:G st=none
 f:∀ b,F b->G b=none
theorem ne_F {F:Addr->Prop} {b p:Addr} (hb:F b) (hp:¬ F p):b≠p:=fun z=>hp (by rw [<-z];exact hb)
section
variable {F:Addr->Prop} {st p:Addr} {G H H':Hp} {o:HO}
theorem Sub.off (h:Sub F st G H) (k:Off F H H'):Sub F st G H':=⟨fun b u e=>k b u (h.s b u e) (fun z=>by rw [h.f b z] at e;cases e),h.n,h.f⟩
theorem Sub.more (h:Sub F st G H) (hp:H p=none):Sub F st G (upd H p o):=⟨h.s.trans (Same.upd hp),h.n,h.f⟩
theorem Sub.write (h:Sub F st G H):Sub F st G (upd H st o):=⟨fun b u e=>by rw [upd_ne (ne_of_none e h.n)];exact h.s b u e,h.n,h.f⟩
theorem Sub.new (h:Sub F st G H) (hp:H p=none) (hst:st≠p) (hF:¬ F p):Sub F st (upd G p o) (upd H p o):=by
 refine ⟨fun b u e=>?_,by rw [upd_ne hst];exact h.n,fun b hb=>by rw [upd_ne (ne_F hb hF)];exact h.f b hb⟩
 by_cases hb:b=p
 ·subst hb
  rw [upd_same] at e ⊢
  exact e
 ·rw [upd_ne hb] at e ⊢
  exact h.s b u e
theorem Sub.free (h:Sub F st G H) (hp:H p=none):G p=none:=h.s.free hp
theorem Sub.grow (h:Sub F st G H) (hp:H p=none):Same G (upd G p o):=Same.upd (h.free hp)
theorem Off.free (h:Off F H H') {a:Addr} (d:Deck F H' a) (hp:H' p=none):H p=none:=by
 cases e:H p with
 | none=>rfl
 | some u=>
  by_cases hf:F p
  ·obtain ⟨o',e'⟩:=d.there hf
   rw [hp] at e';cases e'
  ·rw [h _ _ e hf] at hp;cases hp
end
end L2
end
section
namespace L2
open PySem PySem.Spec PyProof.Rows
theorem DVs.of_get {H:Hp}:∀ {xs:List V} {ds:List PyData},xs.length=ds.length->(∀ (i:Nat) (d:PyData),ds[i]? = some d->∃ x,xs[i]? = some x/\DV H x d)->DVs H xs ds
 | [],[],_,_=>.nil
 | [],_ :: _,h,_=>by simp at h
 | _ :: _,[],h,_=>by simp at h
 | x :: xs,d :: ds,h,k=>by
  obtain ⟨x',e,hd⟩:=k 0 d rfl
  have:x=x':=Option.some.inj e
  subst this
  exact .cons hd (DVs.of_get (by simpa using h) fun i d' h'=>by
   obtain ⟨y,e1,e2⟩:=k (i+1) d' (by simpa using h')
   exact ⟨y,by simpa using e1,e2⟩)
def gTupN (n:Nat) (t:TGs):TG:=fun v σ H Q=>match v with
 | .ref a=>∃ xs,(H a=some (.tup xs)\/H a=some (.lst xs))/\xs.length=n/\t xs σ H Q
 | _=>False
theorem g_tupN {X:Cx} {pos:Pos} {es:List Expr} {k:Nat} {t:TGs} (h:PGs X es t) (hc:X.calm=true:=by kernel_rfl)
  (hst:(assignEach es X.env).findIdx? (·.1)=none:=by kernel_rfl) (hn:(assignEach es X.env).length=es.length:=by kernel_rfl):PG X (.Tuple es k pos) (gTupN es.length t):=by
 intro pins s σ H v u Q I r hw
 exact g_tupL h hc hst pins s σ H v u Q I r (by
  unfold gTupN at hw
  unfold gTupL
  split at hw
  ·exact hn ▸ hw
  ·exact hw.elim)
end L2
namespace Om
section
variable {ord:List Nat} {rows:Rows} {k n:Nat}
end
end Om
end
section
namespace L2
open PySem PySem.Spec PyProof.Rows
theorem Deck.not_tup {F:Addr->Prop} {H:Hp} {a b:Addr} {xs:List V} (h:Deck F H a) (hb:H b=some (.tup xs)):¬ F b:=fun z=>by
 obtain ⟨p,qs,n,h1,h2,h3,h4,h5,h6⟩:=h.ex
 rcases (h6 b).mp z with rfl | rfl | z
 ·rw [h1] at hb;cases hb
 ·rw [h2] at hb;cases hb
 ·obtain ⟨c,f,m,e⟩:=h5 b z
  rw [e] at hb;cases hb
end L2
end
section
namespace L2
open PySem PySem.Spec PyProof.Rows
section
variable {X:Cx} {pins:List (Addr×Obj)} {σ:List (Option V)} {H:Hp} {s:Shared} {h':Heap}
theorem Inv.turnedL {t':Nat} {ch:List Addr} (I:Inv X pins σ H s) (hch:∀ b∈ch,FpOk X pins H b) (k:∀ b o,b ∉ ch->s.heap.get? b=some o->h'.get? b=some o):Inv X pins σ H { s with heap:=h',toks:=t' }:=by
 have nit:∀ b u,H b=some u->b ∉ ch:=fun b u e z=>by rw [(hch b z).1] at e;cases e
 refine I.step (g':=s.gens) (d':=s.drawn) (ch:=ch) (fun b hb=>?_) (fun b o _ _ hc e _=>k b o hc e) (fun b o _ _ hc e _=>⟨o.slots,k b o hc e⟩) (fun _ _ _ _ n=>n)
  (fun b o hc e=>⟨o,k b o hc e⟩) (fun _ _ e=>e) (fun _ _ _ e=>e) (fun b ps e=>⟨#[],by rw [e];simp⟩) (fun m hm=>?_) (fun b u e=>?_) I.bare
 ·obtain ⟨_,q1,_,q3,q4,q5⟩:=hch b hb
  exact ⟨q3,q1,q4,q5⟩
 ·obtain ⟨o,es,ep,ho,r⟩:=hm
  exact ⟨o,es,ep,k _ o (fun z=>(hch _ z).2.1 rfl) ho,r⟩
 ·refine (I.hok b u e).stay (fun c v hc q=>k c v ?_ q) (fun _ q=>q) fun _ _ q=>q
  rcases hc with z | z
  ·rw [z];exact nit b u e
  ·exact nit c _ z
theorem Inv.turnLaid {t':Nat} {ch:List Addr} {a:Addr} {o':HO} (I:Inv X pins σ H s) (hch:∀ b∈ch,FpOk X pins H b) (k:∀ b o,b ∉ ch->s.heap.get? b=some o->h'.get? b=some o)
  (hp:s.heap.objs.size<=a) (new:ObjOk X.prog X.w (upd H a o') h' a o'):Inv X pins σ (upd H a o') { s with heap:=h',toks:=t' }:=by
 have nit:∀ b u,H b=some u->b ∉ ch:=fun b u e z=>by rw [(hch b z).1] at e;cases e
 have ha:H a=none:=I.hok.fresh hp
 have na:∀ b o,s.heap.get? b=some o->b≠a:=fun b o e z=>absurd (Nat.lt_of_lt_of_le (Heap.lt_size e) hp) (by rw [z];exact Nat.lt_irrefl _)
 refine I.step (g':=s.gens) (d':=s.drawn) (ch:=ch) (fun b hb=>?_) (fun b o _ _ hc e _=>k b o hc e) (fun b o _ _ hc e _=>⟨o.slots,k b o hc e⟩) (fun b o _ e n=>by rw [upd_ne (na b o e)];exact n)
  (fun b o hc e=>⟨o,k b o hc e⟩) (fun b xs e=>by rw [upd_ne (ne_of_none e ha)];exact e) (fun b o u e=>by rw [upd_ne (ne_of_none e ha)];exact e) (fun b ps e=>⟨#[],by rw [upd_ne (ne_of_none e ha),e];simp⟩) (fun m hm=>?_) (fun b u e=>?_) I.bare
 ·obtain ⟨_,q1,_,q3,q4,q5⟩:=hch b hb
  exact ⟨q3,q1,q4,q5⟩
 ·obtain ⟨o,es,ep,ho,r⟩:=hm
  exact ⟨o,es,ep,k _ o (fun z=>(hch _ z).2.1 rfl) ho,r⟩
 ·by_cases hb:b=a
  ·subst hb
   rw [upd_same] at e
   cases e
   exact new
  ·rw [upd_ne hb] at e
   refine (I.hok b u e).stay (fun c v hc q=>k c v ?_ q) (fun c q=>by rw [upd_ne (ne_of_none q ha)];exact q) fun c xs q=>by rw [upd_ne (ne_of_none q ha)];exact q
   rcases hc with z | z
   ·rw [z];exact nit b u e
   ·exact nit c _ z
end
def Itz (K:PySem.W.Frag) (a b:Addr):It:=
 ⟨fun i H=>∃ xs ys x y,SqL K H a xs/\SqL K H b ys/\xs[i]? = some x/\ys[i]? = some y,fun i H x H'=>∃ t y z,(∀ xs,SqL K H a xs->xs[i]? = some y)/\(∀ xs,SqL K H b xs->xs[i]? = some z)/\H t=none/\x = .ref t/\H'=upd H t (.tup [y,z]),
  fun i H=>∃ xs ys,SqL K H a xs/\SqL K H b ys/\(xs.length<=i\/ys.length<=i)⟩
theorem turn_zip {P:Program} {w:World} {K:PySem.W.Frag} {es:List Expr} {k:Nat} {pos:Pos} (a b z TI TO i1 i2:Addr) (D:ZipApart z TI TO i1 i2 a b):Turn P w K (.Tuple es k pos) (Itz K a b) [z,TI,TO,i1,i2] z
  (fun i h=>IsZip h z TI TO .none/\IsPair h TI (.ref i1) (.ref i2)/\(∃ c d,IsPair h TO c d)/\h.IsListIter i1 a i/\h.IsListIter i2 b i) where
 mem:=by simp
 obj:=fun i h st c hc=>by
  obtain ⟨hz,hTI,⟨_,_,hTO⟩,⟨o1,ho1,c1,d1⟩,⟨o2,ho2,c2,d2⟩⟩:=st
  have hb':c=z\/c=TI\/c=TO\/c=i1\/c=i2:=by simpa using hc
  rcases hb' with rfl | rfl | rfl | rfl | rfl
  ·exact ⟨_,hz,fun v z=>by cases z⟩
  ·exact ⟨_,hTI,fun v z=>by cases z⟩
  ·exact ⟨_,hTO,fun v z=>by cases z⟩
  ·exact ⟨o1,ho1,fun v z=>by rw [d1] at z;cases z⟩
  ·exact ⟨o2,ho2,fun v z=>by rw [d2] at z;cases z⟩
 keep:=fun i h h' st k=>⟨k z (by simp) _ st.1,k TI (by simp) _ st.2.1,let ⟨c,d,e⟩:=st.2.2.1;⟨c,d,k TO (by simp) _ e⟩,st.2.2.2.1.at fun o e=>k i1 (by simp) o e,st.2.2.2.2.at fun o e=>k i2 (by simp) o e⟩
 item:=by
  intro X hP hw hK hc i pins s σ H E I hf st hg
  subst hP hw hK
  obtain ⟨xs,ys,x,y,hq1,hq2,hx,hy⟩:=hg
  obtain ⟨its1,rv1,p1,hz1⟩:=I.list hq1
  obtain ⟨its2,rv2,p2,hz2⟩:=I.list hq2
  obtain ⟨u1,hu1,ru1⟩:=rv1.get hx
  obtain ⟨u2,hu2,ru2⟩:=rv2.get hy
  obtain ⟨hz,hTI,⟨c0,d0,hTO⟩,h1,h2⟩:=st
  have zlt:z < s.heap.objs.size:=Heap.lt_size hz
  have lts:∀ c∈[z,TI,TO,i1,i2],c < s.heap.objs.size:=fun c hc'=>by
   have hb':c=z\/c=TI\/c=TO\/c=i1\/c=i2:=by simpa using hc'
   rcases hb' with rfl | rfl | rfl | rfl | rfl
   ·exact Heap.lt_size hz
   ·exact Heap.lt_size hTI
   ·exact Heap.lt_size hTO
   ·obtain ⟨_,q,_⟩:=h1;exact Heap.lt_size q
   ·obtain ⟨_,q,_⟩:=h2;exact Heap.lt_size q
  have fT:=I.fresh
  refine wpAny_pyNext_zip_item D hz hTI hTO h1 h2 p1.isList p2.isList (x:=u1) (y:=u2) (by simpa using hu1) (by simpa using hu2) fun h' hz' hTO' h1' h2' hT hsz hk=>⟨_,rfl,?_⟩
  refine wpAny_letOwnedTupleGo_zip hz' fun h3 hz3 hs3=>?_
  have hs3:Heap.SameBut z h' h3:=hs3
  have up:∀ b o,b ∉ [z,TI,TO,i1,i2]->s.heap.get? b=some o->h3.get? b=some o:=fun b o hb ee=>by
   have n1:b≠z:=fun q=>hb (by simp [q])
   exact (hs3.2 b n1).trans (hk b o n1 (fun q=>hb (by simp [q])) (fun q=>hb (by simp [q])) (fun q=>hb (by simp [q])) ee)
  have hT2:h3.get? s.heap.objs.size=some { cls:=.type "tuple",data:=.seq #[u1,u2] }:=(hs3.2 _ (Nat.ne_of_gt zlt)).trans hT
  refine ⟨.ref s.heap.objs.size,upd H s.heap.objs.size (.tup [x,y]),?_,rfl,⟨_,x,y,fun zs hz'=>by rw [I.list_inj hz' hq1];exact hx,fun zs hz'=>by rw [I.list_inj hz' hq2];exact hy,fT,rfl,rfl⟩,?_,fun b hb=>?_⟩
  ·exact I.turnLaid (t':=s.toks) hf up (Nat.le_refl _) ⟨Nat.le_of_ble_eq_true rfl,[u1,u2],.cons ru1 (.cons ru2 .nil),⟨_,hT2,rfl,0,rfl⟩⟩
  ·refine ⟨hz3,(hs3.2 _ D.TIz).trans (hk _ _ D.TIz D.TITO D.TIi1 D.TIi2 hTI),⟨_,_,(hs3.2 _ D.TOz).trans hTO'⟩,h1'.at fun o q=>(hs3.2 _ D.i1z).trans q,h2'.at fun o q=>(hs3.2 _ D.i2z).trans q⟩
  ·rw [upd_ne (Nat.ne_of_lt (lts b hb))];exact (hf _ hb).1
 done:=by
  intro X hP hw hK hc i pins s σ H E I hf st hg
  subst hP hw hK
  obtain ⟨xs,ys,hq1,hq2,hend⟩:=hg
  obtain ⟨its1,rv1,p1,hz1⟩:=I.list hq1
  obtain ⟨its2,rv2,p2,hz2⟩:=I.list hq2
  have l1:=rv1.length
  have l2:=rv2.length
  obtain ⟨hz,hTI,⟨c0,d0,hTO⟩,h1,h2⟩:=st
  refine wpAny_pyNext_zip_end (I.ok.hd hc) D hz hTI hTO h1 h2 p1.isList p2.isList ?_ fun h' eb=>⟨rfl,I.turnedL (t':=s.toks) hf fun b o hb e'=>eb b o (fun q=>hb (by simp [q])) (fun q=>hb (by simp [q])) (fun q=>hb (by simp [q])) (fun q=>hb (by simp [q])) e'⟩
  rcases hend with q | q
  ·exact .inl (by simp;omega)
  ·exact .inr (by simp;omega)
 self:=fun _ _ _ _ _ st h=>wpAny_pyIter_zip st.1 h
section
variable {X:Cx} {p pos tpos:Pos} {a b:Expr} {es:List Expr} {tk:Nat}
structure ItPr (J:It) (n:Nat) (row:Nat->List V) (ok:Hp->Prop):Prop where
 stop:∀ H,ok H->J.stop n H
 go:∀ i H,ok H->i < n->J.go i H
 yld:∀ i H x H',ok H->i < n->J.yld i H x H'->∃ t,H t=none/\x = .ref t/\H'=upd H t (.tup (row i))
theorem for_pr {J:It} {n:Nat} {row:Nat->List V} {ok:Hp->Prop} {g:TG} {tb:TS} {D:Ends} {σ:St} {H:Hp} (IO:ItPr J n row ok) (Pv:Nat->St->Hp->Prop) (h0:Pv 0 σ H) (hl:∀ i σ H,i<=n->Pv i σ H->ok H)
  (hs:∀ i t σ H,i < n->Pv i σ H->H t=none->g (.ref t) σ (upd H t (.tup (row i))) fun σ2 H2=>tb { D with nx:=Pv (i+1),ct:=Pv (i+1),bk:=D.nx } σ2 H2) (hd:∀ σ H,Pv n σ H->D.nx σ H) :
  ∃ W:Nat->Nat->St->Hp->Prop,(∃ m,W 0 m σ H)/\∀ i m σ H,W i m σ H →
   (J.stop i H/\D.nx σ H)\/(J.go i H/\∃ N:St->Hp->Prop,(∀ σ' H',N σ' H'->∃ m',m' < m/\W (i+1) m' σ' H')/\∀ x H',J.yld i H x H'->g x σ H' fun σ2 H2=>tb { D with nx:=N,ct:=N,bk:=D.nx } σ2 H2):=by
 refine ⟨fun i m σ H=>m=n - i/\i<=n/\Pv i σ H,⟨n,by simp,Nat.zero_le _,h0⟩,?_⟩
 rintro i m σ H ⟨rfl,hi,p⟩
 have q:=hl i σ H hi p
 by_cases hlt:i < n
 ·refine .inr ⟨IO.go i H q hlt,Pv (i+1),fun σ' H' p'=>⟨n - (i+1),by omega,rfl,hlt,p'⟩,fun x H' y=>?_⟩
  obtain ⟨t,ht,rfl,rfl⟩:=IO.yld i H x H' q hlt y
  exact hs i t σ _ hlt p ht
 ·have e:i=n:=by omega
  subst e
  exact .inl ⟨IO.stop H q,hd σ H p⟩
theorem it_zipP (K:PySem.W.Frag) (a b:Addr) (xs ys:List V) (hl:xs.length=ys.length):ItPr (Itz K a b) xs.length (fun i=>[xs.getD i .non,ys.getD i .non]) fun H=>H a=some (.lst xs)/\H b=some (.lst ys):=
 ⟨fun H h=>⟨xs,ys,SqL.of h.1,SqL.of h.2,.inl (Nat.le_refl _)⟩,fun i H h hi=>⟨xs,ys,xs[i],ys[i]'(by omega),SqL.of h.1,SqL.of h.2,by simp [hi],by simp [<-hl,hi]⟩,fun i H x H' h hi y=>by
  obtain ⟨t,y1,y2,hq1,hq2,ht,e1,e2⟩:=y
  have e3:xs.getD i .non=y1:=by rw [List.getD_eq_getElem?_getD,hq1 xs (SqL.of h.1)];rfl
  have e4:ys.getD i .non=y2:=by rw [List.getD_eq_getElem?_getD,hq2 ys (SqL.of h.2)];rfl
  exact ⟨t,ht,e1,by rw [e2,e3,e4]⟩⟩
end
end L2
end
section
namespace L2
open PySem PySem.Spec PyProof.Rows
section
variable {X:Cx} {a b c d e o:Expr} {es:List Expr} {pos apos:Pos} {ta tb tc td te to:TE}
def tChainT (r r':R2) (ta tb tc:TE):TT:=fun σ H Q=>ta σ H fun x H1=>tb σ H1 fun y H2=>r x y H2 fun z H3=>match z with
 | .bl k=>if k=true then tc σ H3 fun w' H4=>r' y w' H4 fun z' H5=>match z' with
   | .bl k'=>Q k' H5
   | _=>False
  else Q false H3
 | _=>False
def rIsU:R2:=fun x y H Q=>match y with
 | .non=>Q (.bl (decide (x = .non))) H
 | .bl b=>match x with
  | .bl a=>Q (.bl (a == b)) H
  | _=>False
 | _=>False
theorem op_isU:OpR X (compareOp .Is) rIsU:=(op_isN.or op_isB).of fun x y H Q q=>by
 unfold rIsU at q
 split at q
 ·exact .inl ⟨rfl,q⟩
 ·split at q
  ·exact .inr q
  ·exact q.elim
 ·exact q.elim
def rIsNotU:R2:=fun x y H Q=>match y with
 | .non=>Q (.bl (!decide (x = .non))) H
 | _=>False
theorem op_isNotU:OpR X (compareOp .IsNot) rIsNotU:=op_notN.of fun x y H Q q=>by
 unfold rIsNotU at q
 split at q
 ·exact ⟨rfl,q⟩
 ·exact q.elim
theorem mt_count:MtM X "str.count" (fun x vs H Q=>match x,vs with
  | .str z,[.str y]=>Q (.int (Txt.count z y)) H
  | _,_=>False):=by
 intro pins s σ H x vs v us Q I rx rv h
 split at h
 ·obtain ⟨t,rfl⟩:=rx
  obtain ⟨u,rfl,t',rfl⟩:=rv.one
  exact SC.count ⟨.int _,H,I.tok _,⟨_,rfl⟩,h⟩
 ·exact h.elim
def rCount:V->List V->Hp->VK->Prop:=fun x vs H Q=>match x,vs with
  | .str z,[.str y]=>Q (.int (Txt.count z y)) H
  | _,_=>False
theorem m_count {cpos:Pos} {t:TA} (ho:PE X o to) (ha:PA X (e :: es) t)
  (hbase:attributeBase o "count" X.env (eval o X.env)=eval o X.env:=by kernel_rfl)
  (hfew:((backTo cpos (starEach (e :: es) X.env)).all (fun x=>!x.1) && (backToKw cpos (keywordEach [] X.env)).all (fun x=>x.1.isSome)
   && decide ((e :: es).length+([]:List Keyword).length+(if ([]:List Keyword).isEmpty then 0 else 1) < 30))=true:=by kernel_rfl)
  (hline:(apos.endLine == cpos.line)=true:=by kernel_rfl) (hs:starEach (e :: es) X.env=(false,eval e X.env) :: starEach es X.env:=by kernel_rfl) (hplain:(backTo cpos (starEach es X.env)).any (·.1)=false:=by kernel_rfl) :
  PE X (.Call (.Attribute o "count" apos) (e :: es) [] cpos) (tMt "str" rCount to t):=pe_mt PySem.F.plainAttrs_str PySem.F.slot_str_count PySem.F.type_str_count mt_count ho ha hbase hfew hline hs hplain
end
abbrev At (a:Addr):Addr->Prop:=fun b=>b=a
def Sto (H:Hp) (a:Addr):Prop:=∃ g b c:Int,H a=some (.lst [.int g,.int b,.int c])
section
variable {H H' G:Hp} {a p:Addr} {o:HO}
theorem Sto.same (h:Sto H a) (k:Same H H'):Sto H' a:=let ⟨g,b,c,e⟩:=h;⟨g,b,c,k _ _ e⟩
theorem Sto.own (h:Sto H a) (hp:p≠a):Sto (upd H p o) a:=let ⟨g,b,c,e⟩:=h;⟨g,b,c,by rw [upd_ne (Ne.symm hp)];exact e⟩
theorem Sto.ne (h:Sto H a) (hp:H p=none):p≠a:=fun z=>by obtain ⟨g,b,c,e⟩:=h;rw [<-z,hp] at e;cases e
theorem Sto.new (h:Sto H a) (hp:H p=none):Sto (upd H p o) a:=h.own (h.ne hp)
theorem Off.freeS (h:Off (At a) H H') (d:Sto H' a) (hp:H' p=none):H p=none:=by
 cases e:H p with
 | none=>rfl
 | some u=>
  have hf:¬ At a p:=d.ne hp
  rw [h _ _ e hf] at hp;cases hp
theorem Same.offS (h:Same G H) (hG:G a=none) (k:Off (At a) H H'):Same G H':=fun b u e=>k b u (h b u e) (ne_of_none e hG)
theorem Same.own (h:Same G H) (hG:G p=none):Same G (L2.upd H p o):=fun b u e=>by rw [upd_ne (ne_of_none e hG)];exact h b u e
theorem Sto.tup {xs:List V} (h:Sto H a) (hp:H p=some (.tup xs)):p≠a:=fun z=>by obtain ⟨g,b,c,e⟩:=h;rw [<-z,hp] at e;cases e
end
def spTake:Sp:=fun vs H Q _=>match vs with
 | [.ref a,.int many]=>Sto H a/\0 < many/\many < 1073741824/\∀ r H',0<=r->r < many->Sto H' a->Off (At a) H H'->Q (.int r) H'
 | _=>False
def spWordN:Sp:=fun vs H Q _=>match vs with
 | [.int _,.int n]=>0<=n/\n<=1000/\∀ w:List Bool,(w.length:Int)=n->Q (.str (bs w)) H
 | _=>False
end L2
end
section
namespace L2
open PySem PySem.Spec PyProof.Rows
structure Gh (G H0 H:Hp) (a:Addr):Prop where
 s:Same G H
 ga:G a=none
 st:Sto H a
 o:Off (At a) H0 H
section
variable {G H0 H H':Hp} {a p:Addr} {o:HO}
theorem Gh.take (h:Gh G H0 H a) (d:Sto H' a) (k:Off (At a) H H'):Gh G H0 H' a:=⟨h.s.offS h.ga k,h.ga,d,h.o.trans k⟩
theorem Gh.new (h:Gh G H0 H a) (hp:H p=none):Gh G H0 (upd H p o) a:=h.take (h.st.new hp) (Same.upd hp).off
theorem Gh.same (h:Gh G H0 H a) (k:Same H H'):Gh G H0 H' a:=h.take (h.st.same k) k.off
theorem Gh.freeG (h:Gh G H0 H a) (hp:H p=none):G p=none:=h.s.free hp
theorem Gh.free0 (h:Gh G H0 H a) (hp:H p=none):H0 p=none:=h.o.freeS h.st hp
theorem Gh.ne (h:Gh G H0 H a) (hp:H p=none):p≠a:=h.st.ne hp
theorem Gh.own (h:Gh G H0 H a) (hG:G p=none) (h0:H0 p=none) (hp:p≠a):Gh G H0 (upd H p o) a:=⟨h.s.own hG,h.ga,h.st.own hp,h.o.upd_own h0⟩
theorem Gh.grow (h:Gh G H0 H a) (hp:H p=some o) (hn:p≠a):Gh (upd G p o) H0 H a:=by
 refine ⟨fun b u e=>?_,by rw [upd_ne (Ne.symm hn)];exact h.ga,h.st,h.o⟩
 by_cases hb:b=p
 ·subst hb
  rw [upd_same] at e
  rw [hp];exact e
 ·rw [upd_ne hb] at e
  exact h.s b u e
theorem Gh.start (h:Sto H a):Gh (fun _=>none) H H a:=⟨fun _ _ e=>(by cases e),rfl,h,Off.refl⟩
end
theorem upd_none {G:Hp} {p q:Addr} {o:HO} (h:G q=none) (hn:q≠p):upd G p o q=none:=by rw [upd_ne hn];exact h
theorem upd_some {G:Hp} {p q:Addr} {o u:HO} (h:G q=some u) (hn:q≠p):upd G p o q=some u:=by rw [upd_ne hn];exact h
end L2
end
section
namespace L2
open PySem PySem.Spec PyProof.Rows
theorem DVs.take {H:Hp}:∀ {xs:List V} {ds:List PyData} (n:Nat),DVs H xs ds->DVs H (xs.take n) (ds.take n)
 | _,_,0,_=>.nil
 | _,_,_+1,.nil=>.nil
 | _,_,n+1,.cons h r=>.cons h (DVs.take n r)
section
variable {G H0 H:Hp} {L p:Addr} {vs:List V} {o:HO}
end
end L2
end
section
namespace L2
open PySem PySem.Spec PyProof.Rows
theorem DVs.imp {H H':Hp}:∀ {xs:List V} {ds:List PyData},(∀ x d,d∈ds->DV H x d->DV H' x d)->DVs H xs ds->DVs H' xs ds
 | _,_,_,.nil=>.nil
 | _,_,f,.cons h r=>.cons (f _ _ List.mem_cons_self h) (DVs.imp (fun x d hd=>f x d (List.mem_cons_of_mem _ hd)) r)
section
variable {H H':Hp} {a l:Addr}
end
section
variable {G H H2 H3:Hp} {a T U L p:Addr} {xs ys:List Int} {vs:List V} {ps:List (Nat×Nat)} {m:Nat} {o:HO}
end
end L2
end
section
namespace Om
end Om
namespace L2
open PySem PySem.Spec PyProof.Rows
end L2
end
section
namespace L2
open PySem PySem.Spec PyProof.Rows
theorem ixN_in {n:Nat} {r:Int} (h0:0<=r) (h1:r < n):ixN n r=some r.toNat:=by unfold ixN;rw [if_pos h0,if_pos h1]
section
variable {G H0 H:Hp} {p:Addr}
end
section
variable {G H H':Hp} {a T U p:Addr} {xs ys:List Int} {m:Nat} {o:HO}
end
end L2
end
section
namespace L2
open PySem
def DefIn (K:PySem.W.Frag) (x:Str) (st:Stmt):Prop:=∃ (f:Addr) (oc:Value) (od an:Option Addr) (osl:Array (Option Value)) (kV dc pm cd ct:Value),PySem.W.nsIn K mainGlobals x=some (some (.ref f)) ∧
 K.lookup f=some ⟨oc,od,.func (PySem.W.fnOf x x (defArgs st) (defBody st) (defScope st) .none kV dc pm an cd ct),osl⟩/\PySem.W.codeIn K cd x=true/\PySem.W.keepIn K (.ref f)=true
theorem DefIn.mk {K:PySem.W.Frag} {x:Str} {st:Stmt} {f:Addr} {oc:Value} {od an:Option Addr} {osl:Array (Option Value)} {kV dc pm cd ct:Value} (a:PySem.W.nsIn K mainGlobals x=some (some (.ref f)))
  (l:K.lookup f=some ⟨oc,od,.func (PySem.W.fnOf x x (defArgs st) (defBody st) (defScope st) .none kV dc pm an cd ct),osl⟩) (c:PySem.W.codeIn K cd x=true) (k:PySem.W.keepIn K (.ref f)=true):DefIn K x st:=⟨f,oc,od,an,osl,kV,dc,pm,cd,ct,a,l,c,k⟩
theorem DefIn.fnX {K:PySem.W.Frag} {h:Heap} {mg:Str->Option Value} {x:Str} {st:Stmt} {ps:List Str} (D:DefIn K x st) (X:K.In h) (G:h.Ns mainGlobals mg)
  (hb:∀ (kV doc pm:Value) (an:Option Addr) (cdv ct:Value) (us:List Value),us.length=ps.length->bindArgs (PySem.W.fnOf x x (defArgs st) (defBody st) (defScope st) .none kV doc pm an cdv ct) ⟨us,[]⟩=pure (ps.zip us)):FnX K mg x st ps:=by
 obtain ⟨f,oc,od,an,osl,kV,dc,pm,cd,ct,h1,h2,h3,h4⟩:=D
 have F:=fun_mk (st:=st) h2 h3 h4
 exact ⟨f,_,F,PySem.W.mg_of X G h1,F.binds hb⟩
theorem tx_mk {K:PySem.W.Frag} {x z:Str} {v:Value} {tk:Tok} (h:PySem.W.nsIn K mainGlobals x=some (some v)) (e:v = .str z tk):∃ tk,PySem.W.nsIn K mainGlobals x=some (some (.str z tk)):=⟨tk,by rw [h,e]⟩
end L2
end
section
namespace L2
open PySem PySem.Spec PyProof.Rows
def strI (i:Int):Str:=Str.ofString (toString i)
section
variable {X:Cx} {p pos:Pos} {e:Expr} {es:List Expr} {t:TA}
def rStrOf:List V->Hp->VK->Prop:=fun vs H Q=>match vs with
 | [.int i]=>i.natAbs.log2 < 1920/\Q (.str (strI i)) H
 | _=>False
theorem call_strU:CallR X (.type "str") rStrOf:=call_str_int.of fun xs H Q q=>by
 unfold rStrOf at q
 split at q
 ·exact ⟨_,rfl,q⟩
 ·exact q.elim
theorem fn_str {mg':Str->Option Value} (hm:mg' "str" = none) (hX:X.mg=mg') (ha:PA X (e :: es) t) (hg:gB X "str" = true:=by kernel_rfl) (he:starEach (e :: es) X.env=(false,eval e X.env) :: starEach es X.env:=by kernel_rfl) (hpl:(backTo pos (starEach es X.env)).any (·.1)=false:=by kernel_rfl) :
  PE X (.Call (.Name "str" p) (e :: es) [] pos) (tCB rStrOf t):=pe_callTy call_strU (gl_of hg) (by rw [hX];exact hm) PyProof.Rows.boot_str ha (he:=he) (hpl:=hpl)
end
end L2
end
section
namespace L2
open PySem PySem.Spec PyProof.Rows
theorem app_len (a b:Str):(a++b).length=a.length+b.length:=by
 show (a.cps++b.cps).size=_
 simp;rfl
theorem join_le (sep:Str):∀ ts:List Str,(Str.join sep ts).length<=(ts.map (·.length)).sum+ts.length * sep.length
 | []=>Nat.zero_le _
 | [x]=>by show x.length<=_;simp
 | x :: y :: r=>by
  have ih:=join_le sep (y :: r)
  rw [show Str.join sep (x :: y :: r)=x++sep++Str.join sep (y :: r) from rfl,app_len,app_len]
  simp only [List.map_cons,List.sum_cons,List.length_cons,Nat.succ_mul] at ih ⊢
  omega
theorem joinT_le (sep:Str) (ts:List Str):(Txt.join sep ts).length<=(ts.map (·.length)).sum+ts.length * sep.length:=by
 rw [eq_of_beq (join_plain_closes _ _)]
 exact join_le sep ts
theorem sum_le {B:Nat}:∀ {ts:List Str},(∀ t∈ts,t.length<=B)->(ts.map (·.length)).sum<=ts.length * B
 | [],_=>Nat.zero_le _
 | t :: ts,h=>by
  have ih:=sum_le (B:=B) (ts:=ts) fun x hx=>h x (List.mem_cons_of_mem _ hx)
  have h0:=h t List.mem_cons_self
  simp only [List.map_cons,List.sum_cons,List.length_cons,Nat.succ_mul]
  omega
theorem strI_len {i:Nat} (h:i < 10):(strI (i:Int)).length=1:=by
 have:i=0\/i=1\/i=2\/i=3\/i=4\/i=5\/i=6\/i=7\/i=8\/i=9:=by omega
 rcases this with rfl | rfl | rfl | rfl | rfl | rfl | rfl | rfl | rfl | rfl<;>decide +kernel
theorem log_small {i:Nat} (h:i < 10):((i:Int)).natAbs.log2 < 1920:=by
 have:i=0\/i=1\/i=2\/i=3\/i=4\/i=5\/i=6\/i=7\/i=8\/i=9:=by omega
 rcases this with rfl | rfl | rfl | rfl | rfl | rfl | rfl | rfl | rfl | rfl<;>decide +kernel
def rowS (r:List Bool×Nat):Str:=bs r.1++(">" : Str)++strI (r.2:Nat)
def stateS (st:List (List Bool×Nat)):Str:=Txt.join ("," : Str) (st.map rowS)
def showS (k n:Nat) (rows:Om.Rows):Str:=Txt.join (" " : Str) (strI (k:Nat) :: strI (n:Nat) :: rows.map stateS)
theorem rowS_len {r:List Bool×Nat} (h1:r.1.length<=6) (h2:r.2 < 10):(rowS r).length<=8:=by
 unfold rowS
 rw [app_len,app_len,bs_len,strI_len h2]
 have:(">" : Str).length=1:=by decide +kernel
 omega
theorem stateS_len {st:List (List Bool×Nat)} (h:∀ r∈st,r.1.length<=6/\r.2 < 10) (hl:st.length<=8):(stateS st).length<=72:=by
 unfold stateS
 refine Nat.le_trans (joinT_le _ _) ?_
 have h1:((st.map rowS).map (·.length)).sum<=(st.map rowS).length * 8:=sum_le fun t ht=>by
  obtain ⟨r,hr,rfl⟩:=List.mem_map.mp ht
  exact rowS_len (h r hr).1 (h r hr).2
 have h2:("," : Str).length=1:=by decide +kernel
 rw [List.length_map] at h1
 rw [h2,List.length_map]
 omega
end L2
end
section
namespace Om
end Om
namespace L2
open PySem PySem.Spec PyProof.Rows
section
variable {F:Addr->Prop} {H0 H H':Hp} {a p:Addr} {ob:HO}
end
end L2
end
section
namespace L2
open PySem PySem.Spec PyProof.Rows
theorem cut_m1 (xs:List V) (x:V):cutV (xs++[x]) none (some (-1))=xs:=by
 unfold cutV
 have e1:HT.sIx (xs++[x]).length 0 none=0:=rfl
 have e2:HT.sIx (xs++[x]).length (xs++[x]).length (some (-1))=xs.length:=by
  unfold HT.sIx
  simp
  omega
 rw [e1,e2]
 simp
end L2
end
section
namespace Om
def par (ts:List Int) (f:Nat->Bool) (i:Nat):Bool:=ts.foldr (fun t acc=>xor (decide (0<=(i:Int) - t) && f ((i:Int) - t).toNat) acc) false
section
variable {most:Int} {ts bits:List Int}
end
end Om
end
section
namespace Om
section
variable {most:Int} {ts bits:List Int}
end
end Om
namespace L2
open PySem PySem.Spec PyProof.Rows
end L2
end
section
namespace L2
open PySem PySem.Spec PyProof.Rows
section
variable {κ:Type} [DecidableEq κ]
def valV (kvs:List (κ×V)) (k:κ):Option V:=(kvs.find? fun kv=>decide (kv.1=k)).map (·.2)
def dropK (kvs:List (κ×V)) (k:κ):List (κ×V):=kvs.filter fun kv=>decide (kv.1≠k)
theorem valV_pos {p:κ×V} {r:List (κ×V)} {k:κ} (e:p.1=k):valV (p :: r) k=some p.2:=by simp [valV,List.find?_cons,e]
theorem valV_neg {p:κ×V} {r:List (κ×V)} {k:κ} (e:¬ p.1=k):valV (p :: r) k=valV r k:=by simp [valV,List.find?_cons,e]
theorem RelO.getD {o:Option V} {u:Option Value} {d:V} {d':Value} (r:RelO o u) (rd:RelV d d'):RelV (o.getD d) (u.getD d'):=by
 cases o with
 | none=>cases u with
  | none=>exact rd
  | some _=>exact (show False from r).elim
 | some _=>cases u with
  | none=>exact (show False from r).elim
  | some _=>exact r
theorem KV.val {kvs:List (κ×V)} {vs:List (κ×Value)} (r:KV kvs vs) (k:κ):RelO (valV kvs k) (valueAt vs k):=by
 unfold KV at r
 induction r with
 | nil=>exact True.intro
 | @cons p q ps qs h t ih=>
  obtain ⟨h1,h2⟩:=h
  by_cases e:p.1=k
  ·have e':q.1=k:=h1.symm.trans e
   have b:valueAt (q :: qs) k=some q.2:=by simp [valueAt,List.find?_cons,e']
   rw [valV_pos e,b];exact h2
  ·have e':¬ q.1=k:=fun z=>e (h1.trans z)
   have b:valueAt (q :: qs) k=valueAt qs k:=by simp [valueAt,List.find?_cons,e']
   rw [valV_neg e,b];exact ih
theorem KV.any {kvs:List (κ×V)} {vs:List (κ×Value)} (r:KV kvs vs) (k:κ):(kvs.any fun kv=>decide (kv.1=k))=vs.any fun kv=>decide (kv.1=k):=by
 unfold KV at r
 induction r with
 | nil=>rfl
 | cons h t ih=>rw [List.any_cons,List.any_cons,ih,h.1]
theorem KV.drop {kvs:List (κ×V)} {vs:List (κ×Value)} (r:KV kvs vs) (k:κ):KV (dropK kvs k) (without vs k):=by
 unfold KV at r ⊢
 unfold dropK without
 induction r with
 | nil=>exact .nil
 | @cons p q ps qs h t ih=>
  obtain ⟨h1,h2⟩:=h
  rw [List.filter_cons,List.filter_cons]
  by_cases e:p.1=k
  ·have a:¬ decide (p.1≠k)=true:=by simp [e]
   have b:¬ decide (q.1≠k)=true:=by simp [h1.symm.trans e]
   rw [if_neg a,if_neg b];exact ih
  ·have e':¬ q.1=k:=fun z=>e (h1.trans z)
   have a:decide (p.1≠k)=true:=by simp [e]
   have b:decide (q.1≠k)=true:=by simp [e']
   rw [if_pos a,if_pos b];exact .cons ⟨h1,h2⟩ ih
theorem KV.keys {kvs:List (κ×V)} {vs:List (κ×Value)} (r:KV kvs vs):kvs.map (·.1)=vs.map (·.1):=by
 unfold KV at r
 induction r with
 | nil=>rfl
 | cons h t ih=>rw [List.map_cons,List.map_cons,ih,h.1]
theorem KV.length {kvs:List (κ×V)} {vs:List (κ×Value)} (r:KV kvs vs):kvs.length=vs.length:=Paired.length r
end
section
variable {P:Program} {w:World} {H:Hp} {h:Heap} {a:Addr}
end
section
variable {X:Cx} {pins:List (Addr×Obj)} {σ:St} {H:Hp} {s:Shared} {a:Addr} {y v:V} {u r:Value} {o:Option V} {A:Around} {E:Value->Shared->Prop}
theorem Inv.big (I:Inv X pins σ H s):sysModules < s.heap.objs.size:=by
 have h:mainGlobals < s.heap.objs.size:=(I.mod.glob.keeps I.bk).lt
 exact Nat.lt_trans (by decide) h
end
section
variable {X:Cx} {pins:List (Addr×Obj)} {σ:St} {H:Hp} {s:Shared} {a:Addr} {kvs:List (Key×V)} {k:Key} {u:Value} {A:Around} {E:Value->Shared->Prop}
end
section
variable {X:Cx} {o i e value:Expr} {pos pos' tpos:Pos} {td ty tv:TE}
end
theorem dk_empty {P:Program} {w:World} {H:Hp} (h:Heap) (hb:sysModules < h.objs.size):ObjOk P w H (h.push { cls:=.type "dict",data:=.dict #[] }) h.objs.size (.dK []):=
 ⟨Nat.zero_le _,beq_eq_false_iff_ne.mpr (Ne.symm (Nat.ne_of_lt hb)),[],.nil,Heap.DictOf.new h⟩
def tDNewK:TE:=fun _ H Q=>∀ p,H p=none->Q (.ref p) (upd H p (.dK []))
section
variable {X:Cx} {pos:Pos}
theorem pe_dnewK:PE X (.Dict [] [] pos) tDNewK:=fun pins s σ H Q I h=>
 wpAny_Dict_empty ⟨.ref s.heap.objs.size,_,I.laid (a:=s.heap.objs.size) (o:=.dK []) (t':=s.toks) (fun _ _ q=>Heap.get?_push_of_some _ q) (Nat.le_refl _) (dk_empty s.heap I.big),rfl,h _ (I.hok.fresh (Nat.le_refl _))⟩
end
structure M1 (X:Cx) (o:Expr) (m:Str) (apos:Pos) (e:Expr) (cpos:Pos):Prop where
 base:attributeBase o m X.env (eval o X.env)=eval o X.env
 few:((backTo cpos (starEach [e] X.env)).all (fun x=>!x.1) && (backToKw cpos (keywordEach [] X.env)).all (fun x=>x.1.isSome)
  && decide (([e]:List Expr).length+([]:List Keyword).length+(if ([]:List Keyword).isEmpty then 0 else 1) < 30))=true
 line:(apos.endLine == cpos.line)=true
 trees:backTo cpos (starEach [e] X.env)=[(false,eval e X.env)]
structure M2 (X:Cx) (o:Expr) (m:Str) (apos:Pos) (e f:Expr) (cpos:Pos):Prop where
 base:attributeBase o m X.env (eval o X.env)=eval o X.env
 few:((backTo cpos (starEach [e,f] X.env)).all (fun x=>!x.1) && (backToKw cpos (keywordEach [] X.env)).all (fun x=>x.1.isSome)
  && decide (([e,f]:List Expr).length+([]:List Keyword).length+(if ([]:List Keyword).isEmpty then 0 else 1) < 30))=true
 line:(apos.endLine == cpos.line)=true
 trees:backTo cpos (starEach [e,f] X.env)=[(false,eval e X.env),(false,eval f X.env)]
section
variable {X:Cx} {pins:List (Addr×Obj)} {σ:St} {H:Hp} {s:Shared} {a:Addr} {y d:V} {u r:Value} {o:Option V} {A:Around} {E:Value->Shared->Prop}
end
section
variable {X:Cx} {o e f:Expr} {apos cpos:Pos} {td ty tx:TE}
end
section
variable {X:Cx} {pins:List (Addr×Obj)} {σ:St} {H:Hp} {s:Shared} {a:Addr} {kvs:List (Key×V)} {A:Around} {E:Value->Shared->Prop}
end
section
variable {X:Cx} {pins:List (Addr×Obj)} {σ:St} {H:Hp} {s:Shared} {a:Addr} {y:V} {u:Value} {A:Around} {E:Value->Shared->Prop}
end
end L2
end
section
namespace L2
open PySem PySem.Spec PyProof.Rows
def tyD:PyData->String
 | .none=>"NoneType"
 | .bool _=>"bool"
 | .int _=>"int"
 | .str _=>"str"
 | .list _=>"list"
 | .tuple _=>"tuple"
 | .dict _=>"dict"
theorem DV.ty {H:Hp} {v:V} {d:PyData} (h:DV H v d):tyN H v=some (tyD d):=by
 cases h with
 | non=>rfl
 | bl b=>rfl
 | int i=>rfl
 | str x=>rfl
 | lst e _=>simp [tyN,e,tyD]
 | tup e _=>simp [tyN,e,tyD]
 | dic e=>simp [tyN,e,tyD]
mutual
def smallD:PyData->Bool
 | .str z=>decide (z.length<=1000)
 | .list xs=>decide (xs.length<=1000) && smallAllD xs
 | .tuple xs=>decide (xs.length<=1000) && smallAllD xs
 | _=>true
def smallAllD:List PyData->Bool
 | []=>true
 | d :: ds=>smallD d && smallAllD ds
end
theorem smallAll_iff:∀ {ds:List PyData},smallAllD ds=true↔∀ d∈ds,smallD d=true
 | []=>by simp [smallAllD]
 | d :: ds=>by rw [smallAllD,Bool.and_eq_true,smallAll_iff];simp
theorem small_list {ds:List PyData} (h:smallD (.list ds)=true):ds.length<=1000/\∀ d∈ds,smallD d=true:=by
 rw [smallD,Bool.and_eq_true,decide_eq_true_eq,smallAll_iff] at h;exact h
theorem small_tup {ds:List PyData} (h:smallD (.tuple ds)=true):ds.length<=1000/\∀ d∈ds,smallD d=true:=by
 rw [smallD,Bool.and_eq_true,decide_eq_true_eq,smallAll_iff] at h;exact h
theorem str_small {z:Str} (h:smallD (.str z)=true):z.length<=1000:=by rw [smallD,decide_eq_true_eq] at h;exact h
def leafV:V->Prop
 | .non | .bl _ | .int _ | .str _=>True
 | _=>False
mutual
inductive Tw (H:Hp):Nat->V->V->Prop
 | leaf {n:Nat} {x:V}:leafV x->Tw H n x x
 | dic {n:Nat} {a:Addr}:H a=some (.dK [])->Tw H n (.ref a) (.ref a)
 | lst {n:Nat} {a b:Addr} {xs ys:List V}:H a=some (.lst xs)->H b=some (.lst ys)->Tws H n xs ys->Tw H (n+1) (.ref a) (.ref b)
 | tup {n:Nat} {a b:Addr} {xs ys:List V}:H a=some (.tup xs)->H b=some (.tup ys)->Tws H n xs ys->Tw H (n+1) (.ref a) (.ref b)
inductive Tws (H:Hp):Nat->List V->List V->Prop
 | nil {n:Nat}:Tws H n [] []
 | cons {n:Nat} {x y:V} {xs ys:List V}:Tw H n x y->Tws H n xs ys->Tws H n (x :: xs) (y :: ys)
end
mutual
theorem Tw.mono {H H':Hp} (k:Same H H'):∀ {n:Nat} {x y:V},Tw H n x y->Tw H' n x y
 | _,_,_,.leaf h=>.leaf h
 | _,_,_,.dic h=>.dic (k _ _ h)
 | _,_,_,.lst h h' r=>.lst (k _ _ h) (k _ _ h') (Tws.mono k r)
 | _,_,_,.tup h h' r=>.tup (k _ _ h) (k _ _ h') (Tws.mono k r)
theorem Tws.mono {H H':Hp} (k:Same H H'):∀ {n:Nat} {xs ys:List V},Tws H n xs ys->Tws H' n xs ys
 | _,_,_,.nil=>.nil
 | _,_,_,.cons h r=>.cons (Tw.mono k h) (Tws.mono k r)
end
theorem Tws.length {H:Hp}:∀ {n:Nat} {xs ys:List V},Tws H n xs ys->xs.length=ys.length
 | _,_,_,.nil=>rfl
 | _,_,_,.cons _ r=>by rw [List.length_cons,List.length_cons,r.length]
theorem Tws.app {H:Hp}:∀ {n:Nat} {xs ys xs' ys':List V},Tws H n xs ys->Tws H n xs' ys'->Tws H n (xs++xs') (ys++ys')
 | _,_,_,_,_,.nil,k=>k
 | _,_,_,_,_,.cons h r,k=>.cons h (Tws.app r k)
theorem Tws.get {H:Hp}:∀ {n:Nat} {xs ys:List V} {j:Nat} {x y:V},Tws H n xs ys->xs[j]? = some x->ys[j]? = some y->Tw H n x y
 | _,_,_,0,_,_,.cons h _,e,e'=>by simp at e e';subst e;subst e';exact h
 | _,_,_,j+1,_,_,.cons _ r,e,e'=>Tws.get r (by simpa using e) (by simpa using e')
section
variable {X:Cx} {pins:List (Addr×Obj)} {σ:St} {H:Hp} {s:Shared} {A:Around}
end
section
variable {X:Cx}
end
end L2
end
section
namespace L2
open PySem PySem.Spec PyProof.Rows
namespace Om
def whole:PyData->Bool
 | .int _=>true
 | _=>false
def within (d:PyData) (a b:Int):Bool:=match d with
 | .int i=>decide (a<=i) && decide (i<=b)
 | _=>false
def wordOk (d:PyData) (n:Int):Bool:=match d with
 | .str z=>decide ((z.length:Int)=n) && decide (Txt.stripChars z ("01" : Str)=("" : Str))
 | _=>false
def rowOk (d:PyData) (n count:Int):Bool:=match d with
 | .tuple [x,y]=>wordOk x n && within y 0 (count - 1)
 | _=>false
def stateOk (d:PyData) (k:Nat) (n count:Int):Bool:=match d with
 | .list rs=>decide (rs.length=2 ^ k) && rs.all fun r=>rowOk r n count
 | _=>false
def intOf:PyData->Int
 | .int i=>i
 | _=>0
def codeOk (d:PyData):Bool:=match d with
 | .tuple [x,y,.list ss]=>within x 1 3 && (within y 1 6 && (decide (1<=ss.length/\ss.length<=8) && ss.all fun s=>stateOk s (intOf x).toNat (intOf y) (ss.length:Nat)))
 | _=>false
theorem within_inv {d:PyData} {a b:Int} (h:within d a b=true):∃ i,d = .int i/\a<=i/\i<=b:=by
 unfold within at h
 split at h
 ·rw [Bool.and_eq_true,decide_eq_true_eq,decide_eq_true_eq] at h;exact ⟨_,rfl,h⟩
 ·exact nomatch h
end Om
def spWholeD:Sp:=fun vs H Q _=>match vs with
 | [v]=>∃ d,DV H v d/\Q (.bl (Om.whole d)) H
 | _=>False
def spWithinD:Sp:=fun vs H Q _=>match vs with
 | [v,.int a,.int b]=>∃ d,DV H v d/\Q (.bl (Om.within d a b)) H
 | _=>False
def spWordD:Sp:=fun vs H Q _=>match vs with
 | [v,.int n]=>∃ d,DV H v d/\smallD d=true/\Q (.bl (Om.wordOk d n)) H
 | _=>False
def spRowD:Sp:=fun vs H Q _=>match vs with
 | [v,.int n,.int count]=>∃ d,DV H v d/\smallD d=true/\Q (.bl (Om.rowOk d n count)) H
 | _=>False
def spStateD:Sp:=fun vs H Q _=>match vs with
 | [v,.int k,.int n,.int count]=>∃ d,DV H v d/\smallD d=true/\1<=k/\k<=3/\∀ H',Same H H'->Q (.bl (Om.stateOk d k.toNat n count)) H'
 | _=>False
def spCodeD:Sp:=fun vs H Q _=>match vs with
 | [v]=>∃ d,DV H v d/\smallD d=true/\∀ H',Same H H'->Q (.bl (Om.codeOk d)) H'
 | _=>False
theorem lenStr {H:Hp} {z:Str} (hz:z.length<=sizeLine):lenV H (.str z)=some z.length:=by
 unfold lenV
 first | exact if_pos hz | simp [hz] | rfl
theorem iteN {c:Bool} {A B:Prop} (hc:c=false) (h:B):if c=true then A else B:=by rw [hc];exact h
theorem DVs.one_inv {H:Hp} {xs:List V} {d:PyData} {ds:List PyData} (h:DVs H xs (d :: ds)):∃ x r,xs=x :: r/\DV H x d/\DVs H r ds:=by
 cases h with
 | cons h r=>exact ⟨_,_,rfl,h,r⟩
theorem DVs.nil_inv {H:Hp} {xs:List V} (h:DVs H xs []):xs=[]:=by cases h;rfl
end L2
end
section
namespace L2
open PySem PySem.Spec PyProof.Rows
section
variable {X:Cx} {p pos:Pos} {e:Expr} {es:List Expr} {t:TA}
end
end L2
end
section
namespace L2
open PySem PySem.Spec PyProof.Rows
section
variable {prog:Program} {w:World} {A:Around} {E:Value->Shared->Prop} {s:Shared}
end
end L2
end
section
namespace L2
open PySem PySem.Spec PyProof.Rows
section
variable {X:Cx} {pins:List (Addr×Obj)} {σ:St} {H:Hp} {s:Shared} {a:Addr} {u:HO} {o:Obj}
theorem Inv.obj (I:Inv X pins σ H s) (e:H a=some u):∃ o,s.heap.get? a=some o:=by
 have l:=(I.hok a u e).lt
 cases u with
 | lst xs=>obtain ⟨_,_,_,_,q⟩:=I.hok a _ e;exact ⟨_,q⟩
 | dK kvs=>obtain ⟨_,_,_,_,o,_,_,q,_⟩:=I.hok a _ e;exact ⟨_,q⟩
 | dT kvs=>obtain ⟨_,_,_,_,o,_,_,q,_⟩:=I.hok a _ e;exact ⟨_,q⟩
 | tup xs=>obtain ⟨_,_,_,o,q,_⟩:=I.hok a _ e;exact ⟨_,q⟩
 | set S n=>obtain ⟨o,_,_,_,q,_⟩:=I.hok a _ e;exact ⟨_,q⟩
 | ins C dx fs=>obtain ⟨_,_,_,q,_⟩:=I.hok a _ e;exact ⟨_,q⟩
 | own y=>obtain ⟨_,q⟩:=I.hok a _ e;exact ⟨_,q⟩
 | xd fs=>obtain ⟨_,⟨_,_,_,q,_⟩,_⟩:=I.hok a _ e;exact ⟨_,q⟩
 | rng lo hi=>obtain ⟨_,_,_,q⟩:=I.hok a _ e;exact ⟨_,q⟩
 | frz ob u=>obtain ⟨q,_⟩:=I.hok a _ e;exact ⟨_,q⟩
 | tbl ps=>exact ⟨_,I.hok a _ e⟩
 | met f y=>exact ⟨_,I.hok a _ e⟩
 | ext φ=>obtain ⟨_,q,_⟩:=I.hok a _ e;exact q
end
section
variable {X:Cx} {e:Expr} {te:TE} {pos:Pos}
end
section
variable {X:Cx} {tg:Expr}
end
end L2
end
section
namespace L2
open PySem PySem.Spec PyProof.Rows
section
variable {X:Cx} {pos:Pos}
end
section
variable {prog:Program} {w:World} {A:Around} {E:Value->Shared->Prop} {s:Shared}
end
section
variable {X:Cx} {pins:List (Addr×Obj)} {σ:St} {H:Hp} {s:Shared} {a:Addr} {A:Around} {E:Value->Shared->Prop}
end
section
variable {X:Cx} {pos:Pos}
end
section
variable {X:Cx} {o e:Expr} {es:List Expr} {to:TE} {t:TA} {apos:Pos}
end
end L2
end
section
namespace L2
open PySem PySem.Spec PyProof.Rows
section
variable {X:Cx} {p pos:Pos} {a b e:Expr} {es:List Expr} {t:TA}
end
end L2
namespace Om
end Om
end
section
namespace Om
abbrev Stp:=(Nat×Nat)×(Nat×Nat)
def St (rows:Rows) (x y:Nat) (s:Stp):Prop:=
 s.1.1 < (rows.getD x []).length/\s.1.2 < (rows.getD y []).length/\(step rows x s.1.1).1=(step rows y s.1.2).1/\s.2=((step rows x s.1.1).2,(step rows y s.1.2).2)
inductive Pth (rows:Rows):Nat->List Nat->List Bool->Nat->Prop
 | nil {s:Nat}:s < rows.length->Pth rows 0 [] [] s
 | snoc {m:Nat} {t:List Nat} {w:List Bool} {p i:Nat}:Pth rows m t w p->i < (rows.getD p []).length->Pth rows (m+1) (t++[i]) (w++(step rows p i).1) (step rows p i).2
section
variable {k n:Nat} {rows:Rows}
def Clash (rows:Rows) (b m:Nat) (x y:Nat):Prop:=∃ t t' w,Pth rows m t w x/\Pth rows m t' w y/\t.getD b 0≠t'.getD b 0
end
end Om
end
section
namespace L2
open PySem PySem.Spec PyProof.Rows
def kk (p:Nat×Nat):List Key:=[.inl ((p.1:Nat):Int),.inl ((p.2:Nat):Int)]
section
variable {ks:List (Nat×Nat)} {kvs:List (List Key×V)} {p:Nat×Nat} {v:V}
end
section
variable {G H0 H:Hp} {D p:Addr} {kvs:List (List Key×V)} {o:HO}
end
end L2
end
section
namespace L2
open PySem PySem.Spec PyProof.Rows
section
variable {X:Cx} {a:Expr} {p pos:Pos} {ta:TA}
end
end L2
end
section
namespace L2
open PySem PySem.Spec PyProof.Rows
structure Lt (H H':Hp):Prop where
 l:∀ a xs,H a=some (.lst xs)->H' a=some (.lst xs)
 t:∀ a xs,H a=some (.tup xs)->H' a=some (.tup xs)
 d:∀ a,H a=some (.dK [])->H' a=some (.dK [])
mutual
theorem DV.lt {H H':Hp} (k:Lt H H'):∀ {v:V} {d:PyData},DV H v d->DV H' v d
 | _,_,.non=>.non
 | _,_,.bl b=>.bl b
 | _,_,.int i=>.int i
 | _,_,.str x=>.str x
 | _,_,.lst h r=>.lst (k.l _ _ h) (DVs.lt k r)
 | _,_,.tup h r=>.tup (k.t _ _ h) (DVs.lt k r)
 | _,_,.dic h=>.dic (k.d _ h)
theorem DVs.lt {H H':Hp} (k:Lt H H'):∀ {vs:List V} {ds:List PyData},DVs H vs ds->DVs H' vs ds
 | _,_,.nil=>.nil
 | _,_,.cons h r=>.cons (DV.lt k h) (DVs.lt k r)
end
theorem Lt.but {H G:Hp} {D:Addr} {kvs:List (List Key×V)} (hD:H D=some (.dT kvs)) (h:∀ x,x≠D->G x=H x):Lt H G:=
 ⟨fun a xs e=>by rw [h a (ne_of e hD (fun z=>nomatch z))];exact e,fun a xs e=>by rw [h a (ne_of e hD (fun z=>nomatch z))];exact e,fun a e=>by rw [h a (ne_of e hD (fun z=>nomatch z))];exact e⟩
end L2
end
section
namespace Om
abbrev Rw:=List Nat×List Bool×Nat
def ext (rows:Rows) (r:Rw):List Rw:=(List.range (rows.getD r.2.2 []).length).map fun l=>(r.1++[l],r.2.1++(step rows r.2.2 l).1,(step rows r.2.2 l).2)
section
variable {k n:Nat} {rows:Rows}
end
end Om
namespace L2
open PySem PySem.Spec PyProof.Rows
end L2
end
section
namespace L2
open PySem PySem.Spec PyProof.Rows
section
variable {prog:Program} {w:World} {A:Around} {E:Value->Shared->Prop} {s:Shared}
end
end L2
end
section
namespace L2
open PySem PySem.Spec PyProof.Rows
section
variable {X:Cx} {p pos:Pos}
end
section
variable {prog:Program} {w:World} {A:Around} {E:Value->Shared->Prop} {s:Shared}
end
end L2
end
section
namespace L2
open PySem PySem.Spec PyProof.Rows
section
variable {X:Cx} {p pos:Pos}
open Classical in
noncomputable def eqT (H:Hp) (k:List Key) (u:Value):Bool:=match u with
 | .ref c=>decide (H c=some (.tup (k.map kV)))
 | _=>false
open Classical in
theorem any_eqT {H:Hp} {k:List Key}:∀ {xs:List V} {us:List Value},Vals xs us->(∀ v∈xs,∃ (c:Addr) (k':List Key),v = .ref c/\H c=some (.tup (k'.map kV)))->(us.any (eqT H k)=true↔∃ c,V.ref c∈xs/\H c=some (.tup (k.map kV)))
 | _,_,.nil,_=>by simp
 | y :: xs,u :: us,.cons r t,f=>by
  obtain ⟨c,k',rfl,hc⟩:=f y List.mem_cons_self
  cases r
  rw [List.any_cons,Bool.or_eq_true,any_eqT t (fun v hv=>f v (List.mem_cons_of_mem _ hv))]
  have e0:eqT H k (.ref c)=true↔H c=some (.tup (k.map kV)):=by unfold eqT;dsimp only;exact (by classical exact decide_eq_true_iff)
  rw [e0]
  constructor
  ·rintro (h | ⟨d,h1,h2⟩)
   ·exact ⟨c,List.mem_cons_self,h⟩
   ·exact ⟨d,List.mem_cons_of_mem _ h1,h2⟩
  ·rintro ⟨d,h1,h2⟩
   rcases List.mem_cons.mp h1 with e | h1
   ·injection e with e;subst e;exact .inl h2
   ·exact .inr ⟨d,h1,h2⟩
end
end L2
end
section
namespace Om
def Win (rows:Rows) (b a:Nat):Prop:=∀ x y,¬ Clash rows b (b+1+a) x y
open Classical in
noncomputable def wf (rows:Rows) (p:Nat×Nat):Bool:=decide (Win rows p.1 p.2)
open Classical in
theorem wf_iff {rows:Rows} {p:Nat×Nat}:wf rows p=true↔Win rows p.1 p.2:=by unfold wf;exact decide_eq_true_iff
end Om
namespace L2
open PySem PySem.Spec PyProof.Rows
end L2
end
section
namespace L2
open PySem PySem.Spec PyProof.Rows
section
variable {prog:Program} {w:World} {A:Around} {E:Value->Shared->Prop} {s:Shared}
end
section
variable {X:Cx} {p pos:Pos}
end
section
variable {G H0 H:Hp} {D q:Addr} {kvs:List (List Key×V)} {ks:List (Nat×Nat)} {c:Nat} {E:Nat×Nat->Om.Stp->Prop} {o:HO}
end
end L2
namespace Om
end Om
end
section
namespace L2
open PySem PySem.Spec PyProof.Rows
section
variable {prog:Program} {w:World} {A:Around} {E:Value->Shared->Prop} {s:Shared}
end
section
variable {X:Cx} {p pos:Pos}
end
end L2
end
section
namespace Om
abbrev Sn:=Nat->Prop
def aft (rows:Rows) (S:Sn) (w:List Bool):Sn:=fun y=>∃ x i,S x/\i < (rows.getD x []).length/\step rows x i=(w,y)
def afts (rows:Rows) (S:Sn) (ws:List (List Bool)):Sn:=ws.foldl (aft rows) S
end Om
namespace L2
open PySem PySem.Spec PyProof.Rows
section
variable {ks:List Nat} {kvs:List (Key×V)} {x:Nat} {v:V}
end
end L2
end
section
namespace Om
def allS (rows:Rows):Sn:=fun x=>x < rows.length
def byL (rows:Rows) (S:Sn) (w:List Bool) (l:Nat):Sn:=fun y=>∃ x,S x/\l < (rows.getD x []).length/\step rows x l=(w,y)
def Goes (rows:Rows) (ws:List (List Bool)) (b l:Nat):Prop:=∃ z,afts rows (byL rows (afts rows (allS rows) (ws.take b)) (ws.getD b []) l) (ws.drop (b+1)) z
open Classical in
noncomputable def rd (rows:Rows) (k b:Nat) (ws:List (List Bool)):Option Nat:=(List.range (2 ^ k)).find? fun l=>decide (Goes rows ws b l)
end Om
namespace L2
open PySem PySem.Spec PyProof.Rows
section
variable {H0 H:Hp} {L q:Addr} {ts:List Addr} {yss:Nat->List Nat}
end
end L2
namespace L2
open PySem PySem.Spec PyProof.Rows
section
variable {X:Cx}
end
end L2
namespace Om
end Om
namespace L2
open PySem PySem.Spec PyProof.Rows
end L2
end
section
namespace Om
end Om
namespace L2
open PySem PySem.Spec PyProof.Rows
theorem cut_gen (xs:List V) (a h:Nat):cutV xs (some (a:Int)) (some (h:Int))=(xs.drop a).take (h - a):=by
 unfold cutV
 rw [HT.sIx_nat,HT.sIx_nat]
 by_cases h1:a<=xs.length
 ·rw [Nat.min_eq_left h1]
  by_cases h2:h<=xs.length
  ·rw [Nat.min_eq_left h2]
  ·rw [Nat.min_eq_right (by omega),List.take_of_length_le (by simp),List.take_of_length_le (by simp;omega)]
 ·rw [Nat.min_eq_right (by omega:xs.length<=a),List.drop_of_length_le (Nat.le_refl _),List.drop_of_length_le (by omega)]
  simp
end L2
namespace L2
theorem if_negP {c A B:Prop} [Decidable c] (hc:¬ c) (h:B):if c then A else B:=by rw [if_neg hc];exact h
end L2
namespace L2
end L2
end
section
namespace L2
open PySem PySem.Spec PyProof.Rows
section
variable {X:Cx} {p pos:Pos}
end
end L2
namespace Om
end Om
end
section
namespace L2
open PySem PySem.Spec PyProof.Rows
end L2
namespace L2
open PySem PySem.Spec PyProof.Rows
end L2
namespace L2
open PySem PySem.Spec PyProof.Rows
end L2
end
section
namespace L2
open PySem PySem.Spec PyProof.Rows
section
variable {X:Cx} {p pos:Pos}
end
end L2
end
section
namespace L2
open PySem PySem.Spec PyProof.Rows PySem.W
def TrD (h base:Heap) (e:Addr) (c a0:Value) (dd:Option Addr) (fl:Value):Prop:=
 ∃ (oe:Obj) (vs:Array Value) (T:Addr) (oT:Obj) (ts:Array Value),h.get? e=some oe/\oe.cls=c/\oe.dict=dd/\vs[0]? = some a0/\oe.data = .fields vs/\vs[1]? = some (.ref T)/\base.get? T=none/\T≠e/\h.get? T=some oT/\oT.data = .fields ts/\ts[3]? = some fl
def FlyD (base:Heap) (l:List Env) (e:Addr) (c a0:Value) (dd:Option Addr) (h:Heap):Prop:=base.StaysIn h/\base.get? e=none/\h.FunFrames base l/\TrD h base e c a0 dd .none
def HldD (base:Heap) (l:List Env) (e:Addr) (c a0:Value) (dd:Option Addr) (L:Addr) (h:Heap):Prop:=base.StaysIn h/\base.get? e=none/\h.FunFrames base l/\TrD h base e c a0 dd (rawInt L)
theorem TrD.there {h base:Heap} {e:Addr} {c a0 fl:Value} {dd:Option Addr} (x:TrD h base e c a0 dd fl):∃ o,h.get? e=some o/\o.cls=c/\o.dict=dd:=by
 obtain ⟨oe,_,_,_,_,h1,h2,h3,_⟩:=x
 exact ⟨oe,h1,h2,h3⟩
theorem dict_mapFields (f:Array Value->Array Value) (o:Obj):(Obj.mapFields f o).dict=o.dict:=by
 unfold Obj.mapFields
 split<;>rfl
section
variable {M:Model} {A:Around} {E:Value->Shared->Prop} {s:Shared} {base:Heap} {env:Env} {outer:List Env} {L e:Addr} {a0:Value} {Q:Unit->Shared->Prop}
theorem entry_D {oe:Obj} {vs:Array Value} {hd0:Value} {had:Bool} (fr:A.frames=some (env :: outer)) (ff:s.heap.FunFrames base (env :: outer)) (lf:env.frame=some L) (ge:s.heap.get? e=some oe) (bs:base.StaysIn s.heap) (be:base.get? e=none)
  (dv:oe.data = .fields vs) (sz:1 < vs.size) (v0:vs[0]? = some a0)
  (k:∀ h',base.StaysIn h'->h'.FunFrames base (env :: outer)->TrD h' base e oe.cls a0 oe.dict (rawInt L)->s.heap.UpToSlots h'->Q () { s with heap:=h' }) :
  wpAny M A (do let x <-frameOf env;let y <-entryPlaceOf L had;let z <-EntryCells.newEntry hd0 x .none (rawInt L) .none y;setField (.ref e) 1 z) Q E s:=by
 have ne:e ∉ (env :: outer).filterMap (·.frame):=fun m=>by
  obtain ⟨_,o,ho,nf⟩:=ff.mem m
  rw [ge] at ho
  cases ho
  exact nf vs dv
 refine wpAny_bind (wpAny_frameOf_fun fr ff lf fun h1 so=>wpAny_bind (wpAny_entryPlaceOf fun pl ip=>?_))
 unfold EntryCells.newEntry newFields
 refine wpAny_bind (wpAny_newObj_type ?_ (ip.sizeOk5 _ _ _ _ _))
 have e1:h1.get? e=some oe:=(so.2.1 e ne).trans ge
 have b1:base.StaysIn h1:=fun b o q=>(so.2.1 b fun m=>by rw [(ff.mem m).1] at q;cases q).trans (bs b o q)
 have t3:([hd0,.ref L,.none,rawInt L,.none]++(if pl.isEmpty then List.replicate 6 Value.none else pl)).toArray[3]? = some (rawInt L):=by
  first | (simp;done) | (rcases ip with rfl | ⟨_,_,_,_,_,_,_,rfl⟩<;>simp)
 generalize ([hd0,.ref L,.none,rawInt L,.none]++(if pl.isEmpty then List.replicate 6 Value.none else pl)).toArray=arr at t3 ⊢
 have e2:=Heap.get?_push_of_some (h:=h1) { cls:=.type "traceback",dict:=none,data:=.fields arr } e1
 have Te:h1.objs.size≠e:=Nat.ne_of_gt (Heap.lt_size e1)
 have d3:=Obj.data_mapFields dv (·.setIfInBounds 1 (Value.ref h1.objs.size))
 have e3:=Heap.get?_update_self (Obj.mapFields (·.setIfInBounds 1 (Value.ref h1.objs.size))) e2 (Obj.isFreed_of_fields d3)
 have T3:=(Heap.get?_update_other (h1.push { cls:=.type "traceback",dict:=none,data:=.fields arr }) (Obj.mapFields (·.setIfInBounds 1 (Value.ref h1.objs.size))) (Ne.symm Te)).trans (Heap.get?_push_size h1 rfl)
 have kb:∀ b o,b≠e->h1.get? b=some o->((h1.push { cls:=.type "traceback",dict:=none,data:=.fields arr }).update e (Obj.mapFields (·.setIfInBounds 1 (Value.ref h1.objs.size)))).get? b=some o:=fun b o n q=>by
  rw [Heap.get?_update_other _ _ (Ne.symm n)]
  exact Heap.get?_push_of_some _ q
 have nr:∀ b o,s.heap.get? b=some o->(∀ ws,o.data≠.fields ws)->b≠e:=fun b o q nf z=>by
  rw [z,ge] at q
  cases q
  exact nf vs dv
 refine wpAny_setField e2 dv sz (k _ (fun b o q=>kb b o (fun z=>by rw [z,be] at q;cases q) (b1 b o q)) (ff.of_keeps fun b o q nf=>?_) ⟨_,_,h1.objs.size,_,arr,e3,Obj.cls_mapFields _ _,?_,by rw [Array.getElem?_setIfInBounds_ne (by decide)];exact v0,d3,by simp [sz],b1.fresh,Te,T3,rfl,t3⟩ fun b o q nf=>?_)
 ·obtain ⟨sl,q1⟩:=so.2.2 b o q
  exact ⟨_,kb b _ (nr b o q nf) q1,rfl⟩
 ·exact dict_mapFields _ _
 ·obtain ⟨sl,q1⟩:=so.2.2 b o q
  exact ⟨sl,kb b _ (nr b o q nf) q1⟩
theorem note_D {oe:Obj} {vs:Array Value} (fr:A.frames=some (env :: outer)) (ff:s.heap.FunFrames base (env :: outer)) (lf:env.frame=some L) (ge:s.heap.get? e=some oe) (bs:base.StaysIn s.heap) (be:base.get? e=none)
  (dv:oe.data = .fields vs) (v0:vs[0]? = some a0) (v1:vs[1]? = some .none\/∃ (T:Addr) (oT:Obj) (ts:Array Value),vs[1]? = some (.ref T)/\base.get? T=none/\T≠e/\s.heap.get? T=some oT/\oT.data = .fields ts/\ts[3]? = some .none)
  (k:∀ h',base.StaysIn h'->h'.FunFrames base (env :: outer)->TrD h' base e oe.cls a0 oe.dict (rawInt L)->s.heap.UpToSlots h'->Q () { s with heap:=h' }):wpAny M A (noteFrame (.ref e) env) Q E s:=by
 unfold noteFrame
 simp only [lf]
 rcases v1 with v1 | ⟨T,oT,ts,v1,bT,Te,gT,dT,t3⟩
 ·refine wpAny_bind (wpAny_field ge dv v1 ?_)
  rw [if_neg (show ¬ ((Value.none != Value.none)=true) by decide)]
  exact entry_D fr ff lf ge bs be dv (Array.getElem?_eq_some_iff.mp v1).1 v0 k
 ·refine wpAny_bind (wpAny_field ge dv v1 ?_)
  rw [if_pos (show (Value.ref T != Value.none)=true by simp)]
  refine wpAny_bind (wpAny_field gT dT t3 ?_)
  rw [if_neg (show ¬ ((Value.none == rawInt (L:Int))=true) by simp [rawInt])]
  refine wpAny_bind (wpAny_setField gT dT (Array.getElem?_eq_some_iff.mp t3).1 ?_)
  have ot:∀ b,b≠T->(s.heap.update T (Obj.mapFields (·.setIfInBounds 3 Value.none))).get? b=s.heap.get? b:=fun b n=>Heap.get?_update_other _ _ (Ne.symm n)
  have nr:∀ b o,s.heap.get? b=some o->(∀ ws,o.data≠.fields ws)->b≠T:=fun b o q nf z=>by
   rw [z,gT] at q
   cases q
   exact nf ts dT
  refine entry_D fr (ff.of_keeps fun b o q nf=>⟨o,(ot b (nr b o q nf)).trans q,rfl⟩) lf ((ot e (Ne.symm Te)).trans ge) (fun b o q=>(ot b fun z=>by rw [z,bT] at q;cases q).trans (bs b o q)) be dv (Array.getElem?_eq_some_iff.mp v1).1 v0 fun h' k1 k2 k3 k4=>k h' k1 k2 k3 fun b o q nf=>k4 b o ((ot b (nr b o q nf)).trans q) nf
theorem flight_D {c fl:Value} {dd:Option Addr} {l:List Env} (bs:base.StaysIn s.heap) (ff:s.heap.FunFrames base l) (tr:TrD s.heap base e c a0 dd fl)
  (k:∀ h',base.StaysIn h'->h'.FunFrames base l->TrD h' base e c a0 dd .none->s.heap.UpToSlots h'->Q () { s with heap:=h' }):wpAny M A (setFlight (.ref e) none) Q E s:=by
 obtain ⟨oe,vs,T,oT,ts,ge,hc,hd,v0,dv,v1,bT,Te,gT,dT,t3⟩:=tr
 have s3:3 < ts.size:=(Array.getElem?_eq_some_iff.mp t3).1
 have ot:∀ b,b≠T->(s.heap.update T (Obj.mapFields (·.setIfInBounds 3 ((none:Option Addr).elim Value.none fun f=>rawInt f)))).get? b=s.heap.get? b:=fun b n=>Heap.get?_update_other _ _ (Ne.symm n)
 have nr:∀ b o,s.heap.get? b=some o->(∀ ws,o.data≠.fields ws)->b≠T:=fun b o q nf z=>by
  rw [z,gT] at q
  cases q
  exact nf ts dT
 unfold setFlight
 refine wpAny_bind (wpAny_field ge dv v1 ?_)
 rw [if_pos (show (Value.ref T != Value.none)=true by simp)]
 refine wpAny_setField gT dT s3 (k _ (fun b o q=>(ot b fun z=>by rw [z,bT] at q;cases q).trans (bs b o q)) (ff.of_keeps fun b o q nf=>⟨o,(ot b (nr b o q nf)).trans q,rfl⟩) ?_ fun b o q nf=>⟨o.slots,(ot b (nr b o q nf)).trans q⟩)
 exact ⟨oe,vs,T,_,_,(ot e (Ne.symm Te)).trans ge,hc,hd,v0,dv,v1,bT,Te,Heap.get?_update_self _ gT (Obj.isFreed_of_fields (Obj.data_mapFields dT _)),Obj.data_mapFields dT _,by simp [s3]⟩
theorem TrD.note {h:Heap} {c:Value} {dd:Option Addr} (tr:TrD h base e c a0 dd .none):∃ (oe:Obj) (vs:Array Value),h.get? e=some oe/\oe.cls=c/\oe.dict=dd/\oe.data = .fields vs/\vs[0]? = some a0/\∃ (T:Addr) (oT:Obj) (ts:Array Value),vs[1]? = some (.ref T)/\base.get? T=none/\T≠e/\h.get? T=some oT/\oT.data = .fields ts/\ts[3]? = some .none:=by
 obtain ⟨oe,vs,T,oT,ts,h1,h2,h3,h4,h5,h6⟩:=tr
 exact ⟨oe,vs,h1,h2,h3,h5,h4,T,oT,ts,h6⟩
theorem leave_new {oe:Obj} {vs:Array Value} (fr:A.frames=some (env :: outer)) (ff:s.heap.FunFrames base (env :: outer)) (lf:env.frame=some L) (ge:s.heap.get? e=some oe) (bs:base.StaysIn s.heap) (be:base.get? e=none)
  (dv:oe.data = .fields vs) (v0:vs[0]? = some a0) (v1:vs[1]? = some .none) (k:∀ h',FlyD base outer e oe.cls a0 oe.dict h'->s.heap.UpToSlots h'->Q () { s with heap:=h' }):wpAny M A (leaving env (.ref e)) Q E s:=by
 unfold leaving
 refine wpAny_bind (note_D fr ff lf ge bs be dv v0 (.inl v1) fun h1 k1 k2 k3 k4=>?_)
 refine flight_D k1 k2 k3 fun h2 g1 g2 g3 g4=>k h2 ⟨g1,be,?_,g3⟩ (k4.trans g4)
 obtain ⟨_,_,g2⟩:=g2
 exact g2
theorem look_D {c:Value} {dd:Option Addr} (fr:A.frames=some (env :: outer)) (lf:env.frame=some L) (fl:FlyD base (env :: outer) e c a0 dd s.heap) (k:∀ h',HldD base (env :: outer) e c a0 dd L h'->s.heap.UpToSlots h'->Q () { s with heap:=h' }):wpAny M A (noteFrame (.ref e) env) Q E s:=by
 obtain ⟨bs,be,ff,tr⟩:=fl
 obtain ⟨oe,vs,ge,rfl,rfl,dv,v0,more⟩:=tr.note
 exact note_D fr ff lf ge bs be dv v0 (.inr more) fun h1 k1 k2 k3 k4=>k h1 ⟨k1,be,k2,k3⟩ k4
theorem land_D {c:Value} {dd:Option Addr} {l:List Env} (hh:HldD base l e c a0 dd L s.heap) (k:∀ h',FlyD base l e c a0 dd h'->s.heap.UpToSlots h'->Q () { s with heap:=h' }):wpAny M A (setFlight (.ref e) none) Q E s:=by
 obtain ⟨bs,be,ff,tr⟩:=hh
 exact flight_D bs ff tr fun h1 k1 k2 k3 k4=>k h1 ⟨k1,be,k2,k3⟩ k4
theorem land_D2 {c:Value} {dd:Option Addr} {l:List Env} (hh:FlyD base l e c a0 dd s.heap) (k:∀ h',FlyD base l e c a0 dd h'->s.heap.UpToSlots h'->Q () { s with heap:=h' }):wpAny M A (setFlight (.ref e) none) Q E s:=by
 obtain ⟨bs,be,ff,tr⟩:=hh
 exact flight_D bs ff tr fun h1 k1 k2 k3 k4=>k h1 ⟨k1,be,k2,k3⟩ k4
end
end L2
end
section
namespace PySem.W
open PySem PySem.Spec PySem.Calls PyProof.Rows Builtin Builtin.ObjectAttr Builtin.Getset_descriptor
abbrev veM:List Value:=[.type "ValueError",.type "Exception",.type "BaseException",.type "object"]
section
variable {prog:Program} {w:World} {A:Around} {E:Value->Shared->Prop} {h:Heap} {g:Array GenState} {dr:Drawn} {t:Nat} {os:OsState} {K:Frag}
variable {nm q:Str} {C N B x:Addr} {bs:List Value} {sn:List Str} {sub:List Value} {ab:Bool} {col:Option Bool} {dd:Option Addr} {k0 k1 k2 k3 k5:Option Value} {name:Str} {v:Value} {o:Obj}
end
end PySem.W
end
section
namespace L2
open PySem PySem.Spec PyProof.Rows PySem.W
theorem HOk.has {P:Program} {w:World} {H:Hp} {h:Heap} (x:HOk P w H h) {a:Addr} {u:HO} (e:H a=some u):∃ o,h.get? a=some o:=by
 have lt:=x.lt e
 cases q:h.get? a with
 | some o=>exact ⟨o,rfl⟩
 | none=>
  exfalso
  have y:=x a u e
  cases u with
  | lst xs=>obtain ⟨_,_,_,_,z⟩:=y;rw [q] at z;cases z
  | tup xs=>obtain ⟨_,_,_,ob,z,_⟩:=y;rw [q] at z;cases z
  | dK kvs=>obtain ⟨_,_,_,_,o,_,_,z,_⟩:=y;rw [q] at z;cases z
  | dT kvs=>obtain ⟨_,_,_,_,o,_,_,z,_⟩:=y;rw [q] at z;cases z
  | set S n=>obtain ⟨o,_,_,_,z,_⟩:=y;rw [q] at z;cases z
  | ins C dx fs=>obtain ⟨_,_,_,z,_⟩:=y;rw [q] at z;cases z
  | own y'=>obtain ⟨_,z⟩:=y;rw [q] at z;cases z
  | xd fs=>obtain ⟨_,⟨_,_,_,z,_⟩,_⟩:=y;rw [q] at z;cases z
  | rng lo hi=>obtain ⟨_,_,_,z⟩:=y;rw [q] at z;cases z
  | frz ob u=>obtain ⟨z,_⟩:=y;rw [q] at z;cases z
  | tbl ps=>have z:h.get? a=some _:=y;rw [q] at z;cases z
  | met f y'=>have z:h.get? a=some _:=y;rw [q] at z;cases z
  | ext φ=>obtain ⟨_,⟨_,z⟩,_⟩:=y;rw [q] at z;cases z
section
variable {P:Program} {w:World} {K:PySem.W.Frag} {mg:Str->Option Value} {base:Heap} {N:List Str} {qual:Str} {scope:Scope} {f:Addr} {cd:Value} {A:Around} {outer:List Env} {s:Shared} {H:Hp} {E:XK}
end
end L2
end
section
namespace L2
open PySem PySem.Spec PyProof.Rows PySem.W
abbrev veM:List Value:=[.type "ValueError",.type "Exception",.type "BaseException",.type "object"]
def ExnOk (K:PySem.W.Frag) (C:Addr):Prop:=∃ (nm q:Str) (N:Addr) (bs bm:List Value) (hdct:Bool) (sn:List Str) (sub:List Value) (ab:Bool) (col:Option Bool) (dd:Option Addr) (k0 k1 k2 k3 k5:Option Value) (mN:Str->Option Value),mN "__init__" = none ∧
 ∀ h:Heap,K.In h->h.get? C=some (excClassObj nm q C N bs bm hdct sn sub ab col dd k0 k1 k2 k3 k5 "ValueError.__new__")/\h.Ns N mN/\OwnTail h veM bm
def tRaise (E:XK) (C:Addr) (t:TA):TS:=fun _ σ H=>t σ H fun vs H1=>vs.length<=1000/\E (.ref C) none H1
section
variable {P:Program} {w:World} {K:PySem.W.Frag} {mg:Str->Option Value} {base:Heap} {N:List Str} {qual:Str} {scope:Scope} {f:Addr} {cd:Value} {A:Around} {outer:List Env} {s:Shared} {H:Hp} {E:XK}
end
section
variable {X:Cx} {x:Str} {p pos epos:Pos} {e:Expr} {es:List Expr} {t:TA} {k:Nat} {ps:List Str} {sp:Sp}
end
end L2
end
section
namespace L2
open PySem PySem.Spec PyProof.Rows PySem.W
abbrev Cx.held (X:Cx) (x:Addr):Cx:={ X with A:=X.A.mark (some (.ref x)),calm:=false,xe:=fun _ _=>False }
section
variable {X:Cx} {pins:List (Addr×Obj)} {σ:St} {H H':Hp} {s s':Shared}
theorem Cx.Ok.held {x:Addr} (ok:X.Ok):(X.held x).Ok:=
 ⟨ok.mod,ok.kind,ok.glob,ok.blt,ok.above,ok.inj,ok.has,ok.cab,fun z=>Bool.noConfusion z,ok.frames,ok.stk,ok.exf,ok.bs,ok.bsz,ok.noex,ok.exfs,ok.funs,ok.frf⟩
theorem Inv.held {x:Addr} (I:Inv X pins σ H s):Inv (X.held x) pins σ H s:=⟨I.ok.held,I.os,I.bare,I.base,I.loc,I.cell,I.free,I.freeC,I.pin,I.hok,I.len⟩
theorem Inv.unheld {x:Addr} (ok:X.Ok) (I:Inv (X.held x) pins σ H s):Inv X pins σ H s:=⟨ok,I.os,I.bare,I.base,I.loc,I.cell,I.free,I.freeC,I.pin,I.hok,I.len⟩
theorem name_goes {M:Model} {A:Around} {E:Value->Shared->Prop} {i:Nat} {x:Str} {pos:Pos} {Q:Unit->Shared->Prop} (I:Inv X pins σ H s) (hN:X.N.Nodup) (hi:X.N[i]? = some x) (hk:X.env.scope.names.lookup x=some .local)
  (h:∀ s',Inv X pins (σ.set i none) H s'->Q () s'):wpAny M A (do bindName X.env x .none;unbindBehindTheSuite X.env x pos) Q E s:=by
 obtain ⟨m,hn,hl⟩:=id I.loc
 have hcls:(X.env.scope.kind == .class || (X.env.scope.kind == .module && X.env.locals != X.env.globals))=false:=by rw [I.ok.kind];rfl
 have cne:=I.cne
 refine wpAny_nameGoes_keeps hk hn hcls fun h' v hn' hs=>?_
 obtain ⟨oL,_,_,hoL,_⟩:=id hn
 refine h _ ⟨I.ok,I.os,I.bare,⟨fun b o e n hb hx=>?_,fun b o e n hb hx=>?_,I.base.free,fun b o e hx=>?_,I.base.tups,I.base.frzs,I.base.tbls⟩,⟨_,hn',fun j y v' e1 e2 e3=>?_⟩,fun y c e=>?_,I.free,I.freeC,fun p hp=>?_,fun b ob e=>?_,by simpa using I.len⟩
 ·exact (hs.2 b (Nat.ne_of_lt (Nat.lt_of_lt_of_le (Heap.lt_size e) I.ok.above))).trans (I.base.keep b o e n hb hx)
 ·obtain ⟨sl,e1⟩:=I.base.slot b o e n hb hx
  exact ⟨sl,(hs.2 b (Nat.ne_of_lt (Nat.lt_of_lt_of_le (Heap.lt_size e) I.ok.above))).trans e1⟩
 ·obtain ⟨o',e1⟩:=I.base.there b o e hx
  exact ⟨o',(hs.2 b (Nat.ne_of_lt (Nat.lt_of_lt_of_le (Heap.lt_size e) I.ok.above))).trans e1⟩
 ·by_cases hj:j=i
  ·subst hj
   have hiσ:j < σ.length:=by rw [I.len];exact (List.getElem?_eq_some_iff.mp hi).1
   rw [List.getElem?_set_self hiσ] at e2
   cases e2
  ·rw [List.getElem?_set_ne (Ne.symm hj)] at e2
   obtain ⟨u',r',q⟩:=hl j y v' e1 e2 e3
   refine ⟨u',r',?_⟩
   rcases q with ⟨k,e⟩ | ⟨k,c,e,z⟩
   ·refine .inl ⟨k,?_⟩
    have:y≠x:=fun e=>hj (nodup_ix hN e1 (e ▸ hi))
    simp [this,e]
   ·exact .inr ⟨k,c,e,z.sameBut hs (cne y c e)⟩
 ·obtain ⟨w',z⟩:=I.cell y c e
  exact ⟨w',z.sameBut hs (cne y c e)⟩
 ·obtain ⟨e,n,ne,nf,d⟩:=I.pin p hp
  exact ⟨(hs.2 p.1 ne).trans e,n,ne,nf,d⟩
 ·refine (I.hok b ob e).stay (fun c w' hc q=>(hs.2 c ?_).trans q) (fun _ q=>q) fun _ _ q=>q
  rintro rfl
  rcases hc with rfl | hc
  ·rw [I.free] at e;cases e
  ·rw [I.free] at hc;cases hc
end
section
variable {X:Cx} {np hpos pos:Pos} {body suite:List Stmt} {b₀:Stmt} {tb:XK->TS} {ts:TS}
end
end L2
end
section
namespace PySem.W
open PySem PySem.Spec PySem.Calls PyProof.Rows Builtin Builtin.ObjectAttr Builtin.Getset_descriptor
section
variable {prog:Program} {w:World} {A:Around} {E:Value->Shared->Prop} {s:Shared} {K:Frag} {x C:Addr}
structure ExCls (K:Frag) (C:Addr):Prop where
 ga:findIn K (.ref C) "__getattribute__" = some (some (.builtin "BaseException.__getattribute__"))
 gh:findIn K (.ref C) "__getattr__" = some none
 be:mroIn K C (.type "BaseException")=some true
 cls:(clsIn K C).isSome=true
 at_:findIn K (.ref C) "__class__" = some (some (.builtin "object.__class__"))
 sp:specialIn K (.builtin "object.__class__") "__get__" = some (some (.builtin "getset_descriptor.__get__"))
 tk:takesIn K (.builtin "object.__class__")=some true
 ob:mroIn K C (.type "object")=some true
theorem exc_find {M:Model} {h:Heap} (Z:ExCls K C) (X:K.In h):Looks M h (find (.ref x) (.ref C) "__class__") (.bind (.builtin "getset_descriptor.__get__") (.builtin "object.__class__")):=
 (looks_findIn X Z.at_).andThen (Looks.andThen (looks_specialIn X Z.sp) (Looks.andThen (a:=some (Value.builtin "getset_descriptor.__get__",Value.builtin "object.__class__")) ((looks_takesIn X Z.tk).andThen .now) (Looks.tag .now)))
theorem exc_attr {Q:Option Value->Shared->Prop} (Z:ExCls K C) (X:K.In s.heap) (T:∀ M,Looks M s.heap (typeOf (.ref x)) (.ref C)) (q:Q (some (.ref C)) { s with toks:=s.toks+1 }):wpAny (model prog w) A (getAttr? (.ref x) "__class__") Q E s:=by
 obtain ⟨hh,gg,dd,tt,oo⟩:=s
 have t0:=T (model prog w)
 have t1:=looks_findIn (M:=model prog w) X Z.ga
 have t2:=exc_find (M:=model prog w) (x:=x) Z X
 have t3:=looks_findIn (M:=model prog w) X Z.gh
 have t4:=looks_mroIn (M:=model prog w) X Z.ob
 have t5:=looks_mroIn (M:=model prog w) X Z.be
 have hx2:(onTheHeap (Value.ref C) && Value.builtin "BaseException.__getattribute__" == Value.builtin "object.__getattribute__")=false:=by
  have:(Value.builtin "BaseException.__getattribute__" == Value.builtin "object.__getattribute__")=false:=by decide +kernel
  rw [this,Bool.and_false]
 have hk:builtinKind "BaseException.__getattribute__" = some .slot:=by decide +kernel
 have hsplit:splitId "BaseException.__getattribute__" = some ("BaseException","__getattribute__"):=by decide +kernel
 unfold getAttr? getAttrBy? getAttrBy
 refine wpAny_bind (wpAny_mkText (wpAny_bind (wpAny_attempt (wpAny_holding (wpAny_bind (t0.at (wpAny_bind (t1.at ?_))))))))
 show wpAny _ _ (if (onTheHeap (Value.ref C) && Value.builtin "BaseException.__getattribute__" == Value.builtin "object.__getattribute__")=true then _ else getAttrByItsOwn _ _ _ _ _ _) _ _ _
 rw [hx2,if_neg (by decide)]
 unfold getAttrByItsOwn
 refine wpAny_bind ?_
 show wpAny _ _ (typeLookup (.ref C) "__getattr__") _ _ _
 refine t3.at (wpAny_bind (wpAny_attempt (wpAny_holding ?_)))
 show wpAny _ _ (boundAndCalled _ _ _) _ _ _
 unfold boundAndCalled
 rw [F.excAttr_ValueError.ga.bind (.ref x)]
 refine wpAny_bind (wpAny_pure ?_)
 show wpAny _ _ (call (.builtin "BaseException.__getattribute__") [.ref x,_]) _ _ _
 refine wpAny_call (codeAny_call_builtin F.excAttr_ValueError.ga.plain F.entry_bexc_ga ?_)
 have ha:=F.args_bexc_ga (.ref x) (.str "__class__" tt)
 simp only [checkBuiltinCall,hk,hsplit]
 unfold isInstance
 repeat ((fail_if_success with_reducible refine wpAny_call ?_);lk)
 refine wpAny_call ?_
 refine codeAny_call_builtin KF.slot_gs.plain KF.entry_gs (KF.slot_gs.check _ _ _ _ _ _ _ _ KF.type_class (KF.args_gs _ _ _) ?_)
 unfold Builtin.«getset_descriptor.__get__» descrGet
 rw [dga_obj]
 refine wpAny_bind (wpAny_pure ?_)
 unfold descrGetter descrCheckInstance descrNameAndClass isInstance
 simp only [KF.owner_class]
 repeat lk
 refine ⟨Code.quiet_builtin _ (by decide +kernel),codeAny_builtin KF.entry_class ?_⟩
 unfold Builtin.«object.__class__» shownTypeOf
 repeat lk
 exact q
theorem kitx_exc (Z:ExCls K C):KitX K (.ref x) (.ref C) (fun h=>∃ o,h.get? x=some o/\o.cls = .ref C) where
 ty:=fun M h _ p=>by
  obtain ⟨o,e,c⟩:=p
  exact c ▸ (Looks.ld e).andThen .now
 it:=fun _ _ X _=>by
  obtain ⟨cd,hc⟩:=Option.isSome_iff_exists.mp Z.cls
  unfold clsIn at hc
  split at hc
  ·rename_i ho
   intro A' Q' E' s' k q
   unfold isType loadHead
   exact wpAny_bind (wpAny_loadPart (k _ _ (X _ _ ho)) (wpAny_pure q))
  ·cases hc
 ne:=fun h tp dd its n sl X htp=>by
  refine Bool.eq_false_iff.mpr fun q=>?_
  obtain rfl:C=tp:=Value.ref.inj (beq_iff_eq.mp q)
  obtain ⟨cd,hc⟩:=Option.isSome_iff_exists.mp Z.cls
  unfold clsIn at hc
  split at hc
  ·rename_i ho
   have z:=(X _ _ ho).symm.trans htp
   cases z
  ·cases hc
 ca:=fun X p k=>exc_attr Z X (fun M=>by obtain ⟨o,e,c⟩:=p;exact c ▸ (Looks.ld e).andThen .now) k
end
end PySem.W
namespace L2
open PySem PySem.Spec PyProof.Rows PySem.W
section
variable {X:Cx} {p pos:Pos} {e:Expr} {es:List Expr} {t:TA}
theorem e_clsX (x:Str) {a:Addr} {mg':Str->Option Value} (hm:mg' x=some (.ref a)) (hX:X.mg=mg') (hg:gB X x=true:=by kernel_rfl) (hd:(x == ("__debug__" : Str))=false:=by kernel_rfl):PE X (.Name x pos) (tC (.ref a)):=
 pe_glob (gl_of hg) (by rw [hX];exact hm) rfl hd
theorem e_tyVE {mg':Str->Option Value} (hm:mg' "ValueError" = none) (hX:X.mg=mg') (hg:gB X "ValueError" = true:=by kernel_rfl):PE X (.Name "ValueError" pos) (tC (.ty "ValueError")):=
 pe_bltn (gl_of hg) (by rw [hX];exact hm) (u:=.type "ValueError") (by first | rfl | kernel_rfl | exact PyProof.Rows.Boot.«ValueError») rfl
end
end L2
end
section
namespace L2
open PySem PySem.Spec PyProof.Rows PySem.W
def ExcD (a:Addr) (c:Value) (dd:Option Addr):HO:=.ext fun h=>∃ o,h.get? a=some o/\o.cls=c/\o.dict=dd/\∃ vs,o.data = .fields vs
theorem ExcD.mk {P:Program} {w:World} {H:Hp} {h:Heap} {a:Addr} {c:Value} {dd:Option Addr} {o:Obj} {vs:Array Value} (e:h.get? a=some o) (hc:o.cls=c) (hd:o.dict=dd) (hv:o.data = .fields vs):ObjOk P w H h a (ExcD a c dd):=
 ⟨⟨o,e,hc,hd,vs,hv⟩,⟨o,e⟩,fun h1 h2 ⟨o1,e1,c1⟩ k=>⟨o1,k o1 e1,c1⟩⟩
def CX2 (P:Program) (w:World):CXT:=fun outer H s E e s'=>∃ (x:Addr) (c a0:Value) (dd:Option Addr) (B:Heap) (H':Hp),e = .ref x/\s'.os=s.os/\AllBare s'.gens/\Un (frs outer) [] H H' s.heap s'.heap/\HOk P w H' s'.heap/\FlyD B outer x c a0 dd s'.heap ∧
 (∀ b o,s.heap.get? b=some o->H b=none->b ∉ frs outer->B.get? b=some o)/\(∀ b o,s.heap.get? b=some o->b ∉ frs outer->∃ o',B.get? b=some o')/\(∀ b u,H' b=some u->∀ o,s'.heap.get? b=some o->B.get? b=some o)/\E c dd H'
section
variable {P:Program} {w:World} {K:PySem.W.Frag} {mg:Str->Option Value} {base:Heap} {N:List Str} {qual:Str} {scope:Scope} {f:Addr} {cd:Value} {A:Around} {outer:List Env} {s:Shared} {H:Hp} {E:XK}
def ExcN (x C:Addr) (dd:Option Addr):HO:=.ext fun h=>∃ (ta:Addr) (sl:Array (Option Value)),h.get? x=some { cls:=.ref C,dict:=dd,data:=.fields #[.ref ta,.none,.none,.none,.bool false,.none],slots:=sl }
theorem ExcN.mk {P:Program} {w:World} {H:Hp} {h:Heap} {x C:Addr} {dd:Option Addr} {ta:Addr} {sl:Array (Option Value)} (e:h.get? x=some { cls:=.ref C,dict:=dd,data:=.fields #[.ref ta,.none,.none,.none,.bool false,.none],slots:=sl }):ObjOk P w H h x (ExcN x C dd):=
 ⟨⟨ta,sl,e⟩,⟨_,e⟩,fun h1 h2 ⟨t1,s1,e1⟩ k=>⟨t1,s1,k _ e1⟩⟩
theorem esc3 {pins:List (Addr×Obj)} {σ:St} {H3:Hp} {s3:Shared} {x C:Addr} {dd:Option Addr} (I:Inv (cxOf (CX2 P w) P w K mg base N qual scope f cd A outer s H E) pins σ H3 s3) (hx:H3 x=some (ExcN x C dd)) (nx:∀ b o,s.heap.get? b=some o->b≠x)
  (q:E (.ref C) dd (fun b=>if b=x then none else H3 b)):(cxOf (CX2 P w) P w K mg base N qual scope f cd A outer s H E).xe (.ref x) s3:=by
 obtain ⟨⟨ta,sl,gx⟩,_⟩:=I.hok x _ hx
 have fr:s3.heap.FunFrames base (envOfC qual scope s.heap.objs.size f cd :: outer):=I.stack
 have free:∀ b∈frs (envOfC qual scope s.heap.objs.size f cd :: outer),H3 b=none:=I.stkFree
 have un:Un (frs outer) [] H H3 s.heap s3.heap:=I.base
 have notL:∀ b o,s.heap.get? b=some o->b ∉ frs outer->b ∉ frs (envOfC qual scope s.heap.objs.size f cd :: outer):=fun b o e n hm=>by
  have hm':b∈s.heap.objs.size :: frs outer:=hm
  rcases List.mem_cons.mp hm' with z | z
  ·exact absurd (Heap.lt_size e) (by rw [z];exact Nat.lt_irrefl _)
  ·exact n z
 have wo:∀ b u,H3 b=some u->b≠x->(fun b=>if b=x then none else H3 b) b=some u:=fun b u e n=>by
  show (if b=x then none else H3 b)=some u
  rw [if_neg n];exact e
 have wo':∀ b u,(fun b=>if b=x then none else H3 b) b=some u->b≠x/\H3 b=some u:=fun b u e=>by
  have e:(if b=x then none else H3 b)=some u:=e
  by_cases z:b=x
  ·rw [if_pos z] at e;cases e
  ·rw [if_neg z] at e;exact ⟨z,e⟩
 have hid:∀ b o,s3.heap.get? b=some o->b≠x->b ∉ frs (envOfC qual scope s.heap.objs.size f cd :: outer)->(hideAll s3.heap (x :: frs (envOfC qual scope s.heap.objs.size f cd :: outer))).get? b=some o:=fun b o e n m=>hideAll_get _ e fun z=>(List.mem_cons.mp z).elim n m
 refine leave_new (base:=hideAll s3.heap (x :: frs (envOfC qual scope s.heap.objs.size f cd :: outer))) (L:=s.heap.objs.size) I.ok.frames (funFrames_hide fr fun env he b hb=>List.mem_cons_of_mem _ (List.mem_filterMap.mpr ⟨env,he,hb⟩)) rfl gx (fun b o z=>of_hideAll _ z) (hideAll_none _ (List.mem_cons_self ..)) rfl rfl rfl fun h3 fl up=>?_
 have stay:∀ b o,s3.heap.get? b=some o->b≠x->b ∉ frs (envOfC qual scope s.heap.objs.size f cd :: outer)->h3.get? b=some o:=fun b o e n m=>fl.1 b o (hid b o e n m)
 have trk:∀ b u,H3 b=some u->b ∉ frs (envOfC qual scope s.heap.objs.size f cd :: outer):=fun b u e hm=>by rw [free b hm] at e;cases e
 refine ⟨x,_,_,_,_,(fun b=>if b=x then none else H3 b),rfl,I.os,I.bare,⟨fun b o e n nf _=>?_,fun b o e n hf _=>?_,fun b o e n hb=>?_,fun b o e hb=>?_,fun b xs e=>?_,fun b o u e=>?_,fun b ps e=>?_⟩,fun b u e=>?_,fl,fun b o e n nf=>?_,fun b o e nf=>?_,fun b u e o ho=>?_,q⟩
 ·exact stay b o (un.keep b o e n nf (by simp)) (nx b o e) (notL b o e nf)
 ·obtain ⟨sl,e1⟩:=un.slot b o e n hf (by simp)
  have hm:b∈frs (envOfC qual scope s.heap.objs.size f cd :: outer):=List.mem_cons_of_mem _ hf
  obtain ⟨_,o',ho',nd⟩:=fr.mem hm
  rw [e1] at ho'
  cases ho'
  obtain ⟨sl2,e2⟩:=up b _ e1 nd
  exact ⟨sl2,e2⟩
 ·show (if b=x then none else H3 b)=none
  rw [un.free b o e n hb]
  split<;>rfl
 ·obtain ⟨o',e1⟩:=un.there b o e hb
  by_cases hm:b∈frs (envOfC qual scope s.heap.objs.size f cd :: outer)
  ·obtain ⟨_,o2,ho2,nd⟩:=fr.mem hm
   obtain ⟨sl2,e2⟩:=up b _ ho2 nd
   exact ⟨_,e2⟩
  ·exact ⟨o',stay b o' e1 (nx b o e) hm⟩
 ·have e':=un.tups b xs e
  exact wo b _ e' fun z=>by rw [z,hx] at e';cases e'
 ·have e':=un.frzs b o u e
  exact wo b _ e' fun z=>by rw [z,hx] at e';cases e'
 ·obtain ⟨m,e'⟩:=un.tbls b ps e
  exact ⟨m,wo b _ e' fun z=>by rw [z,hx] at e';cases e'⟩
 ·obtain ⟨nb,e⟩:=wo' b u e
  refine (I.hok b u e).stay (fun b' u' hb' e'=>?_) (fun b' z=>?_) fun b' xs z=>?_
  ·rcases hb' with rfl | z
   ·exact stay _ u' e' nb (trk _ _ e)
   ·exact stay _ u' e' (fun y=>by rw [y,hx] at z;cases z) (trk _ _ z)
  ·exact wo _ _ z fun y=>by rw [y,hx] at z;cases z
  ·exact wo _ _ z fun y=>by rw [y,hx] at z;cases z
 ·exact hid b o (un.keep b o e n nf (by simp)) (nx b o e) (notL b o e nf)
 ·obtain ⟨o',e1⟩:=un.there b o e (by simp)
  exact ⟨o',hid b o' e1 (nx b o e) (notL b o e nf)⟩
 ·obtain ⟨nb,e⟩:=wo' b u e
  obtain ⟨o1,e1⟩:=I.hok.has e
  have:=stay b o1 e1 nb (trk b u e)
  rw [ho] at this
  cases this
  exact hid b o e1 nb (trk b u e)
end
end L2
end
section
namespace L2
open PySem PySem.Spec PyProof.Rows PySem.W
section
variable {X:Cx} {pins:List (Addr×Obj)} {σ:St} {H:Hp} {s:Shared} {C fI:Addr} {fd:FuncData} {k:Nat}
end
section
variable {P:Program} {w:World} {K:PySem.W.Frag} {mg:Str->Option Value} {base:Heap} {N:List Str} {qual:Str} {scope:Scope} {f:Addr} {cd:Value} {A:Around} {outer:List Env} {s:Shared} {H:Hp} {E:XK}
end
end L2
end
section
namespace L2
open PySem PySem.Spec PyProof.Rows PySem.W
section
variable {X:Cx} {p pos apos epos:Pos} {b:Str} {B C fI:Addr} {e:Expr} {es:List Expr} {t:TA} {mg':Str->Option Value}
end
section
variable {X:Cx} {pos pos':Pos} {C fI:Addr} {o value:Expr} {ta tv:TE}
end
end L2
end
section
namespace L2
open PySem PySem.Spec PyProof.Rows PySem.W
section
variable {X:Cx} {p pos:Pos} {e:Expr} {es:List Expr} {t:TA} {ta:TE}
def rIsY (K:PySem.W.Frag):List V->Hp->VK->Prop:=fun vs H Q=>match vs with
 | [.ref x,.ref D]=>∃ C dd b,PySem.W.ExCls K C/\H x=some (ExcD x (.ref C) dd)/\(PySem.W.kitOne K (.ref C) (.ref D)=some b\/∃ ds:List Addr,H D=some (.tup (ds.map V.ref))/\PySem.W.kitAny K (.ref C) (ds.map Value.ref)=some b)/\Q (.bl b) H
 | [.ref x,.ty T]=>∃ C dd b,PySem.W.ExCls K C/\H x=some (ExcD x (.ref C) dd)/\PySem.W.kitOne K (.ref C) (.type T)=some b/\Q (.bl b) H
 | _=>False
theorem vals_refs:∀ {ds:List Addr} {us:List Value},Vals (ds.map V.ref) us->us=ds.map Value.ref
 | [],_,r=>by cases r;rfl
 | d :: ds,_,r=>by
  cases r with
  | cons r1 r2=>
   cases r1
   rw [vals_refs r2];rfl
theorem call_isY:CallR X (.builtin "isinstance") (rIsY X.K):=by
 intro pins s σ H vs us Q I r h
 unfold rIsY at h
 split at h
 ·rename_i x D
  obtain ⟨C,dd,b,Z,hx,k,q⟩:=h
  obtain ⟨u,w',rfl,r1,r2⟩:=vals2 r
  cases r1
  cases r2
  obtain ⟨⟨o,gx,hc,_⟩,_⟩:=I.hok x _ hx
  rcases k with k | ⟨ds,hD,k⟩
  ·exact kia_one (kitx_exc Z) I.kIn ⟨o,gx,hc⟩ k (by intro z;cases z) fun tk=>⟨.bl b,H,I.tok _,rfl,q⟩
  ·obtain ⟨_,its,rv,o2,g2,c2,n2,d2⟩:=I.hok D _ hD
   have ei:=vals_refs rv
   subst ei
   obtain ⟨oc,od,odt,osl⟩:=o2
   dsimp only at c2 d2
   subst c2
   subst d2
   exact kia_tup (kitx_exc Z) I.kIn ⟨o,gx,hc⟩ g2 k (by intro z;cases z) fun tk=>⟨.bl b,H,I.tok _,rfl,q⟩
 ·rename_i x T
  obtain ⟨C,dd,b,Z,hx,k,q⟩:=h
  obtain ⟨u,w',rfl,r1,r2⟩:=vals2 r
  cases r1
  obtain rfl:w' = .type T:=r2
  obtain ⟨⟨o,gx,hc,_⟩,_⟩:=I.hok x _ hx
  exact kia_one (kitx_exc Z) I.kIn ⟨o,gx,hc⟩ k (by intro z;cases z) fun tk=>⟨.bl b,H,I.tok _,rfl,q⟩
 ·exact h.elim
theorem fn_isY {mg':Str->Option Value} (hm:mg' "isinstance" = none) (hX:X.mg=mg') (ha:PA X (e :: es) t) (hg:gB X "isinstance" = true:=by kernel_rfl) (he:starEach (e :: es) X.env=(false,eval e X.env) :: starEach es X.env:=by kernel_rfl) (hpl:(backTo pos (starEach es X.env)).any (·.1)=false:=by kernel_rfl) :
  PE X (.Call (.Name "isinstance" p) (e :: es) [] pos) (tCB (rIsY X.K) t):=pe_callB call_isY (gl_of hg) (by rw [hX];exact hm) PyProof.Rows.boot_isinstance ha (he:=he) (hpl:=hpl)
end
def CanY (P:Program) (w:World) (K:PySem.W.Frag) (mg:Str->Option Value) (base:Heap) (x:Str) (k:Nat) (ps:List Str) (sp:Sp):Prop:=
 ∃ f fd,FnOk P w K mg base (CX2 P w) k f fd ps sp/\mg x=some (.ref f)/\PySem.W.keepIn K (.ref f)=true/\Binds K fd ps []
section
variable {P:Program} {w:World} {K:PySem.W.Frag} {mg:Str->Option Value} {base:Heap} {N:List Str} {qual:Str} {scope:Scope} {f:Addr} {cd:Value} {A:Around} {outer:List Env} {s:Shared} {H:Hp} {E:XK}
theorem canY_fn {x:Str} {st:Stmt} {N ps:List Str} {k:Nat} {sp:Sp} (D:FnX K mg x st ps) (S:FnScope N ps (defScope st)) (len:∀ vs H Q E,sp vs H Q E->vs.length=ps.length)
  (hbody:∀ (f:Addr) (cdv:Value) (A:Around) (outer:List Env) (s:Shared) (H:Hp) (vs:List V) (Q:VK) (E:XK),Room k (A.deeper (envOfC x (defScope st) s.heap.objs.size f cdv))->sp vs H Q E →
   ∃ t,PSs (cxOf (CX2 P w) P w K mg base N x (defScope st) f cdv A outer s H E) (defBody st) t/\t { nx:=fun _ H'=>Q .non H',rt:=Q } (start N vs) H):CanY P w K mg base x (k+1) ps sp:=by
 obtain ⟨f,fd,F,hm,hb⟩:=D
 obtain ⟨oc,od,kV,doc,pm,an,cdv,ct,osl,rfl,lk,hcd⟩:=F.ex
 exact ⟨f,_,fn_of lk hcd S len fun A outer s H vs Q E hr hsp=>hbody f cdv A outer s H vs Q E hr hsp,hm,F.kp,hb⟩
end
end L2
end
section
namespace L2
open PySem PySem.Spec PyProof.Rows PySem.W
def PB2 (X:Cx) (st:List Stmt) (t:XK->TS):Prop:=
 ∀ (pins:List (Addr×Obj)) (s:Shared) (σ:St) (H:Hp) (D:Ends) (E:XK),Inv X pins σ H s->t E D σ H →
  wpAny (model X.prog X.w) X.A (execs st X.env) (SP X pins D) (fun e s'=>∃ H1 s1,Inv X pins σ H1 s1/\CX2 X.prog X.w X.stack H1 s1 E e s') s
section
variable {X:Cx} {x:Str} {p pos epos:Pos} {e:Expr} {es:List Expr} {t:TA} {k:Nat} {ps:List Str} {sp:Sp}
def tCanY (sp:Sp) (t:TA):XK->TS:=fun E D σ H=>t σ H fun vs H1=>sp vs H1 (fun _ H2=>D.nx σ H2) E
theorem pb_callY (x:Str) {P':Program} {w':World} {K':PySem.W.Frag} {mg':Str->Option Value} {base':Heap} (C:CanY P' w' K' mg' base' x k ps sp) (hX:X.prog=P'/\X.w=w'/\X.K=K'/\X.mg=mg'/\X.base=base') (hr:Room k X.A) (ha:PA X.nox (e :: es) t)
  (hg:gB X x=true:=by kernel_rfl) (hdb:(x == ("__debug__" : Str))=false:=by kernel_rfl) (he:starEach (e :: es) X.env=(false,eval e X.env) :: starEach es X.env:=by kernel_rfl) (hpl:(backTo pos (starEach es X.env)).any (·.1)=false:=by kernel_rfl)
  (hs:swapsWith (.Call (.Name x p) (e :: es) [] pos) none epos.line X.env=pure false:=by kernel_rfl):PB2 X [.Expr (.Call (.Name x p) (e :: es) [] pos) epos] (tCanY sp t):=by
 obtain ⟨rfl,rfl,rfl,rfl,rfl⟩:=hX
 obtain ⟨f,fd,F,hm,hk,hb⟩:=C
 intro pins s σ H D E I h
 refine wpAny_execs_cons (wpAny_Expr_any ?_ I.quiet hs)
 refine wpAny_Call_Name_kw (ld_glob I (gl_of hg) hm ?_ hdb)
 refine PySem.W.callWith_K (h₀:=X.base) I.ok.mod.kin hk (wpAny_mono (ha pos pins s σ H _ (I.wish _) h) (fun us s1 z=>?_) fun _ _ z=>z.elim) he hpl
 obtain ⟨vs,H1,I1,r,q⟩:=z
 have I1:=I1.unwish
 refine ⟨I1.kIn,?_⟩
 have hl:us.length=ps.length:=by rw [<-r.length];exact F.len _ _ _ _ q
 have hbs:BindsTo s1 fd ⟨us,[]⟩ (ps.zip us):=by have:=hb s1 us I1.kIn (by rw [List.append_nil];exact hl);rw [List.append_nil] at this;exact this
 refine wpAny_call (codeAny_mono (F.run X.A X.stack s1 H1 ⟨us,[]⟩ us vs _ E hr I1.env0 hbs r q) fun rr s' hq=>?_)
 cases rr with
 | error e=>exact ⟨H1,s1,I1,hq⟩
 | ok fl=>
  cases fl with
  | ret u=>
   obtain ⟨v,H2,I2,_,q2⟩:=I1.after hq
   exact wpAny_execs_nil ⟨σ,H2,I2,q2⟩
  | next=>exact False.elim hq
  | brk=>exact False.elim hq
  | cont=>exact False.elim hq
end
section
variable {X:Cx} {pins:List (Addr×Obj)} {σ:St} {H H':Hp} {s s':Shared}
theorem land2 {x:Addr} {c a0:Value} {dd:Option Addr} {B h6:Heap} (I:Inv X pins σ H s) (os:s'.os=s.os) (bare:AllBare s'.gens) (un:Un (frs X.stack) [] H H' s.heap s'.heap) (hok:HOk X.prog X.w H' s'.heap) (fl:FlyD B X.stack x c a0 dd s'.heap)
  (k1:∀ b o,s.heap.get? b=some o->H b=none->b ∉ frs X.stack->B.get? b=some o) (k3:∀ b o,s.heap.get? b=some o->b ∉ frs X.stack->∃ o',B.get? b=some o') (k2:∀ b u,H' b=some u->∀ o,s'.heap.get? b=some o->B.get? b=some o)
  (st:B.StaysIn h6) (up:s'.heap.UpToSlots h6) {ox:Obj} {vx:Array Value} (hx:h6.get? x=some ox) (hc:ox.cls=c) (hd:ox.dict=dd) (hv:ox.data = .fields vx):Inv X pins σ (upd H' x (ExcD x c dd)) { s' with heap:=h6 }:=by
 obtain ⟨f1,f2,f3,f4⟩:=fl
 have xH:H' x=none:=by
  cases q:H' x with
  | none=>rfl
  | some u=>
   obtain ⟨o,ho⟩:=hok.has q
   rw [k2 x u q o ho] at f2
   cases f2
 have nofr:x ∉ frs X.stack:=fun hm=>by
  obtain ⟨_,o,ho,nd⟩:=f3.mem hm
  obtain ⟨oe,vs,T,oT,ts,he,_,_,_,hd,_⟩:=f4
  rw [he] at ho
  cases ho
  exact nd vs hd
 have old:∀ b o,s.heap.get? b=some o->b≠x:=fun b o e z=>by
  by_cases hm:b∈frs X.stack
  ·exact nofr (z ▸ hm)
  ·obtain ⟨o',q⟩:=k3 b o e hm
   rw [z,f2] at q
   cases q
 have trk:∀ b u,H b=some u->b≠x:=fun b u e=>by
  obtain ⟨o,ho⟩:=I.hok.has e
  exact old b o ho
 have un':Un (frs X.stack) [] H (upd H' x (ExcD x c dd)) s.heap h6:=by
  refine ⟨fun b o e n nf _=>st b o (k1 b o e n nf),fun b o e n hf hb=>?_,fun b o e n hb=>?_,fun b o e hb=>?_,fun b xs e=>?_,fun b o u e=>?_,fun b ps e=>?_⟩
  ·obtain ⟨sl,e1⟩:=un.slot b o e n hf hb
   obtain ⟨_,o',ho',nd⟩:=f3.mem hf
   rw [e1] at ho'
   cases ho'
   obtain ⟨sl2,e2⟩:=up b _ e1 nd
   exact ⟨sl2,e2⟩
  ·rw [upd_ne (old b o e)]
   exact un.free b o e n hb
  ·by_cases hm:b∈frs X.stack
   ·obtain ⟨_,o2,ho2,nd⟩:=f3.mem hm
    obtain ⟨sl2,e2⟩:=up b _ ho2 nd
    exact ⟨_,e2⟩
   ·obtain ⟨o',q⟩:=k3 b o e hm
    exact ⟨o',st b o' q⟩
  ·rw [upd_ne (trk b _ e)];exact un.tups b xs e
  ·rw [upd_ne (trk b _ e)];exact un.frzs b o u e
  ·rw [upd_ne (trk b _ e)];exact un.tbls b ps e
 have hok':HOk X.prog X.w (upd H' x (ExcD x c dd)) h6:=fun b u e=>by
  by_cases hb:b=x
  ·subst hb
   rw [upd_same] at e
   cases e
   exact ExcD.mk hx hc hd hv
  ·rw [upd_ne hb] at e
   refine (hok b u e).stay (fun b' u' hb' e'=>?_) (fun b' z=>by rw [upd_ne (ne_of_none z xH)];exact z) fun b' xs z=>by rw [upd_ne (ne_of_none z xH)];exact z
   rcases hb' with rfl | z
   ·exact st b' u' (k2 b' u e u' e')
   ·exact st b' u' (k2 b' _ z u' e')
 exact I.call' (s':={ s' with heap:=h6 }) (ch:=[]) os un' hok' bare (fun b z=>absurd z (by simp))
end
section
variable {X:Cx} {np hpos pos:Pos} {body suite:List Stmt} {b₀:Stmt} {tb:XK->TS} {ts:TS}
def tTry2 (K:PySem.W.Frag) (B:Addr) (i:Nat) (tb:XK->TS) (ts:TS):TS:=fun D σ H=>tb (fun c dd H'=>exmOne K c (.ref B)=some true/\∀ x,H' x=none->ts { nx:=fun σ2 H2=>D.nx (σ2.set i none) H2,rt:=fun _ _=>False } (σ.set i (some (.ref x))) (upd H' x (ExcD x c dd))) D σ H
theorem s_try2 (x n:Str) (i:Nat) {B:Addr} {mg':Str->Option Value} (hm:mg' x=some (.ref B)) (hX:X.mg=mg') (hN:X.N.Nodup) (hb:PB2 X body tb) (hs:∀ a,PSs (X.held a) (b₀ :: suite) ts)
  (hst:X.stack=X.env :: X.outer/\X.env.frame=some X.env.locals:=by exact ⟨rfl,rfl⟩) (hi:X.N[i]? = some n:=by with_unfolding_all rfl) (hk:(X.env.scope.names.lookup n == some .local)=true:=by kernel_rfl) (hg:gB X x=true:=by kernel_rfl) (hdb:(x == ("__debug__" : Str))=false:=by kernel_rfl) :
  PS X (.Try body [.ExceptHandler (some (.Name x np)) (some n) (b₀ :: suite) hpos] [] [] pos) (tTry2 X.K B i tb ts):=by
 have hk:X.env.scope.names.lookup n=some .local:=eq_of_beq hk
 intro pins s σ H D I h
 refine wpAny_Try_except (wpAny_mono (hb pins s σ H D _ I h) (fun fl s1 z=>?_) fun e s1 z=>?_)
 ·cases fl with
  | next=>exact wpAny_execs_nil z
  | _=>exact z
 ·obtain ⟨H1,s1',I1,y,c,a0,dd,Bs,H2,rfl,os,bare,un,hok,fl,k1,k3,k2,hx,q⟩:=z
  have frm:X.A.frames=some (X.env :: X.outer):=by rw [I1.ok.frames,hst.1]
  have fl':FlyD Bs (X.env :: X.outer) y c a0 dd s1.heap:=by rw [<-hst.1];exact fl
  have xH:H2 y=none:=by
   cases z:H2 y with
   | none=>rfl
   | some u=>
    obtain ⟨o,ho⟩:=hok.has z
    have:=fl.2.1
    rw [k2 y u z o ho] at this
    cases this
  refine look_D frm hst.2 fl' fun h4 held4 up4=>?_
  refine land_D held4 fun h5 fl5 up5=>?_
  obtain ⟨o5,v5,_,_,_,hy5,hc5,hd5,_,hv5,_⟩:=id fl5.2.2.2
  have I5:=land2 I1 os bare un hok fl k1 k3 k2 fl5.1 (up4.trans up5) hy5 hc5 hd5 hv5
  refine wpAny_handleBy_cons (codeAny_handlers_test (wpAny_noRaise (ld_glob (I5.held (x:=y)) (gl_of (X:=X.held y) hg) (by show X.mg x=_;rw [hX];exact hm) ?_ hdb))) (by intro z;cases z)
  refine wpAny_noRaise ((exm_one (I5.kIn) (by have:=(Looks.ld (part:=none) hy5).andThen (f:=fun o=>pure o.cls) (M:=model X.prog X.w) Looks.now;rw [hc5] at this;exact this) hx).here ?_)
  refine codeAny_handlers_suite_as ?_
  refine land_D2 fl5 fun h6 fl6 up6=>?_
  obtain ⟨o6,v6,_,_,_,hy6,hc6,hd6,_,hv6,_⟩:=id fl6.2.2.2
  have I6:=land2 I1 os bare un hok fl k1 k3 k2 fl6.1 ((up4.trans up5).trans up6) hy6 hc6 hd6 hv6
  refine store_ok (X:=X.held y) (v:=.ref y) I6.held hN hi (.inl hk) rfl (fun s7 I7=>?_) (.inr hk)
  refine wpAny_mono (hs y pins s7 _ _ _ I7 (q y xH)) (fun fl8 s8 z8=>?_) fun _ _ z8=>z8.elim
  cases fl8 with
  | next=>
   obtain ⟨σ8,H8,I8,q8⟩:=z8
   exact name_goes (I8.unheld I1.ok) hN hi hk fun s9 I9=>⟨_,H8,I9,q8⟩
  | brk=>obtain ⟨_,_,_,q8⟩:=z8;exact q8.elim
  | cont=>obtain ⟨_,_,_,q8⟩:=z8;exact q8.elim
  | ret u=>obtain ⟨_,_,_,_,_,q8⟩:=z8;exact q8.elim
end
end L2
end
section
namespace L2
open PySem PySem.Spec PyProof.Rows PySem.W
section
variable {P:Program} {w:World} {K:PySem.W.Frag} {mg:Str->Option Value} {base:Heap}
end
section
variable {X:Cx} {y:Addr} {p pos:Pos} {e:Expr} {es:List Expr} {t:TA} {k:Nat} {ps:List Str} {sp:Sp}
end
end L2
end
section
namespace L2
open PySem PySem.Spec PyProof.Rows PySem.W
section
variable {X:Cx} {p pos:Pos} {e:Expr} {es:List Expr} {t:TA} {k:Nat} {ps:List Str} {sp:Sp}
theorem fn_canY0 (x:Str) {P':Program} {w':World} {K':PySem.W.Frag} {mg':Str->Option Value} {base':Heap} (C:CanY P' w' K' mg' base' x k ps sp) (hX:X.prog=P'/\X.w=w'/\X.K=K'/\X.mg=mg'/\X.base=base') (hr:Room k X.A) (ha:PA X (e :: es) t) (hg:gB X x=true:=by kernel_rfl)
  (hdb:(x == ("__debug__" : Str))=false:=by kernel_rfl) (he:starEach (e :: es) X.env=(false,eval e X.env) :: starEach es X.env:=by kernel_rfl) (hpl:(backTo pos (starEach es X.env)).any (·.1)=false:=by kernel_rfl):PE X (.Call (.Name x p) (e :: es) [] pos) (tCan sp t):=by
 obtain ⟨rfl,rfl,rfl,rfl,rfl⟩:=hX
 obtain ⟨f,fd,F,hm,hk,hb⟩:=C
 have hx:Passes (CX2 X.prog X.w) X E0:=fun pins σ H s e s' I ⟨_,_,_,_,_,_,_,_,_,_,_,_,_,_,_,q⟩=>False.elim q
 have h:=pe_call (pos:=pos) (p:=p) F hr (gl_of hg) hm hk hb .nil hx ha hdb he hpl
 intro pins s σ H Q I q
 refine thn (h pins s σ H Q I ?_) fun _ _ z=>z
 have ee:tCall sp [] E0 t=tCan sp t:=by funext σ H Q;unfold tCall tCan;simp only [List.append_nil]
 rw [ee]
 exact q
end
end L2
namespace L2
open PySem PySem.Spec PyProof.Rows
end L2
end
section
namespace L2
open PySem PySem.Spec PyProof.Rows PySem.W
open PySem.Builtin PySem.Builtin.Str in
theorem replaceE {prog:Program} {w:World} {A:Around} {E:Value->Shared->Prop} {s:Shared} {x y z:Str} {t u v:Tok} {Q:Value->Shared->Prop} (hu:u≠0) (hv:v≠0) (huv:u≠v) (hyz:(y == z)=false) (hb:x.length+(x.length+1) * z.length<=16777216)
  (hq:∀ t' k,s.toks<=k->Q (.str (Txt.replace x y z) t') { s with toks:=k }):wpAny (model prog w) A (call (.builtin "str.replace") [.str x t,.str y u,.str z v]) Q E s:=by
 have hl:tooLong (x.length+(occurrences x y 0 x.length (x.length+1)).length * z.length)=false:=by
  have h1:=StrLaws.occ_length_le x y 0 x.length (x.length+1)
  have h2:(occurrences x y 0 x.length (x.length+1)).length * z.length<=(x.length+1) * z.length:=Nat.mul_le_mul_right _ h1
  unfold tooLong sizeLine
  exact decide_eq_false (by omega)
 refine call_gives F.slot_str_replace (typeIs_str _ _ _) F.entry_str_replace (F.args_str_replace_3 _ _ _)
  (gives_str_replace x y z t u v fun _=>⟨by simp [hu,hv],by simp [huv],hyz,hl⟩) ?_
 have hq':=hq
 unfold Txt.replace at hq'
 cases hc:((occurrences x y 0 x.length (x.length+1)).isEmpty || (y.length == 0 && z.length == 0))
 ·rw [hc] at hq'
  simp only [Bool.false_eq_true,if_false] at hq' ⊢
  exact ⟨fits_replaced y hb,hq' _ _ (Nat.le_succ _)⟩
 ·rw [hc] at hq'
  simp only [if_true] at hq' ⊢
  exact hq' t s.toks (Nat.le_refl _)
def PE1 (X:Cx) (e:Expr) (t:TE):Prop:=
 ∀ (pins:List (Addr×Obj)) (s:Shared) (σ:St) (H:Hp) (Q:VK),s.toks≠0->Inv X pins σ H s->t σ H Q->wpAny (model X.prog X.w) X.A (eval e X.env) (fun u s'=>EP X pins σ Q u s'/\s'.toks≠0) X.xe s
section
variable {X:Cx} {p pos apos cpos p1 p2:Pos} {e o:Expr} {es:List Expr} {t:TA} {to:TE} {y z:Str} {j1 j2:Nat}
theorem var1 {i:Nat} {x:Str} (hN:X.N[i]? = some x) (hv:Vis X.env.scope x) (hd:(x == ("__debug__" : Str))=false) (hcd:(x == ("__classdict__" : Str))=false) {pins:List (Addr×Obj)} {s:Shared} {σ:St} {H:Hp} {Q:VK} (I:Inv X pins σ H s) (h:tVar i σ H Q) :
  wpAny (model X.prog X.w) X.A (eval (.Name x pos) X.env) (fun u s'=>EP X pins σ Q u s'/\s'=s) X.xe s:=by
 obtain ⟨v,e,h⟩:=h
 obtain ⟨m,hn,hl⟩:=I.loc
 obtain ⟨u,r,l⟩:=hl i x v hN e hv
 have fin:EP X pins σ Q u s/\s=s:=⟨⟨v,H,I,r,h⟩,rfl⟩
 rcases l with ⟨hk,hm⟩ | ⟨hk,c,hc,hcell⟩
 ·exact wpAny_Name (wpAny_loadName_local I.ok.kind hk hn hm fin) hd
 ·rcases hk with hk | hk
  ·exact wpAny_Name (wpAny_loadName_cell I.ok.kind hk hc hcell fin) hd
  ·exact wpAny_Name (wpAny_loadName_free I.ok.kind hk hc hcell fin hcd) hd
def tRepl (y z:Str) (to:TE):TE:=fun σ H Q=>to σ H fun x H1=>∃ q,x = .str q/\q.length+(q.length+1) * z.length<=16777216/\Q (.str (Txt.replace q y z)) H1
theorem n1 (x:Str) (i:Nat) (hN:X.N[i]? = some x:=by with_unfolding_all rfl) (hv:visB X.env.scope x=true:=by kernel_rfl):PE1 X (.Name x pos) (tVar i):=by
 intro pins s σ H Q h0 I h
 exact thn (var1 hN (vis_of hv).1 (vis_of hv).2.1 (vis_of hv).2.2 I h) fun u s' ⟨e1,e2⟩=>⟨e1,by rw [e2];exact h0⟩
end
end L2
end
section
namespace L2
open PySem PySem.Spec PyProof.Rows
def mkS (l:List Nat):Str:=⟨l.toArray⟩
theorem mkS_len (l:List Nat):(mkS l).length=l.length:=by show l.toArray.size=_;simp
theorem mkS_cps (l:List Nat):(mkS l).cps.toList=l:=by show l.toArray.toList=l;simp
theorem mkS_of (z:Str):z=mkS z.cps.toList:=by cases z;simp [mkS]
theorem bs_mkS (w:List Bool):bs w=mkS (w.map sg):=rfl
def is01 (c:Nat):Bool:=c == 48 || c == 49
theorem is01_bs {l:List Nat} (h:l.all is01=true):∃ w:List Bool,l=w.map sg:=by
 refine ⟨l.map (· == 49),?_⟩
 rw [List.map_map]
 induction l with
 | nil=>rfl
 | cons a l ih=>
  rw [List.all_cons,Bool.and_eq_true] at h
  rw [List.map_cons,<-ih h.2]
  congr 1
  have:=h.1
  unfold is01 at this
  rw [Bool.or_eq_true,beq_iff_eq,beq_iff_eq] at this
  rcases this with rfl | rfl<;>rfl
theorem strip_any (l:List Nat):decide (Txt.stripChars (mkS l) ("01" : Str)=("" : Str))=l.all is01:=by
 cases h:l.all is01 with
 | true=>
  obtain ⟨w,rfl⟩:=is01_bs h
  exact decide_eq_true (by rw [<-bs_mkS,strip01,bs_nil])
 | false=>
  refine decide_eq_false fun e=>?_
  have hg:∀ c,("01" : Str).cps.contains c=is01 c:=fun c=>by
   have:("01" : Str).cps = #[48,49]:=by decide +kernel
   rw [this]
   unfold is01
   by_cases h1:c=48
   ·subst h1;decide +kernel
   ·by_cases h2:c=49
    ·subst h2;decide +kernel
    ·have e1:(c == 48)=false:=beq_false_of_ne h1
     have e2:(c == 49)=false:=beq_false_of_ne h2
     rw [e1,e2]
     simp [h1,h2]
  unfold Txt.stripChars at e
  rw [stripBy_eq] at e
  obtain ⟨l1,l2,l3⟩:=lo_facts ("01" : Str).cps.contains (mkS l)
  have ne:stripLo ("01" : Str).cps.contains true (mkS l)≠(mkS l).length:=fun z=>by
   have:l.all is01=true:=List.all_eq_true.mpr fun x hx=>by
    obtain ⟨k,hk,rfl⟩:=List.getElem_of_mem hx
    have:=l2 k (by rw [z,mkS_len];exact hk)
    rw [hg,<-getD_list,mkS_cps,List.getD_eq_getElem?_getD,List.getElem?_eq_getElem hk] at this
    exact this
   rw [h] at this;cases this
  have l3:=l3.resolve_left ne
  generalize stripLo ("01" : Str).cps.contains true (mkS l)=lo at *
  obtain ⟨h1,h2,h3,h4⟩:=hi_facts ("01" : Str).cps.contains (mkS l) lo l1
  generalize stripHi ("01" : Str).cps.contains true (mkS l) lo=hi at *
  have lt:lo < hi:=by
   rcases Nat.lt_or_ge lo hi with z | z
   ·exact z
   ·have:=h3 lo z (by omega)
    rw [l3] at this;cases this
  have:=congrArg Str.length e
  have e0:(("" : Str)).length=0:=by decide +kernel
  rw [e0] at this
  unfold Builtin.Str.strSub at this
  simp [Str.length] at this
  unfold Str.length at h2
  omega
theorem repl_any (l:List Nat):decide (Txt.replace (Txt.replace (mkS l) ("0" : Str) ("" : Str)) ("1" : Str) ("" : Str)=("" : Str))=l.all is01:=by
 have e0:("0" : Str)=⟨#[48]⟩:=by decide +kernel
 have e1:("1" : Str)=⟨#[49]⟩:=by decide +kernel
 have e2:("" : Str)=⟨#[]⟩:=by decide +kernel
 rw [e0,e1,e2]
 have h:=replace_strikes (Txt.replace (mkS l) ⟨#[48]⟩ ⟨#[]⟩) 49
 rw [replace_strikes (mkS l) 48,mkS_cps] at h
 have hz:∀ z:Str,(z=⟨#[]⟩)↔z.cps.toList=[]:=fun z=>by cases z;simp
 rw [show (l.all is01)=decide ((l.filter (· != 48)).filter (· != 49)=[]) from ?_]
 ·exact decide_eq_decide.mpr (by rw [hz,h])
 ·clear h
  rw [List.filter_filter]
  induction l with
  | nil=>rfl
  | cons a l ih=>
   rw [List.all_cons,ih,List.filter_cons]
   unfold is01
   by_cases a0:a=48
   ·subst a0;simp
   ·by_cases a1:a=49
    ·subst a1;simp
    ·simp [a0,a1]
def pcs (n:Nat) (xs:List Nat):Nat:=(xs.length+n - 1) / n
end L2
end
section
namespace L2
open PySem PySem.Spec PyProof.Rows
theorem slice_from (xs:List Nat) (j:Int) (h:0<=j):Txt.slice (mkS xs) (some j) none=mkS (xs.drop j.toNat):=by
 have hl:=mkS_len xs
 have e1:Txt.slice (mkS xs) (some j) none=StrLaws.sliceText (mkS xs) (some j) none:=rfl
 rw [e1]
 rcases Int.lt_or_le (xs.length:Int) j with h0 | h0
 ·have e:StrLaws.sliceText (mkS xs) (some j) none=StrLaws.sliceText (mkS xs) (some (xs.length:Int)) none:=by
   unfold StrLaws.sliceText
   have:Builtin.Str.strSliceIndices (some j) none 1 (mkS xs).length=Builtin.Str.strSliceIndices (some (xs.length:Int)) none 1 (mkS xs).length:=by
    rw [hl]
    have h2:¬ (j < 0):=by omega
    have h3:max 0 (min j (xs.length:Int))=(xs.length:Int):=by omega
    have h5:¬ ((xs.length:Int) < 0):=by omega
    simp [Builtin.Str.strSliceIndices,h2,h3,h5]
   rw [this]
  rw [e,StrLaws.sliceText_from ⟨by omega,by rw [mkS_cps];omega⟩,mkS_cps,Int.toNat_natCast,List.drop_length,List.take_nil,List.drop_of_length_le (by omega)]
  rfl
 ·rw [StrLaws.sliceText_from ⟨h,by rw [mkS_cps];exact h0⟩,mkS_cps,List.take_of_length_le (by rw [List.length_drop];omega)]
  rfl
theorem slice_to (xs:List Nat) (j:Int) (h:0<=j) (h1:j<=xs.length):Txt.slice (mkS xs) none (some j)=mkS (xs.take j.toNat):=by
 have e1:Txt.slice (mkS xs) none (some j)=StrLaws.sliceText (mkS xs) none (some j):=rfl
 rw [e1,StrLaws.sliceText_to ⟨h,by rw [mkS_cps];exact h1⟩,mkS_cps,List.drop_zero,Int.sub_zero]
 rfl
end L2
end
section
namespace L2
open PySem PySem.Spec PyProof.Rows
section
variable {X:Cx} {p pos p2:Pos} {a b e st:Expr} {es:List Expr} {t:TA} {te:TE} {ts:TO}
end
section
variable {H H':Hp} {n:Nat} {v:V} {a:Addr} {xs:List V}
end
noncomputable def wo (F:Addr->Prop) (H:Hp):Hp:=fun b=>@ite _ (F b) (Classical.propDecidable _) none (H b)
section
variable {F:Addr->Prop} {H H':Hp} {b:Addr} {o:HO}
theorem wo_at (h:H b=some o) (n:¬ F b):wo F H b=some o:=by
 unfold wo
 rw [if_neg n];exact h
theorem wo_inv (h:wo F H b=some o):¬ F b/\H b=some o:=by
 unfold wo at h
 by_cases c:F b
 ·rw [if_pos c] at h;cases h
 ·rw [if_neg c] at h;exact ⟨c,h⟩
theorem Off.wo (h:Off F H H'):Same (wo F H) (wo F H'):=fun b o e=>let ⟨n,e⟩:=wo_inv e;wo_at (h b o e n) n
theorem Same.wo (h:Same H H'):Same (wo F H) (wo F H'):=fun b o e=>let ⟨n,e⟩:=wo_inv e;wo_at (h b o e) n
end
end L2
end
section
namespace L2
open PySem PySem.Spec PyProof.Rows
def tEmp:TE:=fun _ H Q=>∀ d,H d=none->Q (.ref d) (upd H d (.dK []))
theorem e_dict {X:Cx} {pos:Pos}:PE X (.Dict [] [] pos) tEmp:=pe_dnewK
end L2
end
section
namespace L2
open PySem PySem.Spec PyProof.Rows
section
variable {X:Cx} {p pos:Pos} {e:Expr} {es:List Expr} {t:TA}
end
end L2
end
section
namespace L2
open PySem PySem.Spec PyProof.Rows
def SameT (P:Addr) (H H':Hp):Prop:=∀ b o,b≠P->H b=some o->H' b=some o
theorem SameT.refl (P:Addr) (H:Hp):SameT P H H:=fun _ _ _ h=>h
theorem SameT.trans {P:Addr} {H H1 H2:Hp} (a:SameT P H H1) (b:SameT P H1 H2):SameT P H H2:=fun c o n h=>b c o n (a c o n h)
theorem Same.t {P:Addr} {H H':Hp} (a:Same H H'):SameT P H H':=fun c o _ h=>a c o h
section
variable {X:Cx} {pins:List (Addr×Obj)} {σ:St} {H:Hp} {s:Shared}
theorem Mod.keeps {K:PySem.W.Frag} {mg:Str->Option Value} {base base':Heap} (M:Mod K mg base) (k:∀ b o,base.get? b=some o->base'.get? b=some o):Mod K mg base':=
 ⟨M.kin.keeps k,M.glob.keeps k,let ⟨mb,a,b⟩:=M.blt;⟨mb,a.keeps k,b⟩,M.nolimit.keeps k⟩
end
section
variable {X:Cx} {p pos lp:Pos} {a:Expr} {ta:TE}
end
end L2
end
section
namespace Om
section
variable {α:Type} [DecidableEq α]
end
end Om
namespace L2
open PySem PySem.Spec PyProof.Rows
section
variable {prog:Program} {w:World} {A:Around} {I:Addr} {fp wr:List Addr} {G:Array GenState->Array GenState->Prop} {n:Nat} {P:Nat->Value->Prop} {St:Nat->Shared->Prop} {κ:Type} [DecidableEq κ] {knd:KeyKind prog w κ}
end
section
variable {X:Cx} {p pos:Pos} {e:Expr} {es:List Expr} {t:TA}
end
end L2
end
section
namespace Om
section
variable {ts:List Int} {g:Nat} {f:Nat->Bool}
def val (f:Nat->Bool) (k:Nat):Nat->Nat
 | 0=>0
 | g+1=>2 * val f k g+(if f (k+g) then 1 else 0)
end
end Om
end
section
namespace L2
open PySem PySem.Spec PyProof.Rows
section
variable {X:Cx} {p pos:Pos} {a b e:Expr} {es:List Expr} {t:TA}
end
end L2
namespace Om
end Om
end
section
namespace Om
end Om
namespace L2
open PySem PySem.Spec PyProof.Rows
section
variable {H0 H H1:Hp} {D Q:Addr} {kvs:List (Key×V)} {qs:List Nat} {c:Nat}
end
end L2
end
section
namespace Om
end Om
namespace L2
open PySem PySem.Spec PyProof.Rows
def wo1 (P:Addr) (H:Hp):Hp:=fun b=>if b=P then none else H b
theorem wo1.at {P b:Addr} {H:Hp} {o:HO} (h:H b=some o) (n:b≠P):wo1 P H b=some o:=by unfold wo1;rw [if_neg n];exact h
theorem wo1.same {P:Addr} {H H':Hp} (s:SameT P H H'):Same (wo1 P H) H':=fun b o e=>by
 unfold wo1 at e
 split at e
 ·cases e
 ·rename_i n
  exact s b o n e
mutual
theorem DV.wo1 {H:Hp} {P:Addr} {ps:Array Value} (hP:H P=some (.tbl ps)):∀ {v:V} {d:PyData},DV H v d->DV (wo1 P H) v d
 | _,_,.non=>.non
 | _,_,.bl b=>.bl b
 | _,_,.int i=>.int i
 | _,_,.str x=>.str x
 | _,_,.lst h r=>.lst (wo1.at h (ne_of h hP (fun z=>nomatch z))) (DVs.wo1 hP r)
 | _,_,.tup h r=>.tup (wo1.at h (ne_of h hP (fun z=>nomatch z))) (DVs.wo1 hP r)
 | _,_,.dic h=>.dic (wo1.at h (ne_of h hP (fun z=>nomatch z)))
theorem DVs.wo1 {H:Hp} {P:Addr} {ps:Array Value} (hP:H P=some (.tbl ps)):∀ {vs:List V} {ds:List PyData},DVs H vs ds->DVs (wo1 P H) vs ds
 | _,_,.nil=>.nil
 | _,_,.cons h r=>.cons (DV.wo1 hP h) (DVs.wo1 hP r)
end
theorem SameT.free {P:Addr} {H H':Hp} {l:Addr} (s:SameT P H H') (h:H' l=none) (n:l≠P):H l=none:=by
 cases q:H l with
 | none=>rfl
 | some o=>rw [s l o n q] at h;cases h
end L2
end
section
namespace Om
end Om
namespace L2
open PySem PySem.Spec PyProof.Rows
section
variable {H0 H H':Hp} {a b:Addr} {qs:List Addr} {k n:Nat} {rows:Om.Rows}
end
end L2
end
section
namespace Om
end Om
namespace L2
open PySem PySem.Spec PyProof.Rows
theorem ixN_nat {n i:Nat} (h:i < n):ixN n ((i:Nat):Int)=some i:=by rw [ixN_in (by omega) (by omega),Int.toNat_natCast]
section
variable {F:Addr->Prop} {H0 H H' G:Hp} {d P:Addr} {pos:Pos} {qual:Str}
theorem Deck.lst (h:Deck F H d) {b:Addr} (z:F b):∃ xs,H b=some (.lst xs):=by
 obtain ⟨p,qs,n,h1,h2,h3,h4,h5,h6⟩:=h.ex
 rcases (h6 b).mp z with rfl | rfl | z
 ·exact ⟨_,h1⟩
 ·exact ⟨_,h2⟩
 ·obtain ⟨c,f,m,e⟩:=h5 b z
  exact ⟨_,e⟩
end
end L2
end
section
namespace L2
open PySem PySem.Spec PyProof.Rows
end L2
end
section
namespace L2
open PySem PySem.Spec PyProof.Rows
section
variable {X:Cx} {p pos:Pos} {k v:Expr} {tk tv:TE}
end
end L2
end
section
namespace Om
section
variable {k n:Nat} {rows:Rows} {a b c:Nat} {w v:List Bool}
end
end Om
end
section
namespace Om
section
variable {α:Type} [DecidableEq α] {xs:List α} {x y:α}
end
end Om
namespace L2
open PySem PySem.Spec PyProof.Rows
section
variable {κ N:Type} [DecidableEq κ] [DecidableEq N]
end
def tk (u:List Bool):Key:=Sum.inr (bs u)
section
variable {H0 H H1:Hp} {D Q:Addr} {kvs:List (List Key×V)} {xs:List (List Bool×Nat)} {bz:List Addr}
end
end L2
end
section
namespace L2
open PySem PySem.Spec PyProof.Rows
end L2
end
section
namespace Om
end Om
namespace L2
open PySem PySem.Spec PyProof.Rows
section
variable {H0 H H1:Hp} {D:Addr} {kvs:List (Key×V)} {us:List (List Bool)} {L:Nat} {S S':List Bool->Prop}
end
end L2
end
section
namespace Om
end Om
namespace L2
open PySem PySem.Spec PyProof.Rows
section
variable {H2 H H1:Hp} {D E Mo:Addr} {kvs:List (Key×V)} {us:List (List Bool)} {L:Nat} {S:List Bool->Prop} {ekvs:List (Key×V)} {vs:List (List Bool)} {M:Nat} {B B':List Bool->Prop} {mkvs:List (List Key×V)} {ys:List (List Bool×Nat)} {A A':List Bool×Nat->Prop}
end
end L2
end
section
namespace L2
open PySem PySem.Spec PyProof.Rows
section
variable {X:Cx} {pos:Pos} {e:Expr} {es:List Expr} {n:Nat} {d:PyData} {ds:List PyData}
end
end L2
end
section
namespace L2
open PySem PySem.Spec PyProof.Rows
theorem SqL.wo1 {K:PySem.W.Frag} {H:Hp} {a P:Addr} {xs:List V} {ps:Array Value} (h:SqL K H a xs) (hP:H P=some (.tbl ps)):SqL K (wo1 P H) a xs:=by
 rcases h with (h | ⟨o,h⟩) | h
 ·exact .inl (.inl (wo1.at h (ne_of h hP (fun z=>nomatch z))))
 ·exact .inl (.inr ⟨o,wo1.at h (ne_of h hP (fun z=>nomatch z))⟩)
 ·exact .inr h
section
variable {H H':Hp} {kvs:List (Key×V)} {ls:List Nat} {rows:Om.Rows}
end
end L2
end
section
namespace L2
open PySem PySem.Spec PyProof.Rows
section
variable {X:Cx} {p pos:Pos} {e:Expr} {es:List Expr} {t:TA}
end
end L2
end
section
namespace L2
open PySem PySem.Spec PyProof.Rows
section
variable {X:Cx}
variable {elt target iter:Expr} {ifs:List Expr} {scope:Scope} {pos spos:Pos} {wi:TI} {g:TG} {tt:TT} {te:TE}
end
end L2
end
section
namespace L2
open PySem PySem.Spec PyProof.Rows
section
variable {X:Cx} {tg:Expr}
end
end L2
end
section
namespace L2
open PySem PySem.Spec PyProof.Rows
section
variable {prog:Program} {w:World} {A:Around} {E:Value->Shared->Prop} {s:Shared}
end
section
variable {X:Cx} {p pos:Pos}
end
end L2
end
section
namespace Om
section
variable {rows:Rows} {turn:Int} {ks ks':List Nat} {E E':Nat->Int} {ed ed':Nat->Nat->Prop} {s l:Nat} {r:List Bool×Nat}
end
end Om
namespace L2
open PySem PySem.Spec PyProof.Rows
section
variable {H H':Hp} {kvs:List (Key×V)} {ks:List Nat} {E:Nat->Int} {c:Nat}
end
end L2
end
section
namespace L2
open PySem PySem.StrLaws Builtin Builtin.Str
abbrev ch (c:Nat):Str:=⟨#[c]⟩
theorem occ_loop (x:Str) (c:Nat):∀ (l:List Nat) (st:Array Nat×Nat),l.Pairwise (· < ·)->(∀ i∈l,st.2<=i)->st.1.size+l.length<=x.length+1 →
  (forIn l st (occBody x (ch c) x.length (x.length+1))).run.fst.toList=st.1.toList++l.filter fun i=>decide (x.cps.toList[i]? = some c)
 | [],st,_,_,_=>by simp
 | a :: l,st,hp,hs,hz=>by
  rw [List.forIn_cons]
  unfold occBody
  have h1:=List.pairwise_cons.mp hp
  have hz':st.1.size+(l.length+1)<=x.length+1:=hz
  by_cases hc:x.cps.toList[a]? = some c
  ·have hc':=(subAt_one x c a).mpr hc
   rw [if_pos ⟨⟨⟨by omega,hs a List.mem_cons_self⟩,hc'.1⟩,hc'.2⟩]
   have ih:=occ_loop x c l (st.1.push a,a+(ch c).length) h1.2 (fun i hi=>by
    have:=h1.1 i hi
    show a+1<=i
    omega) (by simp;omega)
   refine Eq.trans ih ?_
   rw [List.filter_cons,if_pos (by simpa using hc)]
   simp
  ·rw [if_neg fun h=>hc ((subAt_one x c a).mp ⟨h.1.2,h.2⟩)]
   have ih:=occ_loop x c l (st.1,st.2) h1.2 (fun i hi=>hs i (List.mem_cons_of_mem _ hi)) (by simp;omega)
   refine Eq.trans ih ?_
   rw [List.filter_cons,if_neg (by simpa using hc)]
theorem occ_one (x:Str) (c:Nat):occurrences x (ch c) 0 x.length (x.length+1)=(List.range' 0 (x.length+1)).filter fun i=>decide (x.cps.toList[i]? = some c):=by
 rw [occ_eq]
 have:=occ_loop x c (List.range' 0 (x.length+1 - 0)) (#[],0) List.pairwise_lt_range' (fun _ _=>Nat.zero_le _) (by simp)
 simpa using this
def Fre (c:Nat) (p:Str):Prop:=c ∉ p.cps.toList
theorem sub_fre {x:Str} {c a b:Nat} (h:∀ i,a<=i->i < b->x.cps.toList[i]?≠some c):Fre c (strSub x a b):=by
 intro hm
 rw [strSub_toList] at hm
 obtain ⟨i,hi⟩:=List.mem_iff_getElem?.mp hm
 have hlt:=(List.getElem?_eq_some_iff.mp hi).1
 simp only [List.length_take,List.length_drop] at hlt
 rw [List.getElem?_take_of_lt (by omega),List.getElem?_drop] at hi
 exact h (a+i) (by omega) (by omega) hi
theorem parts_fre (x:Str) (c:Nat):∀ (m a b:Nat),a<=b->b+m=x.length+1->(∀ i,a<=i->i < b->x.cps.toList[i]?≠some c) →
  ∀ p∈partsFrom x 1 a ((List.range' b m).filter fun i=>decide (x.cps.toList[i]? = some c)),Fre c p
 | 0,a,b,hab,hm,hn,p,hp=>by
  have:p=strSub x a x.length:=by simpa [partsFrom] using hp
  rw [this]
  exact sub_fre fun i h1 h2=>hn i h1 (by omega)
 | m+1,a,b,hab,hm,hn,p,hp=>by
  rw [List.range'_succ,List.filter_cons] at hp
  by_cases hc:x.cps.toList[b]? = some c
  ·rw [if_pos (by simpa using hc)] at hp
   have hp:p∈strSub x a b :: partsFrom x 1 (b+1) _:=hp
   rcases List.mem_cons.mp hp with rfl | hp
   ·exact sub_fre hn
   ·exact parts_fre x c m (b+1) (b+1) (Nat.le_refl _) (by omega) (fun i h1 h2=>by omega) p hp
  ·rw [if_neg (by simpa using hc)] at hp
   exact parts_fre x c m a (b+1) (by omega) (by omega) (fun i h1 h2=>by
    by_cases e:i=b
    ·rw [e];exact hc
    ·exact hn i h1 (by omega)) p hp
theorem fre_len {x:Str} {c:Nat} (h:x.length < 1):Fre c x:=fun hm=>by
 have:x.cps.toList.length=0:=by simp [Str.length] at h ⊢;exact h
 rw [List.length_eq_zero_iff] at this
 rw [this] at hm
 cases hm
theorem split_fre (x:Str) {c:Nat} (hc:c < 256):(∀ p∈Txt.split x (ch c),Fre c p)/\Txt.split x (ch c)≠[]/\Str.join (ch c) (Txt.split x (ch c))=x:=by
 unfold Txt.split
 split
 ·rename_i h
  have h1:PySem.Builtin.Str.strKind (ch c)=1:=by simp [PySem.Builtin.Str.strKind,hc]
  have h2:1<=PySem.Builtin.Str.strKind x:=by unfold PySem.Builtin.Str.strKind;split;exact Nat.le_refl _;split<;>decide
  have hl:x.length < 1:=by
   rw [Bool.or_eq_true,decide_eq_true_eq,decide_eq_true_eq,h1] at h
   have:(ch c).length=1:=rfl
   omega
  exact ⟨fun p hp=>by rw [List.mem_singleton.mp hp];exact fre_len hl,by simp,rfl⟩
 ·split
  ·rename_i h
   refine ⟨fun p hp=>?_,by simp,rfl⟩
   rw [List.mem_singleton.mp hp]
   intro hm
   rw [occ_one,List.isEmpty_iff,List.filter_eq_nil_iff] at h
   obtain ⟨i,hi⟩:=List.mem_iff_getElem?.mp hm
   have hlt:=(List.getElem?_eq_some_iff.mp hi).1
   refine h i ?_ (by simpa using hi)
   rw [List.mem_range'_1]
   simp [Str.length] at hlt ⊢
   omega
  ·refine ⟨fun p hp=>?_,?_,?_⟩
   ·rw [partsBetween_eq,occ_one] at hp
    exact parts_fre x c (x.length+1) 0 0 (Nat.le_refl _) (by omega) (fun i h1 h2=>by omega) p hp
   ·rw [partsBetween_eq]
    obtain ⟨p,r,e⟩:=partsFrom_ne x (ch c).length 0 (occurrences x (ch c) 0 x.length (x.length+1))
    rw [e];simp
   ·rw [<-StrLaws.glued_eq_join]
    exact glued_between_self x (ch c) _
theorem cut_uniq {c:Nat}:∀ {p q A B:List Nat},c ∉ p->c ∉ q->p++c :: A=q++c :: B->p=q/\A=B
 | [],[],A,B,_,_,h=>⟨rfl,(List.cons.inj h).2⟩
 | [],b :: q,A,B,_,hq,h=>by
  have:=(List.cons.inj h).1
  exact absurd (by rw [<-this];exact List.mem_cons_self) hq
 | a :: p,[],A,B,hp,_,h=>by
  have:=(List.cons.inj h).1
  exact absurd (by rw [this];exact List.mem_cons_self) hp
 | a :: p,b :: q,A,B,hp,hq,h=>by
  obtain ⟨h1,h2⟩:=List.cons.inj h
  obtain ⟨e1,e2⟩:=cut_uniq (fun z=>hp (List.mem_cons_of_mem _ z)) (fun z=>hq (List.mem_cons_of_mem _ z)) h2
  exact ⟨by rw [h1,e1],e2⟩
theorem join_cps (c:Nat) (p q:Str) (r:List Str):(Str.join (ch c) (p :: q :: r)).cps.toList=p.cps.toList++c :: (Str.join (ch c) (q :: r)).cps.toList:=by
 show (p++ch c++Str.join (ch c) (q :: r)).cps.toList=_
 simp only [Str.cps_append,Array.toList_append]
 simp
theorem str_ext {p q:Str} (h:p.cps.toList=q.cps.toList):p=q:=Str.ext' (Array.toList_inj.mp h)
theorem join_uniq {c:Nat}:∀ {ps qs:List Str},(∀ p∈ps,Fre c p)->(∀ p∈qs,Fre c p)->ps≠[]->qs≠[]->Str.join (ch c) ps=Str.join (ch c) qs->ps=qs
 | [],_,_,_,h,_,_=>absurd rfl h
 | _,[],_,_,_,h,_=>absurd rfl h
 | [p],[q],_,_,_,_,h=>by
  have h:p=q:=h
  rw [h]
 | [p],q :: q2 :: r,hp,hq,_,_,h=>by
  have e:p.cps.toList=_:=(congrArg (fun s:Str=>s.cps.toList) h).trans (join_cps c q q2 r)
  exact absurd (by rw [e];simp) (hp p List.mem_cons_self)
 | p :: p2 :: r,[q],hp,hq,_,_,h=>by
  have e:q.cps.toList=_:=(congrArg (fun s:Str=>s.cps.toList) h.symm).trans (join_cps c p p2 r)
  exact absurd (by rw [e];simp) (hq q List.mem_cons_self)
 | p :: p2 :: r,q :: q2 :: r2,hp,hq,_,_,h=>by
  have e:(Str.join (ch c) (p :: p2 :: r)).cps.toList=(Str.join (ch c) (q :: q2 :: r2)).cps.toList:=congrArg (fun s:Str=>s.cps.toList) h
  rw [join_cps,join_cps] at e
  obtain ⟨e1,e2⟩:=cut_uniq (hp p List.mem_cons_self) (hq q List.mem_cons_self) e
  have ih:=join_uniq (ps:=p2 :: r) (qs:=q2 :: r2) (fun x hx=>hp x (List.mem_cons_of_mem _ hx)) (fun x hx=>hq x (List.mem_cons_of_mem _ hx)) (by simp) (by simp) (str_ext e2)
  rw [str_ext e1,ih]
theorem split_join {c:Nat} (hc:c < 256) {ps:List Str} (hp:∀ p∈ps,Fre c p) (hn:ps≠[]):Txt.split (Txt.join (ch c) ps) (ch c)=ps:=by
 obtain ⟨h1,h2,h3⟩:=split_fre (Txt.join (ch c) ps) hc
 refine join_uniq h1 hp h2 hn (h3.trans ?_)
 exact StrLaws.glued_eq_join _ _
end L2
end
section
namespace L2
open PySem PySem.Spec PyProof.Rows Builtin Builtin.Str
theorem vals_from:∀ (ps:List Str) (tk:Nat),Vals (ps.map V.str) (strsFrom tk ps)
 | [],_=>.nil
 | x :: r,tk=>.cons ⟨_,rfl⟩ (vals_from r (tk+1))
section
variable {X:Cx} {p pos apos:Pos} {a b c e o:Expr} {es:List Expr} {t:TA} {to:TE}
def rSplit:V->List V->Hp->VK->Prop:=fun x vs H Q=>match x,vs with
 | .str z,[.str y]=>(y.length == 0)=false/\z.length+2<=sizeLine/\∀ l,H l=none->Q (.ref l) (upd H l (.lst ((Txt.split z y).map V.str)))
 | _,_=>False
theorem mt_splitU:MtM X "str.split" rSplit:=by
 intro pins s σ H x vs v us Q I rx rv h
 unfold rSplit at h
 split at h
 ·rename_i z y
  obtain ⟨hy,hz,q⟩:=h
  obtain ⟨t,rfl⟩:=rx
  obtain ⟨u,rfl,t',rfl⟩:=rv.one
  have q:=q _ (I.hok.fresh (Nat.le_refl _))
  have alone:Txt.split z y=[z]->EP X pins σ Q (.ref s.heap.objs.size) { s with heap:=s.heap.push { cls:=.type "list",data:=.seq [Value.str z t].toArray } }:=fun e=>by
   rw [e] at q
   exact ⟨.ref s.heap.objs.size,upd H s.heap.objs.size (.lst [.str z]),I.laid (t':=s.toks) (o:=.lst [.str z]) (fun b u e=>Heap.get?_push_of_some _ e) (Nat.le_refl _) ⟨by show 1<=sizeLine;decide,[Value.str z t],0,.cons ⟨_,rfl⟩ .nil,Heap.get?_push_size _ rfl⟩,rfl,q⟩
  have hn:(partsBetween z (occurrences z y 0 z.length (z.length+1)) y.length).length<=sizeLine:=by
   have:=StrLaws.occ_length_le z y 0 z.length (z.length+1)
   rw [length_partsBetween]
   omega
  have hT:=typeIs_str s z t
  cases h1:(decide (z.length < y.length) || decide (PySem.Builtin.Str.strKind z < PySem.Builtin.Str.strKind y)) with
  | true=>exact call_meets F.slot_str_split hT F.entry_str_split (F.args_str_split_2 _ _) (meets_str_split_cannot_occur z y t t' h1) (alone (if_pos h1))
  | false=>
   have n1:¬ (decide (z.length < y.length) || decide (PySem.Builtin.Str.strKind z < PySem.Builtin.Str.strKind y))=true:=by rw [h1];decide
   cases h2:(occurrences z y 0 z.length (z.length+1)).isEmpty with
   | true=>exact call_meets F.slot_str_split hT F.entry_str_split (F.args_str_split_2 _ _) (meets_str_split_not_found z y t t' h1 hy h2) (alone ((if_neg n1).trans (if_pos h2)))
   | false=>
    have n2:¬ (occurrences z y 0 z.length (z.length+1)).isEmpty=true:=by rw [h2];decide
    refine call_meets F.slot_str_split hT F.entry_str_split (F.args_str_split_2 _ _) (meets_str_split_sep z y t t' h1 hy h2 (by omega) hn) ?_
    have e:Txt.split z y=partsBetween z (occurrences z y 0 z.length (z.length+1)) y.length:=(if_neg n1).trans (if_neg n2)
    rw [e] at q
    exact ⟨.ref s.heap.objs.size,upd H s.heap.objs.size (.lst ((partsBetween z (occurrences z y 0 z.length (z.length+1)) y.length).map V.str)),I.laid (o:=.lst ((partsBetween z (occurrences z y 0 z.length (z.length+1)) y.length).map V.str)) (fun b u e=>Heap.get?_push_of_some _ e) (Nat.le_refl _) ⟨by rw [List.length_map];exact hn,_,0,vals_from _ _,Heap.get?_push_size _ rfl⟩,rfl,q⟩
 ·exact h.elim
theorem m_split {cpos:Pos} (ho:PE X o to) (ha:PA X (e :: es) t)
  (hbase:attributeBase o "split" X.env (eval o X.env)=eval o X.env:=by kernel_rfl)
  (hfew:((backTo cpos (starEach (e :: es) X.env)).all (fun x=>!x.1) && (backToKw cpos (keywordEach [] X.env)).all (fun x=>x.1.isSome)
   && decide ((e :: es).length+([]:List Keyword).length+(if ([]:List Keyword).isEmpty then 0 else 1) < 30))=true:=by kernel_rfl)
  (hline:(apos.endLine == cpos.line)=true:=by kernel_rfl) (hs:starEach (e :: es) X.env=(false,eval e X.env) :: starEach es X.env:=by kernel_rfl) (hplain:(backTo cpos (starEach es X.env)).any (·.1)=false:=by kernel_rfl) :
  PE X (.Call (.Attribute o "split" apos) (e :: es) [] cpos) (tMt "str" rSplit to t):=pe_mt PySem.F.plainAttrs_str PySem.F.slot_str_split PySem.F.type_str_split mt_splitU ho ha hbase hfew hline hs hplain
def rFind:V->List V->Hp->VK->Prop:=fun x vs H Q=>match x,vs with
 | .str z,[.str y]=>Q (.int (Txt.find z y)) H
 | _,_=>False
theorem mt_findU:MtM X "str.find" rFind:=by
 intro pins s σ H x vs v us Q I rx rv h
 unfold rFind at h
 split at h
 ·obtain ⟨t,rfl⟩:=rx
  obtain ⟨u,rfl,t',rfl⟩:=rv.one
  exact SC.find ⟨.int _,H,I.tok _,⟨_,rfl⟩,h⟩
 ·exact h.elim
theorem m_find {cpos:Pos} (ho:PE X o to) (ha:PA X (e :: es) t)
  (hbase:attributeBase o "find" X.env (eval o X.env)=eval o X.env:=by kernel_rfl)
  (hfew:((backTo cpos (starEach (e :: es) X.env)).all (fun x=>!x.1) && (backToKw cpos (keywordEach [] X.env)).all (fun x=>x.1.isSome)
   && decide ((e :: es).length+([]:List Keyword).length+(if ([]:List Keyword).isEmpty then 0 else 1) < 30))=true:=by kernel_rfl)
  (hline:(apos.endLine == cpos.line)=true:=by kernel_rfl) (hs:starEach (e :: es) X.env=(false,eval e X.env) :: starEach es X.env:=by kernel_rfl) (hplain:(backTo cpos (starEach es X.env)).any (·.1)=false:=by kernel_rfl) :
  PE X (.Call (.Attribute o "find" apos) (e :: es) [] cpos) (tMt "str" rFind to t):=pe_mt PySem.F.plainAttrs_str PySem.F.slot_str_find PySem.F.type_str_find mt_findU ho ha hbase hfew hline hs hplain
def rClr:V->List V->Hp->VK->Prop:=fun x vs H Q=>match x,vs with
 | .ref l,[]=>∃ xs,H l=some (.lst xs)/\Q .non (upd H l (.lst []))
 | _,_=>False
theorem e_gstr {x:Str} {z:Str} {mg':Str->Option Value} (hm:∃ tk,mg' x=some (.str z tk)) (hX:X.mg=mg') (hg:gB X x=true:=by kernel_rfl) (hd:(x == ("__debug__" : Str))=false:=by kernel_rfl):PE X (.Name x pos) (tC (.str z)):=by
 obtain ⟨tk,hm⟩:=hm
 exact pe_glob (gl_of hg) (by rw [hX];exact hm) ⟨tk,rfl⟩ hd
def rTup1:List V->Hp->VK->Prop:=fun vs H Q=>match vs with
 | [.ref p]=>∃ xs,H p=some (.lst xs)/\∀ l,H l=none->Q (.ref l) (upd H l (.tup xs))
 | _=>False
theorem call_tup1:CallR X (.type "tuple") rTup1:=call_tuple_of.of fun xs H Q q=>by
 unfold rTup1 at q
 split at q
 ·obtain ⟨ys,h,q⟩:=q
  exact ⟨_,ys,rfl,.inl ⟨SqL.of h,q⟩⟩
 ·exact q.elim
theorem fn_tup1 {mg':Str->Option Value} (hm:mg' "tuple" = none) (hX:X.mg=mg') (ha:PA X (e :: es) t) (hg:gB X "tuple" = true:=by kernel_rfl) (he:starEach (e :: es) X.env=(false,eval e X.env) :: starEach es X.env:=by kernel_rfl) (hpl:(backTo pos (starEach es X.env)).any (·.1)=false:=by kernel_rfl) :
  PE X (.Call (.Name "tuple" p) (e :: es) [] pos) (tCB rTup1 t):=pe_callTy call_tup1 (gl_of hg) (by rw [hX];exact hm) PyProof.Rows.boot_tuple ha (he:=he) (hpl:=hpl)
end
end L2
end
section
namespace L2
open PySem PySem.Spec PyProof.Rows
section
variable {X:Cx} {p pos apos:Pos} {a b e o:Expr} {es:List Expr} {t:TA} {to:TE}
end
end L2
end
section
namespace Om
end Om
end
section
namespace L2
open PySem PySem.Spec PyProof.Rows
section
variable {G H0 H H':Hp} {a A S q:Addr} {ts:List Addr} {ps:List (Nat×Nat)} {rw:Nat->List (List Bool×Nat)}
end
end L2
namespace L2
open PySem PySem.Spec PyProof.Rows
end L2
end
section
namespace L2
open PySem PySem.Spec PyProof.Rows
section
variable {X:Cx} {p pos:Pos} {a tg:Expr}
end
end L2
namespace L2
open PySem PySem.Spec PyProof.Rows
section
variable {prog:Program} {w:World} {A:Around} {E:Value->Shared->Prop} {s:Shared}
end
section
variable {X:Cx} {p p2 pos pos2:Pos} {a:Expr}
end
end L2
end
section
namespace L2
open PySem PySem.Spec PyProof.Rows
section
variable {prog:Program} {w:World} {A:Around} {E:Value->Shared->Prop} {s:Shared}
end
section
variable {X:Cx} {pos apos:Pos} {o e:Expr} {to:TE} {t:TA} {es:List Expr}
end
end L2
end
section
namespace L2
open PySem PySem.Spec PyProof.Rows
section
variable {prog:Program} {w:World} {A:Around}
end
section
variable {X:Cx} {p pos:Pos}
end
end L2
end
section
namespace L2
open PySem PySem.Spec PyProof.Rows
section
variable {X:Cx}
end
end L2
namespace L2
end L2
end
section
namespace L2
open PySem PySem.Spec PyProof.Rows
section
variable {X:Cx} {a b:Expr} {p pos:Pos} {ta:TA}
end
end L2
end
section
namespace L2
open PySem PySem.Spec PyProof.Rows PySem.W
section
variable {X:Cx}
theorem vals_strsB:∀ {ws:List Str} {us:List Value},Vals (ws.map V.str) us->StrsAre us ws
 | [],_,r=>by cases r;exact .nil
 | x :: ws,_,r=>by
  cases r with
  | cons r1 r2=>
   obtain ⟨t,rfl⟩:=r1
   exact .cons x t (vals_strsB r2)
def rNotInT:R2:=fun x y H Q=>match x,y with
 | .str z,.ref p=>∃ zs:List Str,H p=some (.lst (zs.map V.str))/\Q (.bl (!decide (z∈zs))) H
 | _,_=>False
theorem op_notInT:OpR X (compareOp .NotIn) rNotInT:=by
 intro pins s σ H x y v u Q I rx ry h
 unfold rNotInT at h
 split at h
 ·rename_i z p
  obtain ⟨zs,hp,q⟩:=h
  obtain ⟨t,rfl⟩:=rx
  cases ry
  obtain ⟨hz,its,n,r,e⟩:=I.hok _ _ hp
  refine notin_list_strs (vs:=its) (ys:=zs) ⟨_,e,rfl,_,rfl⟩ (vals_strsB r) ?_
  have:(!(zs.any (· == z)))=!decide (z∈zs):=by
   congr 1
   rw [Bool.eq_iff_iff,List.any_eq_true,decide_eq_true_eq]
   exact ⟨fun ⟨y,hy,ey⟩=>(eq_of_beq ey) ▸ hy,fun h=>⟨z,h,by simp⟩⟩
  rw [this]
  exact ⟨.bl _,H,I,rfl,q⟩
 ·exact h.elim
end
section
variable {X:Cx} {pins:List (Addr×Obj)} {σ:St} {H:Hp} {s:Shared} {h':Heap}
theorem Inv.laidN {a:Addr} {o:HO} (I:Inv X pins σ H s) (k:∀ b u,s.heap.get? b=some u->h'.get? b=some u) (hp:s.heap.get? a=none) (new:ObjOk X.prog X.w (upd H a o) h' a o):Inv X pins σ (upd H a o) { s with heap:=h' }:=by
 have Ha:H a=none:=by
  cases e:H a with
  | none=>rfl
  | some u=>
   obtain ⟨o',e'⟩:=I.hok.has e
   rw [hp] at e';cases e'
 have ne:∀ b u,H b=some u->upd H a o b=some u:=fun b u e=>by rw [upd_ne (fun z=>by rw [z,Ha] at e;cases e)];exact e
 have un:Un (frs X.stack) [] H (upd H a o) s.heap h':=by
  refine ⟨fun b u e n _ _=>k b u e,fun b u e n _ _=>⟨u.slots,k b u e⟩,fun b u e n _=>?_,fun b u e _=>⟨u,k b u e⟩,fun b xs e=>ne b _ e,fun b u v e=>ne b _ e,fun b ps e=>⟨#[],by rw [Array.append_empty];exact ne b _ e⟩⟩
  rw [upd_ne (fun z=>by rw [z,hp] at e;cases e)];exact n
 refine I.call' (s':={ s with heap:=h' }) (ch:=[]) rfl un (fun b u e=>?_) I.bare (fun b z=>absurd z (by simp))
 by_cases z:b=a
 ·subst z
  rw [upd_same] at e
  cases e
  exact new
 ·rw [upd_ne z] at e
  exact (I.hok b u e).stay (fun b' u' hb' e'=>k b' u' e') (fun b' z=>ne b' _ z) fun b' xs z=>ne b' _ z
end
section
variable {P:Program} {w:World} {K:PySem.W.Frag} {mg:Str->Option Value} {base:Heap} {N:List Str} {qual:Str} {scope:Scope} {f:Addr} {cd:Value} {A:Around} {outer:List Env} {s:Shared} {H:Hp} {E:XK}
theorem s_raiseP {x:Str} {C:Addr} {np cpos pos:Pos} {e:Expr} {es:List Expr} {t:TA} (hC:ExnOk K C) (hm:mg x=some (.ref C)) (ha:PA (cxOf (CX2 P w) P w K mg base N qual scope f cd A outer s H E) (e :: es) t)
  (hg:gB (cxOf (CX2 P w) P w K mg base N qual scope f cd A outer s H E) x=true:=by kernel_rfl) (hdb:(x == ("__debug__" : Str))=false:=by kernel_rfl)
  (he:starEach (e :: es) (cxOf (CX2 P w) P w K mg base N qual scope f cd A outer s H E).env=(false,eval e (cxOf (CX2 P w) P w K mg base N qual scope f cd A outer s H E).env) :: starEach es (cxOf (CX2 P w) P w K mg base N qual scope f cd A outer s H E).env:=by kernel_rfl)
  (hpl:(backTo cpos (starEach es (cxOf (CX2 P w) P w K mg base N qual scope f cd A outer s H E).env)).any (·.1)=false:=by kernel_rfl) :
  PS (cxOf (CX2 P w) P w K mg base N qual scope f cd A outer s H E) (.Raise (some (.Call (.Name x np) (e :: es) [] cpos)) none pos) (tRaise E C t):=by
 obtain ⟨nm,q,Nn,bs,bm,hdct,sn,sub,ab,col,dd,k0,k1,k2,k3,k5,mN,hni,hK⟩:=hC
 generalize hXX:cxOf (CX2 P w) P w K mg base N qual scope f cd A outer s H E=X at *
 intro pins s1 σ H1 D I h
 have hbase:bm.contains (.type "BaseException")=true:=(hK s1.heap (by have:=I.kIn;rw [<-hXX] at this;exact this)).2.2.hasType (by decide)
 have hpl2:(backTo cpos (starEach (e :: es) X.env)).any (·.1)=false:=by
  rw [he]
  show (false || (backTo cpos (starEach es X.env)).any (·.1))=false
  rw [hpl];rfl
 refine wpAny_Raise_call_subT (F:=PySem.F.excBase_ValueError) (mN:=mN) (nm:=nm) (q:=q) (C:=C) (N:=Nn) (bs:=bs) (bm:=bm) (hdct:=hdct) (sn:=sn) (sub:=sub) (ab:=ab) (col:=col) (dd:=dd) (k0:=k0) (k1:=k1) (k2:=k2) (k3:=k3) (k5:=k5) hbase (I.ok.hd (by rw [<-hXX];rfl)) hpl2 hni ?_
 refine ld_glob I (gl_of hg) (by rw [<-hXX];exact hm) ⟨rfl,?_⟩ hdb
 have hx:=ha cpos pins s1 σ H1 _ I h
 rw [he] at hx ⊢
 refine PySem.Calls.evalArgs_plain (thn hx fun us s2 z=>?_)
 obtain ⟨vs,H2,I2,r,q2⟩:=z
 have kin:K.In s2.heap:=by have:=I2.kIn;rw [<-hXX] at this;exact this
 obtain ⟨c1,c2,c3⟩:=hK s2.heap kin
 refine ⟨rfl,?_,c1,c2,c3,fun h' x' mx=>?_⟩
 ·show us.length<=sizeLine
  rw [<-r.length];exact le_line q2.1
 ·subst hXX
  obtain ⟨ta,ge,_,_⟩:=mx.there
  have nH:H2 x'=none:=by
   cases e:H2 x' with
   | none=>rfl
   | some u=>
    obtain ⟨o',e'⟩:=I2.hok.has e
    rw [mx.new] at e';cases e'
  obtain ⟨hp,gg,dr,tk,os⟩:=s2
  have I3:Inv (cxOf (CX2 P w) P w K mg base N qual scope f cd A outer s H E) pins σ (upd H2 x' (ExcN x' C none)) ⟨h',gg,dr,tk,os⟩:=I2.laidN (a:=x') (o:=ExcN x' C none) mx.keeps mx.new (ExcN.mk ge)
  refine esc3 I3 upd_same (fun b o eb z=>?_) ?_
  ·have un:Un (frs outer) [] H H2 s.heap hp:=I2.base
   obtain ⟨o',e'⟩:=un.there b o eb (by simp)
   have:=mx.new
   rw [z] at e'
   have this:hp.get? x'=none:=this
   rw [this] at e'
   cases e'
  ·have eH:(fun b=>if b=x' then none else upd H2 x' (ExcN x' C none) b)=H2:=by
    funext b
    by_cases z:b=x'
    ·rw [if_pos z,z,nH]
    ·rw [if_neg z,upd_ne z]
   rw [eH]
   exact q2.2
end
section
variable {X:Cx} {x:Str} {p pos apos npos:Pos} {e:Expr} {es:List Expr} {t:TA} {k:Nat} {ps:List Str} {sp:Sp}
end
end L2
end
section
namespace L2
open PySem PySem.Spec PyProof.Rows PySem.W
section
variable {X:Cx}
end
end L2
end
section
namespace L2
open PySem PySem.Spec PyProof.Rows
section
variable {X:Cx} {pins:List (Addr×Obj)} {σ:St} {H:Hp} {s:Shared} {a:Addr} {u:HO} {o:Obj}
end
section
variable {X:Cx} {st:Stmt} {t:TS}
end
end L2
end
section
namespace L2
open PySem PySem.Spec PyProof.Rows
section
variable {X:Cx} {pos apos:Pos} {o:Expr} {to:TE}
end
end L2
end
section
namespace L2
open PySem PySem.Spec PyProof.Rows
section
variable {X:Cx}
def rMulS:R2:=fun x y H Q=>match x,y with
 | .str z,.int n=>MulOk z n/\Q (.str (Txt.mul z n)) H
 | _,_=>False
theorem op_mulS:OpR X (binaryOp .Mult) rMulS:=by
 intro pins s σ H x y v u Q I rx ry h
 unfold rMulS at h
 split at h
 ·obtain ⟨t,rfl⟩:=rx
  obtain ⟨t',rfl⟩:=ry
  exact SB.mul h.1 fun t2 k=>⟨.str _,H,I.tok _,⟨_,rfl⟩,h.2⟩
 ·exact h.elim
end
end L2
end
section
namespace PySem.W
open PySem
section
variable {prog:Program} {w:World} {K:Type} [DecidableEq K] (knd:KeyKind prog w K)
variable {knd} {A:Around} {E:Value->Shared->Prop} {s:Shared}
end
end PySem.W
end
section
namespace L2
open PySem PySem.Spec PyProof.Rows PySem.W
section
variable {P:Program} {w:World} {H:Hp} {h:Heap}
end
section
variable {X:Cx} {pos:Pos}
end
end L2
end
section
namespace L2
open PySem PySem.Spec PyProof.Rows PySem.W PySem.Calls
def allS:Nat->List (List Bool)
 | 0=>[[]]
 | L+1=>(allS L).map (false :: ·)++(allS L).map (true :: ·)
end L2
end
section
namespace L2
open PySem PySem.Spec PyProof.Rows PySem.W
section
variable {X:Cx} {p pos:Pos} {e:Expr} {es:List Expr} {t:TA}
end
end L2
end
section
namespace L2
open PySem PySem.Spec PyProof.Rows PySem.W
def PEt (X:Cx) (e:Expr) (t:TE):Prop:=
 ∀ (pins:List (Addr×Obj)) (s:Shared) (σ:St) (H:Hp) (Q:VK),Inv X pins σ H s->t σ H Q->wpAny (model X.prog X.w) X.A (eval e X.env) (fun u s'=>EP X pins σ Q u s'/\s'.toks≠0) X.xe s
section
variable {X:Cx} {p pos apos cpos p1 p2:Pos} {a b e o:Expr} {es:List Expr} {t:TA} {to ta:TE} {y z:Str} {j j1 j2:Nat} {i:Int}
theorem PEt.pe (h:PEt X e to):PE X e to:=fun pins s σ H Q I q=>thn (h pins s σ H Q I q) fun _ _ h=>h.1
def rIx0:R2:=fun x y H Q=>match x,y with
 | .ref p,.int i=>0<=i/\∃ xs v,H p=some (.lst xs)/\atI xs i=some v/\Q v H
 | _,_=>False
theorem ixt (ha:PE X a ta) (hs:∀ o i',subscripted (.Constant (.int i) j p) false o i'=operate [o,i'] (getItem o i'):=by intro _ _;kernel_rfl):PEt X (.Subscript a (.Constant (.int i) j p) pos) (tOp rIx0 ta (tC (.int i))):=by
 intro pins s σ H Q I h
 refine Subscript_ (thn (ha pins s σ H _ I h) fun v s1 ⟨x,H1,I1,r1,q1⟩=>wpAny_Constant_int ?_)
 have q1:rIx0 x (.int i) H1 Q:=q1
 cases x with
 | ref p'=>
  obtain ⟨h0,xs,z,hq,he,q⟩:=q1
  cases r1
  have I2:=I1.tok (s1.toks+1)
  obtain ⟨its,r,pl,hz⟩:=I2.list (SqL.of hq)
  obtain ⟨j',h1,h2,h3,h4,h5⟩:=atI_get he
  obtain ⟨w,ew,rw'⟩:=r.get h2
  have hl:=r.length
  have hn:=line63
  have fin:EP X pins σ Q w { s1 with toks:=s1.toks+1 }:=⟨z,H1,I2,rw',q⟩
  have hj:i.toNat=j':=by
   rw [seqIndex_of h0 h5] at h1
   exact Option.some.inj h1
  exact item_listR pl.isList h0 (by omega) (by rw [hj];simpa using ew) ⟨fin,Nat.succ_ne_zero _⟩ (hs _ _)
 | _=>exact q1.elim
theorem m_replT (ho:PEt X o to) (hyz:(y == z)=false:=by kernel_rfl)
  (hbase:attributeBase o "replace" X.env (eval o X.env)=eval o X.env:=by kernel_rfl)
  (hfew:((backTo cpos (starEach [.Constant (.str y) j1 p1,.Constant (.str z) j2 p2] X.env)).all (fun x=>!x.1) && (backToKw cpos (keywordEach [] X.env)).all (fun x=>x.1.isSome)
   && decide (([.Constant (.str y) j1 p1,.Constant (.str z) j2 p2]:List Expr).length+([]:List Keyword).length+(if ([]:List Keyword).isEmpty then 0 else 1) < 30))=true:=by kernel_rfl)
  (hline:(apos.endLine == cpos.line)=true:=by kernel_rfl) :
  PEt X (.Call (.Attribute o "replace" apos) [.Constant (.str y) j1 p1,.Constant (.str z) j2 p2] [] cpos) (tRepl y z to):=by
 intro pins s σ H Q I h
 refine wpAny_Call_method_late hbase hfew hline rfl (thn (ho pins s σ H _ I h) fun v s1 ⟨⟨x,H1,I1,r1,q,ex,hb,hq⟩,h1⟩=>?_)
 subst ex
 obtain ⟨t1,rfl⟩:=r1
 have rq:RelV (.str q) (.str q t1):=⟨t1,rfl⟩
 obtain ⟨h2,h3⟩:=tyV_is (T:= "str") I1 rq (tyU_of (show tyU H1 "str" (.str q) from rfl))
 refine ⟨"str","str.replace",PySem.F.plainAttrs_str,PySem.F.slot_str_replace,PySem.F.type_str_replace,h2,h3,?_⟩
 refine Calls.callWith_builtin rfl (Calls.evalArgs_plain ?_)
 refine Calls.spliced_cons (Calls.Constant_str (k:=j1) (pos:=p1) (Calls.spliced_cons (Calls.Constant_str (k:=j2) (pos:=p2) (Calls.spliced_nil ?_))))
 refine replaceE (h1) (Nat.succ_ne_zero _) (Nat.ne_of_lt (Nat.lt_succ_self _)) hyz hb fun t' k hk=>?_
 exact ⟨⟨.str (Txt.replace q y z),H1,I1.tok _,⟨_,rfl⟩,hq⟩,fun z0=>by
  have hk:s1.toks+1+1<=k:=hk
  have z0:k=0:=z0
  omega⟩
def rInN:R2:=fun x y H Q=>match x,y with
 | .non,.ref p=>∃ xs,H p=some (.lst xs)/\(∀ v∈xs,v = .non\/∃ c ys,v = .ref c/\H c=some (.tup ys))/\Q (.bl (xs.any fun v=>decide (v = .non))) H
 | _,_=>False
def isNoneV (u:Value):Bool:=match u with | .none=>true | _=>false
theorem any_none:∀ {xs:List V} {us:List Value},Vals xs us->(∀ v∈xs,v = .non\/∃ c,v = .ref c)->us.any isNoneV=xs.any fun v=>decide (v = .non)
 | _,_,.nil,_=>rfl
 | y :: xs,u :: us,.cons r t,f=>by
  rw [List.any_cons,List.any_cons,any_none t (fun v hv=>f v (List.mem_cons_of_mem _ hv))]
  congr 1
  rcases f y List.mem_cons_self with rfl | ⟨c,rfl⟩
  ·cases r;rfl
  ·cases r;rfl
theorem mem_none {A:Around} {s:Shared} {P:Program} {w:World} {H:Hp} (hu:A.units < cLine) (hok:HOk P w H s.heap):∀ {xs:List V} {us:List Value},Vals xs us->(∀ v∈xs,v = .non\/∃ c ys,v = .ref c/\H c=some (.tup ys))->∀ u∈us,SeqAt.EqAt A s u .none (isNoneV u)
 | _,_,.nil,_=>fun u hu=>by cases hu
 | y :: xs,u :: us,.cons r t,f=>fun u' hu'=>by
  rcases List.mem_cons.mp hu' with rfl | hu'
  ·rcases f y List.mem_cons_self with rfl | ⟨c,ys,rfl,hc⟩
   ·cases r;exact SeqAt.EqAt.same _
   ·cases r
    obtain ⟨_,its,rv,o,e,hcl,n,hd⟩:=hok _ _ hc
    exact SeqAt.EqAt.tuple_none ⟨o,e,hcl,n,hd⟩ hu
  ·exact mem_none hu hok t (fun v hv=>f v (List.mem_cons_of_mem _ hv)) u' hu'
theorem op_inN (hu:X.A.units+64 < cLine):OpR X (compareOp .In) rInN:=by
 intro pins s σ H x y v u Q I rx ry h
 unfold rInN at h
 split at h
 ·rename_i p
  obtain ⟨xs,hp,hx,q⟩:=h
  cases rx
  cases ry
  obtain ⟨its,r,pl,hz⟩:=I.list (SqL.of hp)
  have hu1:X.A.in1.units < cLine:=tupleKind_room_in1 (A:=X.A) (knd:=mixKind X.prog X.w) (by omega)
  refine SeqAt.in_listAt isNoneV pl.isList (fun w hw=>mem_none hu1 I.hok r hx w (by simpa using hw)) ⟨.bl _,H,I,rfl,?_⟩
  rw [show its.toArray.any isNoneV=its.any isNoneV by simp,any_none r (fun v hv=>(hx v hv).imp id fun ⟨c,_,e,_⟩=>⟨c,e⟩)]
  exact q
 ·exact h.elim
theorem flat_strs (zs:List Str):(zs.map V.str).all flatV=true:=by
 rw [List.all_map,List.all_eq_true]
 intro x _
 rfl
theorem inV_strs (z:Str) (zs:List Str):inV (.str z) (zs.map V.str)=decide (z∈zs):=by
 unfold inV
 rw [List.any_map,Bool.eq_iff_iff,List.any_eq_true,decide_eq_true_eq]
 constructor
 ·rintro ⟨y,hy,e⟩
  have e:(y == z)=true:=e
  exact (eq_of_beq e) ▸ hy
 ·intro h
  exact ⟨z,h,show (z == z)=true by simp⟩
def rNotInQ:R2:=fun x y H Q=>match x,y with
 | .str z,.ref p=>∃ zs:List Str,H p=some (.tup (zs.map V.str))/\Q (.bl (!decide (z∈zs))) H
 | _,_=>False
theorem op_notInQ:OpR X (compareOp .NotIn) rNotInQ:=op_notIn_seq.of fun x y H Q q=>by
 unfold rNotInQ at q
 split at q
 ·obtain ⟨zs,h,q⟩:=q
  refine ⟨_,_,rfl,.inr (SqT.of h),rfl,flat_strs zs,?_⟩
  simp only [if_true]
  rw [inV_strs];exact q
 ·exact q.elim
def rIntF:List V->Hp->VK->Prop:=fun vs H Q=>match vs with
 | [.str z]=>∃ d:Nat,d < 10/\z=strI (d:Int)/\Q (.int (d:Nat)) H
 | [.bl k]=>Q (.int (if k then 1 else 0)) H
 | _=>False
theorem figs {d:Nat} (h:d < 10):strI (d:Int)=(["0","1","2","3","4","5","6","7","8","9"]:List Str).getD d "" := by
 have:d=0\/d=1\/d=2\/d=3\/d=4\/d=5\/d=6\/d=7\/d=8\/d=9:=by omega
 rcases this with rfl | rfl | rfl | rfl | rfl | rfl | rfl | rfl | rfl | rfl<;>decide +kernel
theorem call_intF:CallR X (.type "int") rIntF:=by
 intro pins s σ H xs us Q I r h
 unfold rIntF at h
 split at h
 ·rename_i z
  obtain ⟨d,hd,rfl,q⟩:=h
  obtain ⟨u,rfl,t,rfl⟩:=vals1 r
  rw [figs hd]
  have:d=0\/d=1\/d=2\/d=3\/d=4\/d=5\/d=6\/d=7\/d=8\/d=9:=by omega
  rcases this with rfl | rfl | rfl | rfl | rfl | rfl | rfl | rfl | rfl | rfl
  ·exact PySem.W.KIN.call_text (x:=("0" : Str)) (n:=0) (by decide +kernel) (by decide +kernel) ⟨.int 0,H,I.tok _,⟨_,rfl⟩,q⟩
  ·exact PySem.W.KIN.call_text (x:=("1" : Str)) (n:=1) (by decide +kernel) (by decide +kernel) ⟨.int 1,H,I.tok _,⟨_,rfl⟩,q⟩
  ·exact PySem.W.KIN.call_text (x:=("2" : Str)) (n:=2) (by decide +kernel) (by decide +kernel) ⟨.int 2,H,I.tok _,⟨_,rfl⟩,q⟩
  ·exact PySem.W.KIN.call_text (x:=("3" : Str)) (n:=3) (by decide +kernel) (by decide +kernel) ⟨.int 3,H,I.tok _,⟨_,rfl⟩,q⟩
  ·exact PySem.W.KIN.call_text (x:=("4" : Str)) (n:=4) (by decide +kernel) (by decide +kernel) ⟨.int 4,H,I.tok _,⟨_,rfl⟩,q⟩
  ·exact PySem.W.KIN.call_text (x:=("5" : Str)) (n:=5) (by decide +kernel) (by decide +kernel) ⟨.int 5,H,I.tok _,⟨_,rfl⟩,q⟩
  ·exact PySem.W.KIN.call_text (x:=("6" : Str)) (n:=6) (by decide +kernel) (by decide +kernel) ⟨.int 6,H,I.tok _,⟨_,rfl⟩,q⟩
  ·exact PySem.W.KIN.call_text (x:=("7" : Str)) (n:=7) (by decide +kernel) (by decide +kernel) ⟨.int 7,H,I.tok _,⟨_,rfl⟩,q⟩
  ·exact PySem.W.KIN.call_text (x:=("8" : Str)) (n:=8) (by decide +kernel) (by decide +kernel) ⟨.int 8,H,I.tok _,⟨_,rfl⟩,q⟩
  ·exact PySem.W.KIN.call_text (x:=("9" : Str)) (n:=9) (by decide +kernel) (by decide +kernel) ⟨.int 9,H,I.tok _,⟨_,rfl⟩,q⟩
 ·exact call_intU pins s σ H _ us Q I r h
 ·exact h.elim
theorem fn_intF {mg':Str->Option Value} (hm:mg' "int" = none) (hX:X.mg=mg') (ha:PA X (e :: es) t) (hg:gB X "int" = true:=by kernel_rfl) (he:starEach (e :: es) X.env=(false,eval e X.env) :: starEach es X.env:=by kernel_rfl) (hpl:(backTo pos (starEach es X.env)).any (·.1)=false:=by kernel_rfl) :
  PE X (.Call (.Name "int" p) (e :: es) [] pos) (tCB rIntF t):=pe_callTy call_intF (gl_of hg) (by rw [hX];exact hm) PyProof.Rows.boot_int ha (he:=he) (hpl:=hpl)
end
end L2
end
section
namespace L2
open PySem PySem.Spec PyProof.Rows PySem.W
section
variable {X:Cx} {p pos:Pos} {e:Expr} {es:List Expr} {t:TA}
def rListT:List V->Hp->VK->Prop:=fun vs H Q=>match vs with
 | [.str z]=>z.length<=1000/\∀ l,H l=none->Q (.ref l) (upd H l (.lst (z.cps.toList.map fun c=>V.str ⟨#[c]⟩)))
 | _=>False
theorem vals_at:∀ {cs:List Nat} {us:List Value},us.length=cs.length->(∀ (i:Nat) v,us[i]? = some v->∃ c u,cs[i]? = some c/\v=Value.str ⟨#[c]⟩ u)->Vals (cs.map fun c=>V.str ⟨#[c]⟩) us
 | [],[],_,_=>.nil
 | c :: cs,v :: us,hl,h=>by
  obtain ⟨c',u,e1,e2⟩:=h 0 v rfl
  cases e1
  exact .cons ⟨u,e2⟩ (vals_at (by simpa using hl) fun i v' hv=>h (i+1) v' (by simpa using hv))
 | [],_ :: _,hl,_=>by simp at hl
 | _ :: _,[],hl,_=>by simp at hl
theorem call_listT (hc:X.calm=true):CallR X (.type "list") rListT:=by
 intro pins s σ H xs us Q I r h
 unfold rListT at h
 split at h
 ·rename_i z
  obtain ⟨hz,q⟩:=h
  obtain ⟨u,rfl,t,rfl⟩:=vals1 r
  refine call_list_str (I.ok.hd hc) z t (fun h' tk acc c' hk hS hacc=>?_) (le_line hz)
  have v1:Vals (z.cps.toList.map fun c=>V.str ⟨#[c]⟩) acc.toList:=vals_at (by rw [Array.length_toList,Array.length_toList,hacc.1]) fun i v hv=>by
   obtain ⟨c,u,e1,e⟩:=hacc.2 i v (by rw [<-Array.getElem?_toList];exact hv)
   exact ⟨c,u,by rw [Array.getElem?_toList];exact e1,e⟩
  have yl:(z.cps.toList.map fun c=>V.str ⟨#[c]⟩).length<=sizeLine:=by rw [List.length_map,Array.length_toList];exact le_line hz
  exact ⟨.ref s.heap.objs.size,upd H s.heap.objs.size (.lst _),I.laid (t':=tk) (o:=.lst _) hk (Nat.le_refl _) ⟨yl,acc.toList,c',v1,by rw [hS]⟩,rfl,q _ (I.hok.fresh (Nat.le_refl _))⟩
 ·exact h.elim
theorem fn_listT {mg':Str->Option Value} (hm:mg' "list" = none) (hX:X.mg=mg') (ha:PA X (e :: es) t) (hc:X.calm=true:=by kernel_rfl) (hg:gB X "list" = true:=by kernel_rfl) (he:starEach (e :: es) X.env=(false,eval e X.env) :: starEach es X.env:=by kernel_rfl) (hpl:(backTo pos (starEach es X.env)).any (·.1)=false:=by kernel_rfl) :
  PE X (.Call (.Name "list" p) (e :: es) [] pos) (tCB rListT t):=pe_callTy (call_listT hc) (gl_of hg) (by rw [hX];exact hm) PyProof.Rows.boot_list ha (he:=he) (hpl:=hpl)
end
end L2
end
section
namespace L2
open PySem PySem.Spec PyProof.Rows Builtin Builtin.Str
theorem fre_app {c:Nat} {p q:Str} (h1:Fre c p) (h2:Fre c q):Fre c (p++q):=fun h=>by
 have e:(p++q).cps.toList=p.cps.toList++q.cps.toList:=by simp only [Str.cps_append,Array.toList_append]
 rw [e] at h
 exact (List.mem_append.mp h).elim h1 h2
theorem fre_bs {c:Nat} (h0:c≠48) (h1:c≠49) (w:List Bool):Fre c (bs w):=fun h=>by
 have e:(bs w).cps.toList=w.map sg:=by show (w.map sg).toArray.toList=_;simp
 rw [e] at h
 obtain ⟨b,_,rfl⟩:=List.mem_map.mp h
 cases b
 ·exact h0 rfl
 ·exact h1 rfl
theorem strI_cps {d:Nat} (h:d < 10):(strI (d:Int)).cps.toList=[48+d]:=by
 have:d=0\/d=1\/d=2\/d=3\/d=4\/d=5\/d=6\/d=7\/d=8\/d=9:=by omega
 rcases this with rfl | rfl | rfl | rfl | rfl | rfl | rfl | rfl | rfl | rfl<;>decide +kernel
theorem fre_strI {c d:Nat} (h:d < 10) (hc:c < 48\/57 < c):Fre c (strI (d:Int)):=fun hm=>by
 rw [strI_cps h] at hm
 have:=List.mem_singleton.mp hm
 omega
theorem fre_ch {c d:Nat} (h:c≠d):Fre c (ch d):=fun hm=>h (List.mem_singleton.mp hm)
theorem gt_ch:(">" : Str)=ch 62:=by decide +kernel
theorem comma_ch:("," : Str)=ch 44:=by decide +kernel
theorem blank_ch:(" " : Str)=ch 32:=by decide +kernel
theorem fre_rowS {c:Nat} {r:List Bool×Nat} (h:r.2 < 10) (hc:c < 48):Fre c (rowS r):=by
 unfold rowS
 rw [gt_ch]
 exact fre_app (fre_app (fre_bs (by omega) (by omega) _) (fre_ch (by omega))) (fre_strI h (.inl hc))
theorem fre_jn {c d:Nat} (h:c≠d):∀ {ps:List Str},(∀ p∈ps,Fre c p)->Fre c (Str.join (ch d) ps)
 | [],_=>fun hm=>by cases hm
 | [p],h1=>h1 p List.mem_cons_self
 | p :: q :: r,h1=>by
  show Fre c (p++ch d++Str.join (ch d) (q :: r))
  exact fre_app (fre_app (h1 p List.mem_cons_self) (fre_ch h)) (fre_jn h fun x hx=>h1 x (List.mem_cons_of_mem _ hx))
theorem tjoin (sep:Str) (ps:List Str):Txt.join sep ps=Str.join sep ps:=StrLaws.glued_eq_join _ _
theorem fre_stateS {c:Nat} {st:List (List Bool×Nat)} (h:∀ r∈st,r.2 < 10) (hc:c < 44):Fre c (stateS st):=by
 unfold stateS
 rw [comma_ch,tjoin]
 refine fre_jn (by omega) fun p hp=>?_
 obtain ⟨r,hr,rfl⟩:=List.mem_map.mp hp
 exact fre_rowS (h r hr) (by omega)
theorem split_state {st:List (List Bool×Nat)} (h:∀ r∈st,r.2 < 10) (hn:st≠[]):Txt.split (stateS st) ("," : Str)=st.map rowS:=by
 unfold stateS
 rw [comma_ch]
 refine split_join (by decide) (fun p hp=>?_) (by simpa using hn)
 obtain ⟨r,hr,rfl⟩:=List.mem_map.mp hp
 exact fre_rowS (h r hr) (by decide)
theorem split_show {k n:Nat} {rows:Om.Rows} (hk:k < 10) (hn:n < 10) (h:∀ st∈rows,∀ r∈st,r.2 < 10):Txt.split (showS k n rows) (" " : Str)=strI (k:Int) :: strI (n:Int) :: rows.map stateS:=by
 unfold showS
 rw [blank_ch]
 refine split_join (by decide) (fun p hp=>?_) (by simp)
 rcases List.mem_cons.mp hp with rfl | hp
 ·exact fre_strI hk (.inl (by decide))
 rcases List.mem_cons.mp hp with rfl | hp
 ·exact fre_strI hn (.inl (by decide))
 ·obtain ⟨st,hst,rfl⟩:=List.mem_map.mp hp
  exact fre_stateS (h st hst) (by decide)
def figS:Str:= "0123456789"
theorem find_fig {d:Nat} (h:d < 10):Txt.find figS (strI (d:Int))=(d:Int):=by
 have:d=0\/d=1\/d=2\/d=3\/d=4\/d=5\/d=6\/d=7\/d=8\/d=9:=by omega
 rcases this with rfl | rfl | rfl | rfl | rfl | rfl | rfl | rfl | rfl | rfl<;>decide +kernel
theorem strI_inj {a b:Nat} (ha:a < 10) (hb:b < 10) (h:strI (a:Int)=strI (b:Int)):a=b:=by
 have:=congrArg (fun s:Str=>s.cps.toList) h
 simp only [strI_cps ha,strI_cps hb] at this
 have:=(List.cons.inj this).1
 omega
end L2
end
section
namespace L2
open PySem PySem.Spec PyProof.Rows
def ItrAt (h:Heap) (j t:Addr) (i:Nat):Bool->Prop
 | true=>h.IsTupleIter j t i
 | false=>h.IsListIter j t i
def RowAt (h:Heap) (t:Addr) (its:Array Value):Bool->Prop
 | true=>h.IsTuple t its
 | false=>h.IsList t its
def InAt (tp:Bool) (h:Heap) (j t:Addr) (i:Nat) (its:Array Value):Prop:=ItrAt h j t i tp/\RowAt h t its tp
theorem ItrAt.to {h h':Heap} {j t:Addr} {i:Nat} {tp:Bool} (x:ItrAt h j t i tp) (e1:∀ o,h.get? j=some o->h'.get? j=some o):ItrAt h' j t i tp:=by
 cases tp<;>exact let ⟨o,ho,r⟩:=x;⟨o,e1 _ ho,r⟩
theorem RowAt.to {h h':Heap} {t:Addr} {its:Array Value} {tp:Bool} (x:RowAt h t its tp) (e1:∀ o,h.get? t=some o->h'.get? t=some o):RowAt h' t its tp:=by
 cases tp<;>exact let ⟨o,ho,r⟩:=x;⟨o,e1 _ ho,r⟩
theorem InAt.to {tp:Bool} {h h':Heap} {j t:Addr} {i:Nat} {its:Array Value} (x:InAt tp h j t i its) (e1:∀ o,h.get? j=some o->h'.get? j=some o) (e2:∀ o,h.get? t=some o->h'.get? t=some o):InAt tp h' j t i its:=⟨x.1.to e1,x.2.to e2⟩
theorem InAt.eb {tp:Bool} {h h':Heap} {j t b:Addr} {i:Nat} {its:Array Value} (x:InAt tp h j t i its) (e:Heap.ExtBut b h h') (h1:j≠b) (h2:t≠b):InAt tp h' j t i its:=x.to (fun o ho=>e _ o h1 ho) fun o ho=>e _ o h2 ho
theorem ItrAt.has {tp:Bool} {h:Heap} {j t:Addr} {i:Nat} (x:ItrAt h j t i tp):∃ o,h.get? j=some o/\∀ v,o.data≠.cell v:=by
 cases tp
 ·obtain ⟨o,ho,_,d⟩:=x
  exact ⟨o,ho,fun v z=>by rw [d] at z;cases z⟩
 ·obtain ⟨o,ho,_,d⟩:=x
  exact ⟨o,ho,fun v z=>by rw [d] at z;cases z⟩
section
variable {prog:Program} {w:World} {A:Around} {E:Value->Shared->Prop} {s:Shared}
theorem tup_next {j T:Addr} {i:Nat} {its:Array Value} {Q:Value->Shared->Prop} (hh:A.handled=none) (hj:s.heap.IsTupleIter j T i) (hT:s.heap.IsTuple T its)
  (go:∀ x,its[i]? = some x->∀ h',h'.IsTupleIter j T (i+1)->Heap.SameBut j s.heap h'->Q x { s with heap:=h' })
  (no:its[i]? = none->∀ h' e,Heap.ExtBut j s.heap h'->(∃ o,h'.get? e=some o/\o.cls = .type "StopIteration")->E (.ref e) { s with heap:=h' }) :
  wpAny (model prog w) A (Builtin.SmallTypes.nextOf (.ref j)) Q E s:=by
 have hty:=hj.typeIs
 obtain ⟨oj,e1,e2,e3⟩:=hj
 obtain ⟨oT,f1,_,nT,f3⟩:=hT
 unfold Builtin.SmallTypes.nextOf
 refine wpAny_bind (wpAny_callSpecial?_slot (name:=Str.ofString "__next__") hty F.slot_tuple_iterator_next (wpAny_call_entry F.slot_tuple_iterator_next hty F.entry_tuple_iterator_next ?_ (F.args_tuple_iterator_next_1 _)))
 change wpAny _ _ (field (.ref j) 0 >>= _) _ _ s
 refine wpAny_bind (wpAny_field e1 e3 (x:=.ref T) rfl ?_)
 change wpAny _ _ (if (Value.ref T == Value.none)=true then _ else _) _ _ s
 rw [if_neg (fun z:(Value.ref T == Value.none)=true=>Bool.false_ne_true z)]
 change wpAny _ _ (field (.ref j) 1 >>= _) _ _ s
 refine wpAny_bind (wpAny_field e1 e3 (x:=.int i 0) rfl ?_)
 change wpAny _ _ (seqItems? (.ref T) >>= _) _ _ s
 refine wpAny_bind (wpAny_seqItems f1 f3 ?_)
 cases hx:its[i]? with
 | some x=>
  simp only [hx,Int.toNat_natCast]
  refine wpAny_bind (wpAny_setField e1 e3 (by simp) (wpAny_pure ⟨x,rfl,wpAny_pure (go x hx _ ?_ (Heap.SameBut.update ..))⟩))
  refine ⟨_,Heap.get?_update_self _ e1 (Obj.isFreed_of_fields (Obj.data_mapFields e3 _)),(Obj.cls_mapFields ..).trans e2,?_⟩
  rw [Obj.data_mapFields e3]
  simp [rawInt]
 | none=>
  simp only [hx,Int.toNat_natCast]
  refine wpAny_bind (wpAny_rule (wpAny_bind (wpAny_setField e1 e3 (by simp) ?_)))
  change wpAny _ _ (newExc (.type "StopIteration") [] >>= _) _ _ _
  refine wpAny_bind ?_
  simp only [newTuple,newExc]
  refine wpAny_bind (wpAny_newObj_type ?_ (by size_fits))
  refine wpAny_bind (m:=firstArgMember _ _) (wpAny_of_eq (a:=Value.none) rfl ?_)
  refine wpAny_newObj_type ?_ (by size_fits)
  simp only [raiseNew]
  refine wpAny_bind (wpAny_handled ?_)
  have hh':A.in1.handled=none:=hh
  rw [hh']
  refine wpAny_bind (wpAny_pure (wpAny_throw (no hx _ _ (((Heap.SameBut.update ..).extBut.push _).push _) ⟨_,Heap.get?_push_size _ rfl,rfl⟩)))
theorem in_next {tp:Bool} {j t:Addr} {i:Nat} {its:Array Value} {Q:Value->Shared->Prop} (hh:A.handled=none) (hj:InAt tp s.heap j t i its) (ne:t≠j)
  (go:∀ x,its[i]? = some x->∀ h',InAt tp h' j t (i+1) its->Heap.SameBut j s.heap h'->Q x { s with heap:=h' })
  (no:its[i]? = none->∀ h' e,Heap.ExtBut j s.heap h'->(∃ o,h'.get? e=some o/\o.cls = .type "StopIteration")->E (.ref e) { s with heap:=h' }) :
  wpAny (model prog w) A (Builtin.SmallTypes.nextOf (.ref j)) Q E s:=by
 obtain ⟨a,b⟩:=hj
 cases tp
 ·cases hx:its[i]? with
  | some x=>exact wpAny_nextOf_list_item a b hx fun h' a' sb=>go x hx h' ⟨a',b.to fun o e=>sb.extBut _ o ne e⟩ sb
  | none=>exact wpAny_nextOf_list_end hh a b hx fun h' e eb he=>no hx h' e eb he
 ·exact tup_next hh a b (fun x hx h' a' sb=>go x hx h' ⟨a',b.to fun o e=>sb.extBut _ o ne e⟩ sb) no
theorem zp_next {p q:Bool} {Z TI TO j1 j2 t1 t2:Addr} {i:Nat} {xs ys:Array Value} {a b:Value} {Q:Value->Shared->Prop} (hh:A.handled=none) (D:ZipApart Z TI TO j1 j2 t1 t2)
  (hz:IsZip s.heap Z TI TO .none) (hI:IsPair s.heap TI (.ref j1) (.ref j2)) (hO:IsPair s.heap TO a b) (h1:InAt p s.heap j1 t1 i xs) (h2:InAt q s.heap j2 t2 i ys)
  (go:∀ x y,xs[i]? = some x->ys[i]? = some y->∀ h',IsZip h' Z TI TO (rawInt s.heap.objs.size)->IsPair h' TO x y->InAt p h' j1 t1 (i+1) xs->InAt q h' j2 t2 (i+1) ys->IsPair h' s.heap.objs.size x y →
   (∀ c o,c≠Z->c≠TO->c≠j1->c≠j2->s.heap.get? c=some o->h'.get? c=some o)->Q (.ref s.heap.objs.size) { s with heap:=h' })
  (no:xs[i]? = none\/ys[i]? = none->∀ h' e,(∀ c o,c≠Z->c≠TO->c≠j1->c≠j2->s.heap.get? c=some o->h'.get? c=some o)->(∃ o,h'.get? e=some o/\o.cls = .type "StopIteration")->E (.ref e) { s with heap:=h' }) :
  wpAny (model prog w) A (Builtin.«zip.__next__» ⟨[.ref Z],[]⟩) (fun fin s'=>∃ v,fin = .done (.ret v)/\Q v s') E s:=by
 change wpAny _ _ (field (.ref Z) 2 >>= _) _ _ _
 refine wpAny_bind (wpAny_field hz rfl (x:=.bool false) rfl ?_)
 change wpAny _ _ (field (.ref Z) 3 >>= _) _ _ _
 refine wpAny_bind (wpAny_field hz rfl (x:=.ref TI) rfl (wpAny_bind (wpAny_seqItems hI rfl ?_)))
 change wpAny _ _ (Builtin.SmallTypes.ownedTupleIsFree (.ref Z) >>= _) _ _ _
 refine wpAny_bind ?_
 unfold Builtin.SmallTypes.ownedTupleIsFree
 refine wpAny_bind (wpAny_field hz rfl (x:=Value.none) rfl (wpAny_pure ?_))
 simp only [if_true]
 refine wpAny_bind (wpAny_rule (wpAny_bind (wpAny_field hz rfl (x:=.ref TO) rfl (wpAny_bind (wpAny_setField_rec hz (by simp) fun g1 z1 b1=>?_)))))
 have z1:IsZip g1 Z TI TO .ellipsis:=z1
 have x1:=b1.extBut
 refine wpAny_bind ?_
 simp only [List.forIn_cons,List.forIn_nil,List.zipIdx_nil,List.zipIdx_cons]
 refine wpAny_bind (wpAny_bind (wpAny_onRaise ?_))
 change wpAny _ _ (Builtin.SmallTypes.nextOf (.ref j1) >>= _) _ _ _
 refine wpAny_bind (in_next hh (h1.eb x1 D.i1z D.l1z) D.l1i1 (fun x hx g2 a2 b2=>wpAny_pure ?_) (fun hx g2 e x2 he=>?_))
 ·have x2:Heap.ExtBut j1 g1 g2:=b2.extBut
  have O2:IsPair g2 TO a b:=x2 _ _ D.TOi1 (x1 _ _ D.TOz hO)
  refine wpAny_bind (wpAny_seqItems O2 rfl (wpAny_bind (wpAny_updateSeq_pair O2 fun g3 O3 b3=>?_)))
  have O3:IsPair g3 TO x b:=O3
  have x3:Heap.ExtBut TO g2 g3:=b3.extBut
  refine wpAny_bind (wpAny_letGo (wpAny_pure (wpAny_bind (wpAny_bind (wpAny_onRaise ?_)))))
  change wpAny _ _ (Builtin.SmallTypes.nextOf (.ref j2) >>= _) _ _ _
  have q2:InAt q g3 j2 t2 i ys:=((h2.eb x1 D.i2z D.l2z).eb x2 D.i12.symm D.l2i1).eb x3 D.TOi2.symm D.l2TO
  refine wpAny_bind (in_next hh q2 D.l2i2 (fun y hy g4 a4 b4=>wpAny_pure ?_) (fun hy g4 e x4 he=>?_))
  ·have x4:Heap.ExtBut j2 g3 g4:=b4.extBut
   have O4:IsPair g4 TO x b:=x4 _ _ D.TOi2 O3
   refine wpAny_bind (wpAny_seqItems O4 rfl (wpAny_bind (wpAny_updateSeq_pair O4 fun g5 O5 b5=>?_)))
   have O5:IsPair g5 TO x y:=O5
   have x5:Heap.ExtBut TO g4 g5:=b5.extBut
   refine wpAny_bind (wpAny_letGo (wpAny_pure (wpAny_pure ?_)))
   refine wpAny_bind (wpAny_seqItems O5 rfl (wpAny_bind (wpAny_newTuple ?_)))
   have n5:g5.objs.size=s.heap.objs.size:=by rw [b5.1,b4.1,b3.1,b2.1,b1.1]
   have z5:IsZip g5 Z TI TO .ellipsis:=x5 _ _ D.TOz.symm (x4 _ _ D.i2z.symm (x3 _ _ D.TOz.symm (x2 _ _ D.i1z.symm z1)))
   have k5:∀ c o,c≠Z->c≠TO->c≠j1->c≠j2->s.heap.get? c=some o->g5.get? c=some o:=fun c o n1 n2 n3 n4 e=>x5 _ _ n2 (x4 _ _ n4 (x3 _ _ n2 (x2 _ _ n3 (x1 _ _ n1 e))))
   have p1:InAt p g5 j1 t1 (i+1) xs:=((a2.eb x3 D.TOi1.symm D.l1TO).eb x4 D.i12 D.l1i2).eb x5 D.TOi1.symm D.l1TO
   have p2:InAt q g5 j2 t2 (i+1) ys:=a4.eb x5 D.TOi2.symm D.l2TO
   have zlt:Z < g5.objs.size:=Heap.lt_size z5
   change wpAny _ _ (Builtin.SmallTypes.ownedTupleHandOut (.ref Z) (.ref g5.objs.size) >>= _) _ _ _
   refine wpAny_bind ?_
   unfold Builtin.SmallTypes.ownedTupleHandOut
   have z6:IsZip (g5.push { cls:=.type "tuple",data:=.seq #[x,y] }) Z TI TO .ellipsis:=Heap.get?_push_of_some _ z5
   refine wpAny_bind (wpAny_setField_rec z6 (by simp) fun g7 z7 b7=>?_)
   have z7:IsZip g7 Z TI TO (rawInt g5.objs.size):=z7
   refine wpAny_setField_rec z7 (by simp) fun g8 z8 b8=>?_
   have z8:IsZip g8 Z TI TO (rawInt g5.objs.size):=z8
   have up:∀ c o,c≠Z->g5.get? c=some o->g8.get? c=some o:=fun c o n1 e=>b8.extBut _ _ n1 (b7.extBut _ _ n1 (Heap.get?_push_of_some _ e))
   have T8:IsPair g8 g5.objs.size x y:=b8.extBut _ _ (Nat.ne_of_gt zlt) (b7.extBut _ _ (Nat.ne_of_gt zlt) (Heap.get?_push_size _ rfl))
   rw [n5] at z8 T8
   refine wpAny_pure ⟨_,rfl,?_⟩
   change Q (.ref g5.objs.size) _
   rw [n5]
   exact go x y hx hy g8 z8 (up _ _ D.TOz O5) (p1.to (fun o e=>up _ o D.i1z e) (fun o e=>up _ o D.l1z e)) (p2.to (fun o e=>up _ o D.i2z e) (fun o e=>up _ o D.l2z e)) T8 fun c o n1 n2 n3 n4 e=>up c o n1 (k5 c o n1 n2 n3 n4 e)
  ·obtain ⟨oe,f1,f2⟩:=he
   have z4:IsZip g4 Z TI TO .ellipsis:=x4 _ _ D.i2z.symm (x3 _ _ D.TOz.symm (x2 _ _ D.i1z.symm z1))
   have eZ:e≠Z:=fun z=>by
    rw [z,z4] at f1
    cases f1
    exact absurd f2 (by simp)
   exact wpAny_setField_rec z4 (by simp) fun g5 _ b5=>no (.inr hy) g5 e (fun c o n1 n2 n3 n4 z=>b5.extBut _ _ n1 (x4 _ _ n4 (x3 _ _ n2 (x2 _ _ n3 (x1 _ _ n1 z))))) ⟨oe,b5.extBut _ _ eZ f1,f2⟩
 ·obtain ⟨oe,f1,f2⟩:=he
  have z2:IsZip g2 Z TI TO .ellipsis:=x2 _ _ D.i1z.symm z1
  have eZ:e≠Z:=fun z=>by
   rw [z,z2] at f1
   cases f1
   exact absurd f2 (by simp)
  exact wpAny_setField_rec z2 (by simp) fun g3 _ b3=>no (.inl hx) g3 e (fun c o n1 _ n3 _ z=>b3.extBut _ _ n1 (x2 _ _ n3 (x1 _ _ n1 z))) ⟨oe,b3.extBut _ _ eZ f1,f2⟩
theorem zp_py {p q:Bool} {Z TI TO j1 j2 t1 t2:Addr} {i:Nat} {xs ys:Array Value} {a b:Value} {Q:Option Value->Shared->Prop} (hh:A.handled=none) (D:ZipApart Z TI TO j1 j2 t1 t2)
  (hz:IsZip s.heap Z TI TO .none) (hI:IsPair s.heap TI (.ref j1) (.ref j2)) (hO:IsPair s.heap TO a b) (h1:InAt p s.heap j1 t1 i xs) (h2:InAt q s.heap j2 t2 i ys)
  (go:∀ x y,xs[i]? = some x->ys[i]? = some y->∀ h',IsZip h' Z TI TO (rawInt s.heap.objs.size)->IsPair h' TO x y->InAt p h' j1 t1 (i+1) xs->InAt q h' j2 t2 (i+1) ys->IsPair h' s.heap.objs.size x y →
   (∀ c o,c≠Z->c≠TO->c≠j1->c≠j2->s.heap.get? c=some o->h'.get? c=some o)->Q (some (.ref s.heap.objs.size)) { s with heap:=h' })
  (no:xs[i]? = none\/ys[i]? = none->∀ h',(∀ c o,c≠Z->c≠TO->c≠j1->c≠j2->s.heap.get? c=some o->h'.get? c=some o)->Q none { s with heap:=h' }):wpAny (model prog w) A (pyNext (.ref Z)) Q E s:=by
 have ty:s.TypeIs (.ref Z) "zip" := ⟨_,hz,rfl⟩
 unfold pyNext
 refine wpAny_bind (wpAny_attempt (wpAny_callSpecial?_slot (name:=Str.ofString "__next__") ty F.slot_zip_next (wpAny_call_entry F.slot_zip_next ty F.entry_zip_next (zp_next hh D hz hI hO h1 h2 (fun x y hx hy h' a1 a2 a3 a4 a5 a6=>wpAny_pure (go x y hx hy h' a1 a2 a3 a4 a5 a6)) (fun he h' e k he'=>?_)) (F.args_zip_next_1 _))))
 obtain ⟨o,f1,f2⟩:=he'
 exact wpAny_bind (wpAny_isInstance (T:= "StopIteration") (b:=true) ⟨o,f1,f2⟩ isSubtype_stop (wpAny_pure (no he _ k)))
end
abbrev zt1 (h:Heap) (t1:Addr):Heap:=h.push { cls:=.type "tuple_iterator",data:=.fields #[.ref t1,.int 0 0] }
abbrev zt2 (h:Heap) (t1 t2:Addr):Heap:=(zt1 h t1).push { cls:=.type "tuple_iterator",data:=.fields #[.ref t2,.int 0 0] }
abbrev zt3 (h:Heap) (t1 t2:Addr):Heap:=(zt2 h t1 t2).push { cls:=.type "tuple",data:=.seq #[.ref h.objs.size,.ref (zt1 h t1).objs.size] }
abbrev zt4 (h:Heap) (t1 t2:Addr):Heap:=(zt3 h t1 t2).push { cls:=.type "tuple",data:=.seq #[.none,.none] }
abbrev zt5 (h:Heap) (t1 t2:Addr):Heap:=(zt4 h t1 t2).push { cls:=.type "zip",data:=.fields #[.none,.bool false,.bool false,.ref (zt2 h t1 t2).objs.size,.ref (zt3 h t1 t2).objs.size] }
theorem meets_zt (t1 t2:Addr) (xs ys:Array Value):Meets (Builtin.«zip.__new__» ⟨[.type "zip",.ref t1,.ref t2],[]⟩) (fun _ R s=>s.heap.IsTuple t1 xs/\s.heap.IsTuple t2 ys/\R (.ok (.ret (.ref (zt4 s.heap t1 t2).objs.size))) { s with heap:=zt5 s.heap t1 t2 }):=
 .of_wp fun prog w A R s h=>by
  obtain ⟨hp,g,d,tk,os⟩:=s
  obtain ⟨a1,a2,h⟩:=h
  have hsub:=sub_zip
  have b1:Heap.IsTuple (Shared.heap ⟨hp,g,d,tk,os⟩) t1 xs:=a1
  have b2:Heap.IsTuple (Shared.heap ⟨hp.push { cls:=.type "tuple_iterator",data:=.fields #[.ref t1,.int 0 0] },g,d,tk,os⟩) t2 ys:=Heap.IsTuple.push a2 _
  wp_walk using wpAny_pyIter_tuple b1,wpAny_pyIter_tuple b2
  exact ⟨_,rfl,h⟩
theorem call_zt {prog:Program} {w:World} {A:Around} {E:Value->Shared->Prop} {s:Shared} {t1 t2:Addr} {xs ys:Array Value} {Q:Value->Shared->Prop} (a1:s.heap.IsTuple t1 xs) (a2:s.heap.IsTuple t2 ys)
  (h:∀ h' n,n=s.heap.objs.size->IsZip h' (n+4) (n+2) (n+3) .none->IsPair h' (n+2) (.ref n) (.ref (n+1))->IsPair h' (n+3) .none .none->InAt true h' n t1 0 xs->InAt true h' (n+1) t2 0 ys →
   (∀ c o,s.heap.get? c=some o->h'.get? c=some o)->Q (.ref (n+4)) { s with heap:=h' }):wpAny (model prog w) A (call (.type "zip") [.ref t1,.ref t2]) Q E s:=by
 refine callType_new F.called_zip (by decide) (F.typeCall_zip_2 _ _) (F.newCall_zip_2 _ _) (fun obj=>F.args_object_init_3 obj _ _) F.entry_zip_new (meets_zt t1 t2 xs ys) ⟨a1,a2,?_⟩
 have n1:(zt1 s.heap t1).objs.size=s.heap.objs.size+1:=Heap.size_push ..
 have n2:(zt2 s.heap t1 t2).objs.size=s.heap.objs.size+2:=by rw [Heap.size_push,n1]
 have n3:(zt3 s.heap t1 t2).objs.size=s.heap.objs.size+3:=by rw [Heap.size_push,n2]
 have n4:(zt4 s.heap t1 t2).objs.size=s.heap.objs.size+4:=by rw [Heap.size_push,n3]
 have k1:∀ c o,s.heap.get? c=some o->(zt1 s.heap t1).get? c=some o:=fun c o e=>Heap.get?_push_of_some _ e
 have k2:∀ c o,(zt1 s.heap t1).get? c=some o->(zt2 s.heap t1 t2).get? c=some o:=fun c o e=>Heap.get?_push_of_some _ e
 have k3:∀ c o,(zt2 s.heap t1 t2).get? c=some o->(zt3 s.heap t1 t2).get? c=some o:=fun c o e=>Heap.get?_push_of_some _ e
 have k4:∀ c o,(zt3 s.heap t1 t2).get? c=some o->(zt4 s.heap t1 t2).get? c=some o:=fun c o e=>Heap.get?_push_of_some _ e
 have k5:∀ c o,(zt4 s.heap t1 t2).get? c=some o->(zt5 s.heap t1 t2).get? c=some o:=fun c o e=>Heap.get?_push_of_some _ e
 have kk:∀ c o,s.heap.get? c=some o->(zt5 s.heap t1 t2).get? c=some o:=fun c o e=>k5 _ _ (k4 _ _ (k3 _ _ (k2 _ _ (k1 _ _ e))))
 have m5:(zt5 s.heap t1 t2).get? (zt4 s.heap t1 t2).objs.size=some { cls:=.type "zip",data:=.fields #[.none,.bool false,.bool false,.ref (zt2 s.heap t1 t2).objs.size,.ref (zt3 s.heap t1 t2).objs.size] }:=Heap.get?_push_size _ rfl
 have m4:(zt5 s.heap t1 t2).get? (zt3 s.heap t1 t2).objs.size=some { cls:=.type "tuple",data:=.seq #[.none,.none] }:=k5 _ _ (Heap.get?_push_size _ rfl)
 have m3:(zt5 s.heap t1 t2).get? (zt2 s.heap t1 t2).objs.size=some { cls:=.type "tuple",data:=.seq #[.ref s.heap.objs.size,.ref (zt1 s.heap t1).objs.size] }:=k5 _ _ (k4 _ _ (Heap.get?_push_size _ rfl))
 have m2:(zt5 s.heap t1 t2).get? (zt1 s.heap t1).objs.size=some { cls:=.type "tuple_iterator",data:=.fields #[.ref t2,.int 0 0] }:=k5 _ _ (k4 _ _ (k3 _ _ (Heap.get?_push_size _ rfl)))
 have m1:(zt5 s.heap t1 t2).get? s.heap.objs.size=some { cls:=.type "tuple_iterator",data:=.fields #[.ref t1,.int 0 0] }:=k5 _ _ (k4 _ _ (k3 _ _ (k2 _ _ (Heap.get?_push_size _ rfl))))
 change _/\_
 rw [n4,n3,n2] at m5
 rw [n3] at m4
 rw [n2,n1] at m3
 rw [n1] at m2
 rw [n4]
 obtain ⟨o1,f1,f2⟩:=a1
 obtain ⟨o2,g1,g2⟩:=a2
 exact ⟨⟨_,m5,rfl⟩,h _ _ rfl m5 m3 m4 ⟨⟨_,m1,rfl,rfl⟩,⟨o1,kk _ _ f1,f2⟩⟩ ⟨⟨_,m2,rfl,rfl⟩,⟨o2,kk _ _ g1,g2⟩⟩ kk⟩
def Itzt (K:PySem.W.Frag) (a b:Addr):It:=
 ⟨fun i H=>∃ xs ys x y,SqT K H a xs/\SqT K H b ys/\xs[i]? = some x/\ys[i]? = some y,fun i H x H'=>∃ t y z,(∀ xs,SqT K H a xs->xs[i]? = some y)/\(∀ xs,SqT K H b xs->xs[i]? = some z)/\H t=none/\x = .ref t/\H'=upd H t (.tup [y,z]),
  fun i H=>∃ xs ys,SqT K H a xs/\SqT K H b ys/\(xs.length<=i\/ys.length<=i)⟩
theorem turn_zt {P:Program} {w:World} {K:PySem.W.Frag} {es:List Expr} {k:Nat} {pos:Pos} (a b z TI TO i1 i2:Addr) (D:ZipApart z TI TO i1 i2 a b):Turn P w K (.Tuple es k pos) (Itzt K a b) [z,TI,TO,i1,i2] z
  (fun i h=>IsZip h z TI TO .none/\IsPair h TI (.ref i1) (.ref i2)/\(∃ c d,IsPair h TO c d)/\ItrAt h i1 a i true/\ItrAt h i2 b i true) where
 mem:=by simp
 obj:=fun i h st c hc=>by
  obtain ⟨hz,hTI,⟨_,_,hTO⟩,q1,q2⟩:=st
  have hb':c=z\/c=TI\/c=TO\/c=i1\/c=i2:=by simpa using hc
  rcases hb' with rfl | rfl | rfl | rfl | rfl
  ·exact ⟨_,hz,fun v z=>by cases z⟩
  ·exact ⟨_,hTI,fun v z=>by cases z⟩
  ·exact ⟨_,hTO,fun v z=>by cases z⟩
  ·exact q1.has
  ·exact q2.has
 keep:=fun i h h' st k=>⟨k z (by simp) _ st.1,k TI (by simp) _ st.2.1,let ⟨c,d,e⟩:=st.2.2.1;⟨c,d,k TO (by simp) _ e⟩,st.2.2.2.1.to fun o e=>k i1 (by simp) o e,st.2.2.2.2.to fun o e=>k i2 (by simp) o e⟩
 item:=by
  intro X hP hw hK hc i pins s σ H E I hf st hg
  subst hP hw hK
  obtain ⟨xs,ys,x,y,hq1,hq2,hx,hy⟩:=hg
  obtain ⟨its1,rv1,p1,_⟩:=I.tuple hq1
  obtain ⟨its2,rv2,p2,_⟩:=I.tuple hq2
  obtain ⟨u1,hu1,ru1⟩:=rv1.get hx
  obtain ⟨u2,hu2,ru2⟩:=rv2.get hy
  obtain ⟨hz,hTI,⟨c0,d0,hTO⟩,h1,h2⟩:=st
  have zlt:z < s.heap.objs.size:=Heap.lt_size hz
  have lts:∀ c∈[z,TI,TO,i1,i2],c < s.heap.objs.size:=fun c hc'=>by
   have hb':c=z\/c=TI\/c=TO\/c=i1\/c=i2:=by simpa using hc'
   rcases hb' with rfl | rfl | rfl | rfl | rfl
   ·exact Heap.lt_size hz
   ·exact Heap.lt_size hTI
   ·exact Heap.lt_size hTO
   ·obtain ⟨_,q,_⟩:=h1.has;exact Heap.lt_size q
   ·obtain ⟨_,q,_⟩:=h2.has;exact Heap.lt_size q
  have fT:=I.fresh
  refine zp_py (p:=true) (q:=true) (xs:=its1.toArray) (ys:=its2.toArray) (I.ok.hd hc) D hz hTI hTO ⟨h1,p1⟩ ⟨h2,p2⟩ (fun v1 v2 hv1 hv2 h' hz' hTO' a1 a2 hT hk=>⟨_,rfl,?_⟩) (fun he=>?_)
  ·have e1:v1=u1:=by rw [List.getElem?_toArray] at hv1;exact Option.some.inj (hv1.symm.trans hu1)
   have e2:v2=u2:=by rw [List.getElem?_toArray] at hv2;exact Option.some.inj (hv2.symm.trans hu2)
   subst e1
   subst e2
   refine wpAny_letOwnedTupleGo_zip hz' fun h3 hz3 hs3=>?_
   have hs3:Heap.SameBut z h' h3:=hs3
   have up:∀ b o,b ∉ [z,TI,TO,i1,i2]->s.heap.get? b=some o->h3.get? b=some o:=fun b o hb ee=>by
    have n1:b≠z:=fun q=>hb (by simp [q])
    exact (hs3.2 b n1).trans (hk b o n1 (fun q=>hb (by simp [q])) (fun q=>hb (by simp [q])) (fun q=>hb (by simp [q])) ee)
   have hT2:h3.get? s.heap.objs.size=some { cls:=.type "tuple",data:=.seq #[v1,v2] }:=(hs3.2 _ (Nat.ne_of_gt zlt)).trans hT
   refine ⟨.ref s.heap.objs.size,upd H s.heap.objs.size (.tup [x,y]),?_,rfl,⟨_,x,y,fun zs hz'=>by rw [I.tuple_inj hz' hq1];exact hx,fun zs hz'=>by rw [I.tuple_inj hz' hq2];exact hy,fT,rfl,rfl⟩,?_,fun b hb=>?_⟩
   ·exact I.turnLaid (t':=s.toks) hf up (Nat.le_refl _) ⟨Nat.le_of_ble_eq_true rfl,[v1,v2],.cons ru1 (.cons ru2 .nil),⟨_,hT2,rfl,0,rfl⟩⟩
   ·refine ⟨hz3,(hs3.2 _ D.TIz).trans (hk _ _ D.TIz D.TITO D.TIi1 D.TIi2 hTI),⟨_,_,(hs3.2 _ D.TOz).trans hTO'⟩,a1.1.to fun o q=>(hs3.2 _ D.i1z).trans q,a2.1.to fun o q=>(hs3.2 _ D.i2z).trans q⟩
   ·rw [upd_ne (Nat.ne_of_lt (lts b hb))];exact (hf _ hb).1
  ·exfalso
   rw [List.getElem?_toArray,List.getElem?_toArray,hu1,hu2] at he
   rcases he with q | q<;>cases q
 done:=by
  intro X hP hw hK hc i pins s σ H E I hf st hg
  subst hP hw hK
  obtain ⟨xs,ys,hq1,hq2,hend⟩:=hg
  obtain ⟨its1,rv1,p1,_⟩:=I.tuple hq1
  obtain ⟨its2,rv2,p2,_⟩:=I.tuple hq2
  have l1:=rv1.length
  have l2:=rv2.length
  obtain ⟨hz,hTI,⟨c0,d0,hTO⟩,h1,h2⟩:=st
  refine zp_py (p:=true) (q:=true) (xs:=its1.toArray) (ys:=its2.toArray) (I.ok.hd hc) D hz hTI hTO ⟨h1,p1⟩ ⟨h2,p2⟩ (fun v1 v2 hv1 hv2=>?_) (fun _ h' eb=>⟨rfl,I.turnedL (t':=s.toks) hf fun b o hb e'=>eb b o (fun q=>hb (by simp [q])) (fun q=>hb (by simp [q])) (fun q=>hb (by simp [q])) (fun q=>hb (by simp [q])) e'⟩)
  exfalso
  rw [List.getElem?_toArray] at hv1 hv2
  have g1:=(List.getElem?_eq_some_iff.mp hv1).1
  have g2:=(List.getElem?_eq_some_iff.mp hv2).1
  omega
 self:=fun _ _ _ _ _ st h=>wpAny_pyIter_zip st.1 h
section
variable {X:Cx} {p pos tpos:Pos} {a b:Expr} {es:List Expr} {tk:Nat}
def iZipU (K:PySem.W.Frag) (ta:TA):TI:=fun σ H R=>ta σ H fun vs H1=>match vs with
 | [.ref l,.ref m]=>((∃ xs,SqL K H1 l xs)/\(∃ xs,SqL K H1 m xs)/\R (Itz K l m) H1)\/((∃ xs,SqT K H1 l xs)/\(∃ xs,SqT K H1 m xs)/\R (Itzt K l m) H1)
 | _=>False
theorem it_zipU {ta:TA} {mg':Str->Option Value} (hm:mg' "zip" = none) (hX:X.mg=mg') (ha:PA X [a,b] ta) (hg:gB X "zip" = true:=by kernel_rfl) (hs:starEach [a,b] X.env=[(false,eval a X.env),(false,eval b X.env)]:=by kernel_rfl) (hs2:starEach [b] X.env=[(false,eval b X.env)]:=by kernel_rfl) :
  PI X (.Tuple es tk tpos) (.Call (.Name "zip" p) [a,b] [] pos) (iZipU X.K ta):=by
 intro pins s σ H R I h
 refine Call_ (ld_blt I (gl_of hg) (by rw [hX];exact hm) boot_zip (PyProof.Rows.callWith_type1 (thn (ha pos pins s σ H _ I h) fun us s1 ⟨vs,H1,I1,r1,q1⟩=>?_) (by rw [hs,hs2]) (by rw [hs2];rfl)))
 dsimp only at q1
 split at q1
 ·rename_i l m
  obtain ⟨u,u2,rfl,r,r2⟩:=vals2 r1
  cases r
  cases r2
  rcases q1 with ⟨⟨xs,hq⟩,⟨ys,hq2⟩,q⟩ | ⟨⟨xs,hq⟩,⟨ys,hq2⟩,q⟩
  ·obtain ⟨its,rv,pl,hz⟩:=I1.list hq
   obtain ⟨its2,rv2,pl2,hz2⟩:=I1.list hq2
   have ll:l < s1.heap.objs.size:=by obtain ⟨_,e,_⟩:=pl.isList;exact Heap.lt_size e
   have lm:m < s1.heap.objs.size:=by obtain ⟨_,e,_⟩:=pl2.isList;exact Heap.lt_size e
   refine call_zip_2 pl.isList pl2.isList fun h' hz' hTI hTO h1 h2 hsz hk=>wpAny_pyIter_zip hz' ?_
   refine ⟨_,_,_,_,H1,rfl,I1.kept (t':=s1.toks) hk,turn_zip l m _ _ _ _ _ (zipApart_new ll lm),⟨hz',hTI,⟨_,_,hTO⟩,h1,h2⟩,fun c hc=>?_,q⟩
   have hb':c=s1.heap.objs.size+4\/c=s1.heap.objs.size+2\/c=s1.heap.objs.size+3\/c=s1.heap.objs.size\/c=s1.heap.objs.size+1:=by simpa using hc
   have hle:s1.heap.objs.size<=c:=by rcases hb' with rfl | rfl | rfl | rfl | rfl<;>first | exact Nat.le_refl _ | exact Nat.le_add_right _ _
   exact I1.fpOk hle (I1.hok.fresh hle)
  ·obtain ⟨its,rv,pl,hz⟩:=I1.tuple hq
   obtain ⟨its2,rv2,pl2,hz2⟩:=I1.tuple hq2
   have ll:l < s1.heap.objs.size:=by obtain ⟨_,e,_⟩:=pl;exact Heap.lt_size e
   have lm:m < s1.heap.objs.size:=by obtain ⟨_,e,_⟩:=pl2;exact Heap.lt_size e
   refine call_zt pl pl2 fun h' n hn hz' hTI hTO h1 h2 hk=>wpAny_pyIter_zip hz' ?_
   subst hn
   refine ⟨_,_,_,_,H1,rfl,I1.kept (t':=s1.toks) hk,turn_zt l m _ _ _ _ _ (zipApart_new ll lm),⟨hz',hTI,⟨_,_,hTO⟩,h1.1,h2.1⟩,fun c hc=>?_,q⟩
   have hb':c=s1.heap.objs.size+4\/c=s1.heap.objs.size+2\/c=s1.heap.objs.size+3\/c=s1.heap.objs.size\/c=s1.heap.objs.size+1:=by simpa using hc
   have hle:s1.heap.objs.size<=c:=by rcases hb' with rfl | rfl | rfl | rfl | rfl<;>first | exact Nat.le_refl _ | exact Nat.le_add_right _ _
   exact I1.fpOk hle (I1.hok.fresh hle)
 ·exact q1.elim
end
theorem it_ztP (K:PySem.W.Frag) (a b:Addr) (xs ys:List V) (hl:xs.length=ys.length):ItPr (Itzt K a b) xs.length (fun i=>[xs.getD i .non,ys.getD i .non]) fun H=>H a=some (.tup xs)/\H b=some (.tup ys):=
 ⟨fun H h=>⟨xs,ys,SqT.of h.1,SqT.of h.2,.inl (Nat.le_refl _)⟩,fun i H h hi=>⟨xs,ys,xs[i],ys[i]'(by omega),SqT.of h.1,SqT.of h.2,by simp [hi],by simp [<-hl,hi]⟩,fun i H x H' h hi y=>by
  obtain ⟨t,y1,y2,hq1,hq2,ht,e1,e2⟩:=y
  have e3:xs.getD i .non=y1:=by rw [List.getD_eq_getElem?_getD,hq1 xs (SqT.of h.1)];rfl
  have e4:ys.getD i .non=y2:=by rw [List.getD_eq_getElem?_getD,hq2 ys (SqT.of h.2)];rfl
  exact ⟨t,ht,e1,by rw [e2,e3,e4]⟩⟩
end L2
end
section
end
section
namespace L2
open PySem PySem.Spec PyProof.Rows PySem.W
theorem occ_stay (s sub:Str) (hi:Nat):∀ (l:List Nat) (st:Array Nat×Nat),1<=st.1.size->(forIn l st (StrLaws.occBody s sub hi 1)).run.fst=st.1
 | [],st,h=>rfl
 | a :: l,st,h=>by
  rw [List.forIn_cons]
  unfold StrLaws.occBody
  rw [if_neg (fun z=>by have:=z.1.1.1;omega)]
  exact occ_stay s sub hi l _ h
theorem occ_first (s sub:Str) (hi:Nat):∀ (l:List Nat) (free:Nat),(∀ i∈l,free<=i) →
  (forIn l ((#[]:Array Nat),free) (StrLaws.occBody s sub hi 1)).run.fst=match l.find? (fun i=>decide (i+sub.length<=hi/\Builtin.Str.subAt s sub i=true)) with
   | some i=>#[i]
   | none=>#[]
 | [],free,_=>rfl
 | a :: l,free,hf=>by
  rw [List.forIn_cons]
  unfold StrLaws.occBody
  have ha:free<=a:=hf a (List.mem_cons_self ..)
  by_cases hc:a+sub.length<=hi/\Builtin.Str.subAt s sub a=true
  ·rw [if_pos ⟨⟨⟨by simp,ha⟩,hc.1⟩,hc.2⟩,List.find?_cons_of_pos (by exact decide_eq_true hc)]
   exact occ_stay s sub hi l _ (by simp)
  ·rw [if_neg (fun z=>hc ⟨z.1.2,z.2⟩),List.find?_cons_of_neg (by simpa using hc)]
   exact occ_first s sub hi l free fun i h=>hf i (List.mem_cons_of_mem _ h)
end L2
end
section
namespace L2
open PySem PySem.Spec PyProof.Rows PySem.W
theorem strip_str (z:Str):decide (Txt.stripChars z ("01" : Str)=("" : Str))=decide (Txt.replace (Txt.replace z ("0" : Str) ("" : Str)) ("1" : Str) ("" : Str)=("" : Str)):=by
 rw [mkS_of z,strip_any,repl_any]
theorem join_len (c:Nat):∀ (ps:List Str),ps≠[]->(∀ p∈ps,p.length<=(Str.join (ch c) ps).length)/\ps.length<=(Str.join (ch c) ps).length+1
 | [],h=>absurd rfl h
 | [p],_=>by
  have e:Str.join (ch c) [p]=p:=rfl
  rw [e]
  exact ⟨fun q hq=>by rw [List.mem_singleton.mp hq];exact Nat.le_refl _,by simp⟩
 | p :: q :: r,_=>by
  obtain ⟨h1,h2⟩:=join_len c (q :: r) (by simp)
  have e:(Str.join (ch c) (p :: q :: r)).length=p.length+1+(Str.join (ch c) (q :: r)).length:=by
   have:=congrArg List.length (join_cps c p q r)
   rw [List.length_append,List.length_cons,Array.length_toList,Array.length_toList,Array.length_toList] at this
   show (Str.join (ch c) (p :: q :: r)).cps.size=p.cps.size+1+(Str.join (ch c) (q :: r)).cps.size
   omega
  rw [e]
  refine ⟨fun x hx=>?_,by rw [List.length_cons];omega⟩
  rcases List.mem_cons.mp hx with rfl | hx
  ·omega
  ·have:=h1 x hx
   omega
theorem split_len (z:Str) {c:Nat} (hc:c < 256):Txt.split z (ch c)≠[]/\(∀ p∈Txt.split z (ch c),p.length<=z.length)/\(Txt.split z (ch c)).length<=z.length+1:=by
 obtain ⟨_,h2,h3⟩:=split_fre z hc
 have:=join_len c _ h2
 rw [h3] at this
 exact ⟨h2,this.1,this.2⟩
def spG (z:Str):List Str:=Txt.split z (">" : Str)
def spC (z:Str):List Str:=Txt.split z ("," : Str)
def spB (z:Str):List Str:=Txt.split z (" " : Str)
theorem spG_len (z:Str):spG z≠[]/\(∀ p∈spG z,p.length<=z.length)/\(spG z).length<=z.length+1:=by unfold spG;rw [gt_ch];exact split_len z (by decide)
theorem spC_len (z:Str):spC z≠[]/\(∀ p∈spC z,p.length<=z.length)/\(spC z).length<=z.length+1:=by unfold spC;rw [comma_ch];exact split_len z (by decide)
theorem spB_len (z:Str):spB z≠[]/\(∀ p∈spB z,p.length<=z.length)/\(spB z).length<=z.length+1:=by unfold spB;rw [blank_ch];exact split_len z (by decide)
def numZ (z:Str):Int:=if z.length=1 then Txt.find figS z else -1
def rowV (z:Str):List V:=(spG z).dropLast.map V.str++[.int (numZ ((spG z).getLast?.getD ("" : Str)))]
def rowT (z:Str):PyData:=.tuple ((spG z).dropLast.map PyData.str++[.int (numZ ((spG z).getLast?.getD ("" : Str)))])
def stateT (z:Str):PyData:=.list ((spC z).map rowT)
def codeT (ps:List Str):PyData:=.tuple ((ps.take 2).map (fun p=>PyData.int (numZ p))++[.list ((ps.drop 2).map stateT)])
theorem dvsS {H:Hp}:∀ zs:List Str,DVs H (zs.map V.str) (zs.map PyData.str)
 | []=>.nil
 | z :: zs=>.cons (.str z) (dvsS zs)
theorem rowT_dv {H:Hp} {l:Addr} {z:Str} (h:H l=some (.tup (rowV z))):DV H (.ref l) (rowT z):=.tup h ((dvsS _).app (.cons (.int _) .nil))
theorem rowT_small {z:Str} (h:z.length<=900):smallD (rowT z)=true:=by
 obtain ⟨h1,h2,h3⟩:=spG_len z
 unfold rowT
 rw [smallD,Bool.and_eq_true,decide_eq_true_eq,smallAll_iff]
 refine ⟨by rw [List.length_append,List.length_map,List.length_dropLast];simp;omega,fun d hd=>?_⟩
 rcases List.mem_append.mp hd with hd | hd
 ·obtain ⟨p,hp,rfl⟩:=List.mem_map.mp hd
  have:=h2 p (List.dropLast_subset _ hp)
  rw [smallD]
  exact decide_eq_true (by omega)
 ·rw [List.mem_singleton.mp hd];rfl
theorem stateT_small {z:Str} (h:z.length<=900):smallD (stateT z)=true:=by
 obtain ⟨h1,h2,h3⟩:=spC_len z
 unfold stateT
 rw [smallD,Bool.and_eq_true,decide_eq_true_eq,smallAll_iff]
 refine ⟨by rw [List.length_map];omega,fun d hd=>?_⟩
 obtain ⟨p,hp,rfl⟩:=List.mem_map.mp hd
 exact rowT_small (by have:=h2 p hp;omega)
theorem codeT_small {z:Str} (h:z.length<=900):smallD (codeT (spB z))=true:=by
 obtain ⟨h1,h2,h3⟩:=spB_len z
 unfold codeT
 rw [smallD,Bool.and_eq_true,decide_eq_true_eq,smallAll_iff]
 refine ⟨by rw [List.length_append,List.length_map,List.length_take];simp;omega,fun d hd=>?_⟩
 rcases List.mem_append.mp hd with hd | hd
 ·obtain ⟨p,hp,rfl⟩:=List.mem_map.mp hd
  rfl
 ·rw [List.mem_singleton.mp hd,smallD,Bool.and_eq_true,decide_eq_true_eq,smallAll_iff]
  refine ⟨by rw [List.length_map,List.length_drop];omega,fun d hd=>?_⟩
  obtain ⟨p,hp,rfl⟩:=List.mem_map.mp hd
  exact stateT_small (by have:=h2 p (List.mem_of_mem_drop hp);omega)
theorem one_sign {z:Str} (h:z.length=1):∃ c,z=ch c:=by
 obtain ⟨⟨l⟩⟩:=z
 have h:l.length=1:=h
 obtain ⟨c,rfl⟩:=List.length_eq_one_iff.mp h
 exact ⟨c,rfl⟩
theorem subAt_ch (x:Str) (c i:Nat):Builtin.Str.subAt x (ch c) i=true↔x.cps.toList[i]? = some c:=by
 rw [StrLaws.subAt_eq,beq_iff_eq]
 show (x.cps.toList.drop i).take 1=[c]↔_
 generalize x.cps.toList=l
 constructor
 ·intro h
  have:=congrArg (fun y:List Nat=>y[0]?) h
  simpa [List.getElem?_take,List.getElem?_drop] using this
 ·intro h
  have hl:=(List.getElem?_eq_some_iff.mp h)
  obtain ⟨h1,h2⟩:=hl
  rw [List.drop_eq_getElem_cons h1,List.take_succ_cons,List.take_zero,h2]
theorem fig_ch {d:Nat} (h:d < 10):strI (d:Int)=ch (48+d):=str_ext (strI_cps h)
theorem fig_cps:figS.cps.toList=[48,49,50,51,52,53,54,55,56,57]:=by decide +kernel
theorem find_ch (c:Nat):(∃ d,d < 10/\c=48+d/\Txt.find figS (ch c)=(d:Int))\/((∀ d,d < 10->c≠48+d)/\Txt.find figS (ch c) = -1):=by
 by_cases h:∃ d,d < 10/\c=48+d
 ·obtain ⟨d,hd,rfl⟩:=h
  refine .inl ⟨d,hd,rfl,?_⟩
  rw [<-fig_ch hd]
  exact find_fig hd
 ·refine .inr ⟨fun d hd e=>h ⟨d,hd,e⟩,?_⟩
  unfold Txt.find
  rw [StrLaws.occ_eq,occ_first _ _ _ _ _ (fun _ _=>Nat.zero_le _)]
  have:(List.range' 0 (figS.length+1 - 0)).find? (fun i=>decide (i+(ch c).length<=figS.length/\Builtin.Str.subAt figS (ch c) i=true))=none:=by
   rw [List.find?_eq_none]
   intro i hi z
   have z:=(of_decide_eq_true z).2
   rw [subAt_ch,fig_cps] at z
   have hi10:=(List.getElem?_eq_some_iff.mp z).1
   have:i=0\/i=1\/i=2\/i=3\/i=4\/i=5\/i=6\/i=7\/i=8\/i=9:=by simp at hi10;omega
   refine h ⟨i,by omega,?_⟩
   rcases this with rfl | rfl | rfl | rfl | rfl | rfl | rfl | rfl | rfl | rfl<;>exact (Option.some.inj z).symm
  rw [this]
theorem numZ_iff (z:Str):(∃ d:Nat,d < 10/\z=strI (d:Int)/\numZ z=(d:Int))\/((∀ d:Nat,d < 10->z≠strI (d:Int))/\numZ z = -1):=by
 unfold numZ
 by_cases h:z.length=1
 ·rw [if_pos h]
  obtain ⟨c,rfl⟩:=one_sign h
  rcases find_ch c with ⟨d,hd,rfl,e⟩ | ⟨no,e⟩
  ·exact .inl ⟨d,hd,(fig_ch hd).symm,e⟩
  ·refine .inr ⟨fun d hd z=>no d hd ?_,e⟩
   rw [fig_ch hd] at z
   have:=congrArg (fun s:Str=>s.cps.toList) z
   have:[c]=[48+d]:=this
   simpa using this
 ·rw [if_neg h]
  refine .inr ⟨fun d hd e=>h ?_,rfl⟩
  rw [e,fig_ch hd]
  rfl
theorem numZ_eq {z:Str} {d:Nat} (hd:d < 10):numZ z=(d:Int)↔z=strI (d:Int):=by
 rcases numZ_iff z with ⟨e,he,h1,h2⟩ | ⟨no,h2⟩
 ·constructor
  ·intro h
   have:e=d:=by omega
   subst this
   exact h1
  ·intro h
   rw [h] at h1
   have:=strI_inj hd he h1
   subst this
   exact h2
 ·constructor
  ·intro h;omega
  ·intro h;exact absurd h (no d hd)
theorem in_oct {z:Str} (h:z.length=1):(!(Builtin.Str.occurrences ("01234567" : Str) z 0 ("01234567" : Str).length 1).isEmpty)=decide (0<=numZ z/\numZ z<=7):=by
 obtain ⟨c,rfl⟩:=one_sign h
 have ec:("01234567" : Str).cps.toList=[48,49,50,51,52,53,54,55]:=by decide +kernel
 have el:("01234567" : Str).length=8:=by decide +kernel
 rw [Bool.eq_iff_iff,StrLaws.found_iff,decide_eq_true_eq]
 constructor
 ·rintro ⟨i,h1,h2⟩
  rw [subAt_ch,ec] at h2
  have hi:=(List.getElem?_eq_some_iff.mp h2).1
  have hi:i < 8:=by simpa using hi
  have hc:c=48+i:=by
   have:i=0\/i=1\/i=2\/i=3\/i=4\/i=5\/i=6\/i=7:=by omega
   rcases this with rfl | rfl | rfl | rfl | rfl | rfl | rfl | rfl<;>exact (Option.some.inj h2).symm
  have:numZ (ch c)=(i:Int):=(numZ_eq (by omega)).mpr (by rw [fig_ch (by omega),hc])
  omega
 ·rintro ⟨h1,h2⟩
  rcases numZ_iff (ch c) with ⟨d,hd,e1,e2⟩ | ⟨_,e2⟩
  ·have d8:d < 8:=by omega
   refine ⟨d,by rw [el];show d+1<=8;omega,?_⟩
   rw [subAt_ch,ec]
   rw [fig_ch hd] at e1
   have e1:=congrArg (fun s:Str=>s.cps.toList) e1
   have e1:[c]=[48+d]:=e1
   have e1:c=48+d:=by simpa using e1
   rw [e1]
   have:d=0\/d=1\/d=2\/d=3\/d=4\/d=5\/d=6\/d=7:=by omega
   rcases this with rfl | rfl | rfl | rfl | rfl | rfl | rfl | rfl<;>rfl
  ·omega
def rNotInS:R2:=fun x y H Q=>match x,y with
 | .str i,.str j=>Q (.bl (!(!(Builtin.Str.occurrences j i 0 j.length 1).isEmpty))) H
 | _,_=>False
theorem op_notInS {X:Cx}:OpR X (compareOp .NotIn) rNotInS:=op_notIn_str.of fun x y H Q q=>by
 unfold rNotInS at q
 split at q
 ·exact ⟨_,_,rfl,rfl,q⟩
 ·exact q.elim
end L2
end
section
namespace K62
open PySem L2
def top (i:Nat):Stmt:=PySem.Challenge.pw_ownbeat_k62_texts_of_no_code.main.body.getD i (.Pass ⟨0,0,0,0⟩)
end K62
end
section
open PySem L2
local macro_rules | `(tactic| walk_at "T.n")=>`(tactic| with_reducible first | exact vn _ 0 | exact vn _ 1 | exact vn _ 2 | exact vn _ 3 | exact vn _ 4 | exact vn _ 5 | exact vn _ 6 | exact vn _ 7 | exact vn _ 8 | exact vn _ 9 | exact vn _ 10 | exact vn _ 11 | exact vn _ 12 | exact vn _ 13 | exact vn _ 14 | exact vn _ 15 | exact vn _ 16 | exact vn _ 17 | exact vn _ 18 | exact vn _ 19)
local macro_rules | `(tactic| walk_at "T.a")=>`(tactic| first | (with_reducible exact pa_nil) | ((with_reducible refine' a_cons ?a1 ?a2);(case a1=>walk_at "T.e");(case a2=>walk_at "T.a")))
local macro_rules | `(tactic| walk_at "T.o")=>`(tactic| first | (with_reducible exact po_none) | ((with_reducible refine' po_someU ?a1);(case a1=>walk_at "T.e")))
local macro_rules | `(tactic| walk_at "T.cmp")=>`(tactic| first | (with_reducible exact op_inL) | (with_reducible exact op_notInL) | (with_reducible exact op_isU) | (with_reducible exact op_isNotU) | (with_reducible exact op_lt.n0) | (with_reducible exact op_le.n0) | (with_reducible exact op_gt.n0) | (with_reducible exact op_ge.n0) | ((with_reducible refine' op_eqU ?a1);(case a1=>exact Room.units (by assumption))) | ((with_reducible refine' op_neU ?a1);(case a1=>exact Room.units (by assumption))))
local macro_rules | `(tactic| walk_at "T.op")=>`(tactic| first | (with_reducible exact op_addU) | (with_reducible exact op_sub.n0) | (with_reducible exact op_mulU) | (with_reducible exact op_mod.n) | (with_reducible exact op_fdiv.n) | (with_reducible exact op_pow.n) | (with_reducible exact op_shl.n) | (with_reducible exact op_shr.n) | (with_reducible exact op_and.n0) | (with_reducible exact op_xor.n0) | (with_reducible exact op_or.n0))
local macro_rules | `(tactic| walk_at "T.ty")=>`(tactic| first | ((with_reducible refine' ty_int ?a1 ?a9);(case a1=>with_reducible assumption);(case a9=>rfl)) | ((with_reducible refine' ty_bool ?a1 ?a9);(case a1=>with_reducible assumption);(case a9=>rfl)) | ((with_reducible refine' ty_list ?a1 ?a9);(case a1=>with_reducible assumption);(case a9=>rfl)) | ((with_reducible refine' ty_tuple ?a1 ?a9);(case a1=>with_reducible assumption);(case a9=>rfl)) | ((with_reducible refine' ty_str ?a1 ?a9);(case a1=>with_reducible assumption);(case a9=>rfl)))
local macro_rules | `(tactic| walk_at "T.f")=>`(tactic| ((with_reducible refine' fn_can _ ?a0 ?a9 ?a1 ?a2);(case a0=>with_reducible assumption);(case a9=>exact ⟨rfl,rfl,rfl,rfl,rfl⟩);(case a1=>exact Room.mono (by assumption) (by first | decide | exact Nat.le_refl _));(case a2=>walk_at "T.a")))
local macro_rules | `(tactic| walk_at "T.b")=>`(tactic| first | walk_at "T.f" | ((with_reducible refine' fn_len ?a0 ?a9 ?a1);(case a0=>with_reducible assumption);(case a9=>rfl);(case a1=>walk_at "T.a")) | ((with_reducible refine' fn_isinst ?a0 ?a9 ?a1);(case a0=>with_reducible assumption);(case a9=>rfl);(case a1=>walk_at "T.a")) | ((with_reducible refine' fn_all ?a0 ?a9 ?a1);(case a0=>with_reducible assumption);(case a9=>rfl);(case a1=>walk_at "T.a")) | ((with_reducible refine' fn_max ?a0 ?a9 ?a1);(case a0=>with_reducible assumption);(case a9=>rfl);(case a1=>walk_at "T.a")) | ((with_reducible refine' fn_min ?a0 ?a9 ?a1);(case a0=>with_reducible assumption);(case a9=>rfl);(case a1=>walk_at "T.a")) | ((with_reducible refine' fn_str ?a0 ?a9 ?a1);(case a0=>with_reducible assumption);(case a9=>rfl);(case a1=>walk_at "T.a")) )
local macro_rules | `(tactic| walk_at "T.m")=>`(tactic| first | ((with_reducible refine' m_append ?a1 ?a2);(case a1=>walk_at "T.e");(case a2=>walk_at "T.a")) | ((with_reducible refine' m_insert ?a1 ?a2);(case a1=>walk_at "T.e");(case a2=>walk_at "T.a")) | ((with_reducible refine' m_pop ?a1 ?a2);(case a1=>walk_at "T.e");(case a2=>walk_at "T.a")) | ((with_reducible refine' m_join ?a1 ?a2);(case a1=>walk_at "T.e");(case a2=>walk_at "T.a")) | ((with_reducible refine' m_strip ?a1 ?a2);(case a1=>walk_at "T.e");(case a2=>walk_at "T.a")) | ((with_reducible refine' m_count ?a1 ?a2);(case a1=>walk_at "T.e");(case a2=>walk_at "T.a")) )
local macro_rules | `(tactic| walk_at "T.c")=>`(tactic| fail "no comprehension's names")
local macro_rules | `(tactic| walk_at "T.e")=>`(tactic| first | (with_reducible exact pe_int) | (with_reducible exact pe_str) | (with_reducible exact pe_bl) | (with_reducible exact pe_non) | walk_at "T.n" | walk_at "T.ty" | ((with_reducible refine' pe_op ?a1 ?a2 ?a3);(case a1=>walk_at "T.op");(case a2=>walk_at "T.e");(case a3=>walk_at "T.e")) | ((with_reducible refine' e_cmp ?a1 ?a2 ?a3);(case a1=>walk_at "T.cmp");(case a2=>walk_at "T.e");(case a3=>walk_at "T.e")) | ((with_reducible refine' e_chain ?a1 ?a2 ?a3 ?a4 ?a5);(case a1=>walk_at "T.cmp");(case a2=>walk_at "T.cmp");(case a3=>walk_at "T.e");(case a4=>walk_at "T.e");(case a5=>walk_at "T.e")) | ((with_reducible refine' pe_slice slU ?a1 ?a2 ?a3);(case a1=>walk_at "T.e");(case a2=>walk_at "T.o");(case a3=>walk_at "T.o")) | ((with_reducible refine' ix_at ?a1 ?a2);(case a1=>walk_at "T.e");(case a2=>walk_at "T.e")) | ((with_reducible refine' pe_tup ?a1);(case a1=>walk_at "T.a")) | ((with_reducible refine' pe_lst ?a1);(case a1=>walk_at "T.a")) | ((with_reducible refine' pe_andU ?a1 ?a2);(case a1=>walk_at "T.e");(case a2=>walk_at "T.e")) | ((with_reducible refine' pe_one ?a1);(case a1=>walk_at "T.e")) | ((with_reducible refine' pe_notU ?a1);(case a1=>walk_at "T.e")) | ((with_reducible refine' e_neg ?a1);(case a1=>walk_at "T.e")) | walk_at "T.b" | walk_at "T.m" | ((with_reducible refine' e_fmt ?a1);(case a1=>walk_at "T.e")) | ((with_reducible refine' e_fstr ?a1);(case a1=>walk_at "T.j")) | walk_at "T.c")
local macro_rules | `(tactic| walk_at "T.j")=>`(tactic| first | (with_reducible exact pj_nil) )
local macro_rules | `(tactic| walk_at "T.t")=>`(tactic| first | ((with_reducible refine' t_cmp ?a1 ?a2 ?a3);(case a1=>walk_at "T.cmp");(case a2=>walk_at "T.e");(case a3=>walk_at "T.e")) | ((with_reducible refine' pt_not ?a1);(case a1=>walk_at "T.t")) | ((with_reducible refine' PW.pt ?a1);(case a1=>walk_at "T.w")) | ((with_reducible refine' t_tru ?a1);(case a1=>walk_at "T.e")))
local macro_rules | `(tactic| walk_at "T.w")=>`(tactic| first | ((with_reducible refine' pw_and ?a1 ?a2);(case a1=>walk_at "T.t");(case a2=>walk_at "T.w")) | ((with_reducible refine' pw_or ?a1 ?a2);(case a1=>walk_at "T.t");(case a2=>walk_at "T.w")) | ((with_reducible refine' pw_and1 ?a1);(case a1=>walk_at "T.t")) | ((with_reducible refine' pw_or1 ?a1);(case a1=>walk_at "T.t")))
local macro_rules | `(tactic| walk_at "T.i")=>`(tactic| first | ((with_reducible refine' it_r1 ?a0 ?a9 ?a1);(case a0=>with_reducible assumption);(case a9=>rfl);(case a1=>walk_at "T.a")) | ((with_reducible refine' pi_lst ?a1);(case a1=>walk_at "T.e")))
local macro_rules | `(tactic| walk_at "T.gn")=>`(tactic| with_reducible first | exact gn _ 0 (by with_unfolding_all assumption) | exact gn _ 1 (by with_unfolding_all assumption) | exact gn _ 2 (by with_unfolding_all assumption) | exact gn _ 3 (by with_unfolding_all assumption) | exact gn _ 4 (by with_unfolding_all assumption) | exact gn _ 5 (by with_unfolding_all assumption) | exact gn _ 6 (by with_unfolding_all assumption) | exact gn _ 7 (by with_unfolding_all assumption) | exact gn _ 8 (by with_unfolding_all assumption) | exact gn _ 9 (by with_unfolding_all assumption) | exact gn _ 10 (by with_unfolding_all assumption) | exact gn _ 11 (by with_unfolding_all assumption) | exact gn _ 12 (by with_unfolding_all assumption) | exact gn _ 13 (by with_unfolding_all assumption) | exact gn _ 14 (by with_unfolding_all assumption) | exact gn _ 15 (by with_unfolding_all assumption) | exact gn _ 16 (by with_unfolding_all assumption) | exact gn _ 17 (by with_unfolding_all assumption) | exact gn _ 18 (by with_unfolding_all assumption) | exact gn _ 19 (by with_unfolding_all assumption))
local macro_rules | `(tactic| walk_at "T.g")=>`(tactic| first | walk_at "T.gn" | ((with_reducible refine' g_sub ?a1 ?a2);(case a1=>walk_at "T.e");(case a2=>walk_at "T.e")) | ((with_reducible refine' g_tupL ?a1);(case a1=>walk_at "T.gs")) | ((with_reducible refine' g_tupN ?a1);(case a1=>walk_at "T.gs")))
local macro_rules | `(tactic| walk_at "T.gs")=>`(tactic| first | (with_reducible exact pgs_nil) | ((with_reducible refine' gs_cons ?a1 ?a2);(case a1=>walk_at "T.g");(case a2=>walk_at "T.gs")))
local macro_rules | `(tactic| walk_at "T.sc")=>`(tactic| fail "no comprehension's names")
local macro_rules | `(tactic| walk_at "T.st")=>`(tactic| first | ((with_reducible refine' ps_ret ?a1);(case a1=>walk_at "T.e")) | walk_at "T.sc" | ((with_reducible refine' s_asg ?a1 ?a2);(case a1=>walk_at "T.e");(case a2=>walk_at "T.g")) | ((with_reducible refine' s_expr ?a1);(case a1=>walk_at "T.e")) | ((with_reducible refine' ps_if ?a1 ?a2 ?a3);(case a1=>walk_at "T.t");(case a2=>walk_at "T.s");(case a3=>walk_at "T.s")) | ((with_reducible refine' s_for ?a1 ?a2 ?a3);(case a1=>walk_at "T.i");(case a2=>walk_at "T.g");(case a3=>walk_at "T.s")) | (with_reducible exact s_raise))
local macro_rules | `(tactic| walk_at "T.s")=>`(tactic| first | (with_reducible exact pss_nil) | ((with_reducible refine' pss_one ?a1);(case a1=>walk_at "T.st")) | ((with_reducible refine' pss_cons ?a1 ?a2);(case a1=>walk_at "T.st");(case a2=>walk_at "T.s")))
local macro_rules | `(tactic| walk_at "T.pf")=>`(tactic| first | (with_reducible exact pf_nil) )
local macro_rules | `(tactic| walk_at "T.top1")=>`(tactic| ((refine' pss_one ?a1);(case a1=>walk_at "T.st")))
local macro_rules | `(tactic| walk_at "T.top")=>`(tactic| ((refine' pss_cons ?a1 ?a2);(case a1=>walk_at "T.st");(case a2=>walk_at "T.s")))
section
namespace K62
open PySem L2
section
variable {P:Program} {w:World} {K:PySem.W.Frag} {mg:Str->Option Value} {base:Heap}
abbrev sWhole:Stmt:=top 11
theorem scWhole:FnScope ["thing"] ["thing"] (defScope sWhole):=⟨rfl,rfl,rfl,by decide +kernel,rfl,by decide +kernel,by decide +kernel⟩
theorem ok_whole (D:FnX K mg "is_whole" sWhole ["thing"]) (g1:mg "isinstance" = none) (g2:mg "int" = none) (g3:mg "bool" = none):Can P w K mg base "is_whole" 1 ["thing"] spWholeD:=by
 refine can_fn (k:=0) D scWhole (fun vs H Q E h=>?_) (fun f cdv A outer s H vs Q E hr h=>?_)
 all_goals
  unfold spWholeD at h
  split at h
 ·rfl
 ·exact h.elim
 ·rename_i v
  obtain ⟨d,hd,q⟩:=h
  have nd:=scWhole.nd
  refine ⟨_,(by walk_at "T.top1"),?_⟩
  refine ⟨tyD d,hd.ty,by decide,?_⟩
  cases d with
  | int i=>exact iteP rfl ⟨"int",hd.ty,by decide,q⟩
  | bool b=>exact iteP rfl ⟨"bool",hd.ty,by decide,q⟩
  | _=>exact iteN rfl q
 ·exact h.elim
end
section
variable {P:Program} {w:World} {K:PySem.W.Frag} {mg:Str->Option Value} {base:Heap}
abbrev sWithin:Stmt:=top 14
theorem scWithin:FnScope ["thing","least","greatest"] ["thing","least","greatest"] (defScope sWithin):=⟨rfl,rfl,rfl,by decide +kernel,rfl,by decide +kernel,by decide +kernel⟩
theorem ok_within (D:FnX K mg "is_within" sWithin ["thing","least","greatest"]) (c1:Can P w K mg base "is_whole" 1 ["thing"] spWholeD):Can P w K mg base "is_within" 2 ["thing","least","greatest"] spWithinD:=by
 refine can_fn (k:=1) D scWithin (fun vs H Q E h=>?_) (fun f cdv A outer s H vs Q E hr h=>?_)
 all_goals
  unfold spWithinD at h
  split at h
 ·rfl
 ·exact h.elim
 ·rename_i v a b
  obtain ⟨d,hd,q⟩:=h
  have nd:=scWithin.nd
  refine ⟨_,(by walk_at "T.top1"),?_⟩
  refine ⟨d,hd,?_⟩
  cases d with
  | int i=>
   have e:=hd.int_inv
   subst e
   refine iteP rfl ?_
   dsimp only [Om.within] at q
   refine ite2 (fun h1=>?_) (fun h1=>?_)
   ·rw [h1,Bool.true_and] at q
    exact q
   ·rw [Bool.eq_false_iff.mpr h1,Bool.false_and] at q
    exact q
  | _=>exact iteN rfl q
 ·exact h.elim
end
section
variable {P:Program} {w:World} {K:PySem.W.Frag} {mg:Str->Option Value} {base:Heap}
abbrev sWord:Stmt:=top 17
theorem scWord:FnScope ["thing","n"] ["thing","n"] (defScope sWord):=⟨rfl,rfl,rfl,by decide +kernel,rfl,by decide +kernel,by decide +kernel⟩
theorem ok_word (D:FnX K mg "is_word" sWord ["thing","n"]) (g1:mg "isinstance" = none) (g2:mg "str" = none) (g3:mg "len" = none):Can P w K mg base "is_word" 1 ["thing","n"] spWordD:=by
 refine can_fn (k:=0) D scWord (fun vs H Q E h=>?_) (fun f cdv A outer s H vs Q E hr h=>?_)
 all_goals
  unfold spWordD at h
  split at h
 ·rfl
 ·exact h.elim
 ·rename_i v n
  obtain ⟨d,hd,hs,q⟩:=h
  have nd:=scWord.nd
  refine ⟨_,(by walk_at "T.top1"),?_⟩
  refine ⟨tyD d,hd.ty,by decide,?_⟩
  cases d with
  | str z=>
   have e:=hd.str_inv
   subst e
   have hz:=str_small hs
   refine iteP rfl ?_
   refine ⟨_,lenStr (le_line hz),?_⟩
   dsimp only [Om.wordOk] at q
   refine ite2 (fun h1=>?_) (fun h1=>?_)
   ·rw [h1,Bool.true_and] at q
    exact ⟨rfl,le_line hz,q⟩
   ·rw [Bool.eq_false_iff.mpr h1,Bool.false_and] at q
    exact q
  | _=>exact iteN rfl q
 ·exact h.elim
end
section
variable {P:Program} {w:World} {K:PySem.W.Frag} {mg:Str->Option Value} {base:Heap}
abbrev sRow:Stmt:=top 16
theorem scRow:FnScope ["row","n","count"] ["row","n","count"] (defScope sRow):=⟨rfl,rfl,rfl,by decide +kernel,rfl,by decide +kernel,by decide +kernel⟩
theorem ok_row (D:FnX K mg "is_row" sRow ["row","n","count"]) (g1:mg "isinstance" = none) (g2:mg "tuple" = none) (g3:mg "len" = none) (c1:Can P w K mg base "is_word" 1 ["thing","n"] spWordD) (c2:Can P w K mg base "is_within" 2 ["thing","least","greatest"] spWithinD) :
  Can P w K mg base "is_row" 3 ["row","n","count"] spRowD:=by
 refine can_fn (k:=2) D scRow (fun vs H Q E h=>?_) (fun f cdv A outer s H vs Q E hr h=>?_)
 all_goals
  unfold spRowD at h
  split at h
 ·rfl
 ·exact h.elim
 ·rename_i v n count
  obtain ⟨d,hd,hs,q⟩:=h
  have nd:=scRow.nd
  refine ⟨_,(by walk_at "T.top"),?_⟩
  dsimp only [tSeq,tIfS,tNext]
  by_cases h2:∃ x y,d = .tuple [x,y]
  ·obtain ⟨x,y,rfl⟩:=h2
   obtain ⟨r,xs,rfl,hr',hx⟩:=hd.tup_inv
   obtain ⟨vx,r1,rfl,dx,h1⟩:=hx.one_inv
   obtain ⟨vy,r2,rfl,dy,h2⟩:=h1.one_inv
   have e:=h2.nil_inv
   subst e
   refine tOr_by (c1:=false) (c2:=false) (fun Q q=>⟨"tuple",(by simp [tyN,hr']),by decide,q⟩) (fun _ Q q=>⟨_,lenT hr',q⟩) ?_
   refine iteF ?_
   refine ⟨_,gt hr' (by decide) rfl,?_⟩
   refine ⟨x,dx,(small_tup hs).2 x (by simp),?_⟩
   dsimp only [Om.rowOk] at q
   refine ite2 (fun h3=>?_) (fun h3=>?_)
   ·rw [h3,Bool.true_and] at q
    exact ⟨_,gt hr' (by decide) rfl,y,dy,q⟩
   ·rw [Bool.eq_false_iff.mpr h3,Bool.false_and] at q
    exact q
  ·have e:Om.rowOk d n count=false:=by
    unfold Om.rowOk
    split
    ·exact (h2 ⟨_,_,rfl⟩).elim
    ·rfl
   rw [e] at q
   refine tOr_by (c1:=!(tyD d == "tuple")) (c2:=true) (fun Q q=>⟨tyD d,hd.ty,by decide,?_⟩) (fun h4 Q q=>?_) ?_
   ·show Q (!(tyD d == "tuple" || (tyD d == "bool" && "tuple" == "int"))) H
    have:(tyD d == "tuple" || (tyD d == "bool" && "tuple" == "int"))=(tyD d == "tuple"):=by cases d<;>rfl
    rw [this]
    exact q
   ·cases d with
    | tuple ds=>
     obtain ⟨r,xs,rfl,hr',hx⟩:=hd.tup_inv
     refine ⟨_,lenT hr',?_⟩
     have l:=hx.length
     show Q (!decide (((xs.length:Nat):Int)=2)) H
     rw [decide_eq_false]
     ·exact q
     ·intro h5
      match ds,l with
      | [x,y],_=>exact h2 ⟨_,_,rfl⟩
      | [],l=>simp at l;rw [l] at h5;simp at h5
      | [x],l=>simp at l;omega
      | x :: y :: z :: r,l=>simp at l;omega
    | _=>simp [tyD] at h4
   ·rw [Bool.or_true]
    exact iteP rfl q
 ·exact h.elim
end
end K62
end
section
namespace K62
open PySem L2
section
variable {P:Program} {w:World} {K:PySem.W.Frag} {mg:Str->Option Value} {base:Heap}
abbrev sState:Stmt:=top 15
theorem scState:FnScope ["rows","k","n","count"] ["rows","k","n","count"] (defScope sState):=⟨rfl,rfl,rfl,by decide +kernel,rfl,by decide +kernel,by decide +kernel⟩
local macro_rules | `(tactic| walk_at "T.c")=>`(tactic| (have ndc:(["row","n","count"]:List Str).Nodup:=(by decide +kernel));((with_reducible refine' c_comp ["row","n","count"] [2,3] ?b1 ?b2 (fun cl C s H fp=>?b3) (fun cl C s H fp=>?b4) (fun cl C s H fp=>?b5));(case b1=>exact ndc);(case b2=>walk_at "T.i");(case b3=>walk_at "T.g");(case b4=>walk_at "T.pf");(case b5=>walk_at "T.e")))
theorem ok_state (D:FnX K mg "is_state" sState ["rows","k","n","count"]) (g1:mg "isinstance" = none) (g2:mg "list" = none) (g3:mg "all" = none) (g4:mg "len" = none)
  (c1:Can P w K mg base "is_row" 3 ["row","n","count"] spRowD):Can P w K mg base "is_state" 4 ["rows","k","n","count"] spStateD:=by
 refine can_fn (k:=3) D scState (fun vs H Q E h=>?_) (fun f cdv A outer s H vs Q E hr h=>?_)
 all_goals
  unfold spStateD at h
  split at h
 ·rfl
 ·exact h.elim
 ·rename_i v k n count
  obtain ⟨d,hd,hs,k1,k3,q⟩:=h
  have nd:=scState.nd
  refine ⟨_,(by walk_at "T.top"),?_⟩
  dsimp only [tSeq,tIfS,tNext]
  by_cases hL:∃ ds,d = .list ds
  ·obtain ⟨ds,rfl⟩:=hL
   obtain ⟨r,rs,rfl,hr',hx⟩:=hd.lst_inv
   obtain ⟨sl,sd⟩:=small_list hs
   have rl:rs.length=ds.length:=hx.length
   have p2:((1:Int) * 2 ^ k.toNat)=((2 ^ k.toNat:Nat):Int):=by push_cast;omega
   refine tOr_by (c1:=false) (c2:=!decide (ds.length=2 ^ k.toNat)) (fun Q q=>⟨"list",(by simp [tyN,hr']),by decide,q⟩) (fun _ Q q=>⟨_,lenL hr',⟨by omega,by omega,by decide⟩,?_⟩) ?_
   ·show Q (!decide (((rs.length:Nat):Int)=1 * 2 ^ k.toNat)) H
    have e:decide (((rs.length:Nat):Int)=1 * 2 ^ k.toNat)=decide (ds.length=2 ^ k.toNat):=decide_eq_decide.mpr (by rw [p2,rl];exact Int.ofNat_inj)
    rw [e]
    exact q
   dsimp only [Om.stateOk] at q
   rw [Bool.false_or]
   refine ite2 (fun h1=>?_) (fun h1=>?_)
   ·have e:decide (ds.length=2 ^ k.toNat)=false:=by simpa using h1
    rw [e,Bool.false_and] at q
    exact q _ (Same.refl _)
   ·have e:decide (ds.length=2 ^ k.toNat)=true:=by simpa using h1
    rw [e,Bool.true_and] at q
    refine ⟨⟨_,SqL.of hr'⟩,fun D1 hD1=>?_⟩
    have hD:∀ o,DVs (upd H D1 o) rs ds:=fun o=>hx.mono (Same.upd hD1)
    refine comp_by (it_list _ r rs) (fun i τ H2 ys=>(∃ v,τ=[v,some (.int n),some (.int count)])/\Same H H2/\H2 D1=some (.lst ys)/\ys=(ds.take i).map fun d=>V.bl (Om.rowOk d n count)) (by rw [rl];exact le_line sl) ⟨⟨none,rfl⟩,Same.upd hD1,upd_same,rfl⟩ ?_ ?_ ?_
    ·rintro i τ H2 ys hi ⟨_,s2,h2,rfl⟩
     exact ⟨SqL.of (s2 _ _ hr'),h2,by rw [List.length_map,List.length_take];omega⟩
    ·rintro i x τ H2 ys hi hx' ⟨⟨v,rfl⟩,s2,h2,rfl⟩
     have hi':i < ds.length:=by rw [<-rl];exact hi
     obtain ⟨x',e1,d1⟩:=hx.get (i:=i) (d:=ds[i]) (List.getElem?_eq_getElem hi')
     rw [hx'] at e1
     cases e1
     refine ⟨ds[i],d1.mono s2,sd _ (List.getElem_mem hi'),?_⟩
     refine ⟨h2,⟨_,rfl⟩,fun x o e=>?_,upd_same,?_⟩
     ·rw [upd_ne (ne_of_none e hD1)]
      exact s2 _ _ e
     ·rw [List.take_add_one,List.getElem?_eq_getElem hi',List.map_append]
      rfl
    ·rintro τ H2 ys ⟨_,s2,h2,rfl⟩
     rw [rl,List.take_length] at h2
     refine ⟨ds.map fun d=>Om.rowOk d n count,by rw [h2,List.map_map];rfl,?_⟩
     rw [List.all_map]
     exact q _ s2
  ·have e:Om.stateOk d k.toNat n count=false:=by
    unfold Om.stateOk
    split
    ·exact (hL ⟨_,rfl⟩).elim
    ·rfl
   rw [e] at q
   have ht:(tyD d == "list" || (tyD d == "bool" && "list" == "int"))=false:=by
    cases d<;>first | rfl | exact (hL ⟨_,rfl⟩).elim
   refine tOr_by (c1:=true) (c2:=true) (fun Q q=>⟨tyD d,hd.ty,by decide,?_⟩) (fun h4 Q q=>nomatch h4) ?_
   ·show Q (!(tyD d == "list" || (tyD d == "bool" && "list" == "int"))) H
    rw [ht]
    exact q
   ·exact iteP rfl (q _ (Same.refl _))
 ·exact h.elim
end
end K62
end
section
namespace K62
open PySem L2
section
variable {P:Program} {w:World} {K:PySem.W.Frag} {mg:Str->Option Value} {base:Heap}
abbrev sCode:Stmt:=top 13
theorem scCode:FnScope ["thing","k","n","states"] ["thing"] (defScope sCode):=⟨rfl,rfl,rfl,by decide +kernel,rfl,by decide +kernel,by decide +kernel⟩
local macro_rules | `(tactic| walk_at "T.c")=>`(tactic| (have ndc:(["rows","k","n","states"]:List Str).Nodup:=(by decide +kernel));((with_reducible refine' c_comp ["rows","k","n","states"] [1,2,3] ?b1 ?b2 (fun cl C s H fp=>?b3) (fun cl C s H fp=>?b4) (fun cl C s H fp=>?b5));(case b1=>exact ndc);(case b2=>walk_at "T.i");(case b3=>walk_at "T.g");(case b4=>walk_at "T.pf");(case b5=>walk_at "T.e")))
theorem ok_code (D:FnX K mg "is_code" sCode ["thing"]) (g1:mg "isinstance" = none) (g2:mg "list" = none) (g3:mg "all" = none) (g4:mg "len" = none) (g5:mg "tuple" = none)
  (c1:Can P w K mg base "is_within" 2 ["thing","least","greatest"] spWithinD) (c2:Can P w K mg base "is_state" 4 ["rows","k","n","count"] spStateD):Can P w K mg base "is_code" 5 ["thing"] spCodeD:=by
 refine can_fn (k:=4) D scCode (fun vs H Q E h=>?_) (fun f cdv A outer s H vs Q E hr h=>?_)
 all_goals
  unfold spCodeD at h
  split at h
 ·rfl
 ·exact h.elim
 ·rename_i v
  obtain ⟨d,hd,hs,q⟩:=h
  have nd:=scCode.nd
  refine ⟨_,(by walk_at "T.top"),?_⟩
  dsimp only [tSeq,tIfS,tNext]
  by_cases h3:∃ x y z,d = .tuple [x,y,z]
  ·obtain ⟨x,y,z,rfl⟩:=h3
   obtain ⟨a,xs,rfl,ha,hx⟩:=hd.tup_inv
   obtain ⟨vx,r1,rfl,dx,h1⟩:=hx.one_inv
   obtain ⟨vy,r2,rfl,dy,h2⟩:=h1.one_inv
   obtain ⟨vz,r3,rfl,dz,h3⟩:=h2.one_inv
   have e:=h3.nil_inv
   subst e
   refine tOr_by (c1:=false) (c2:=false) (fun Q q=>⟨"tuple",(by simp [tyN,ha]),by decide,q⟩) (fun _ Q q=>⟨_,lenT ha,q⟩) ?_
   refine iteF ?_
   refine ⟨_,gt ha (by decide) rfl,_,gt ha (by decide) rfl,_,gt ha (by decide) rfl,?_⟩
   dsimp only [tSeq,tIfS,tNext,gName]
   have tz:(tyD z == "list" || (tyD z == "bool" && "list" == "int"))=(tyD z == "list"):=by cases z<;>rfl
   refine tOr_by (c1:=!Om.within x 1 3) (c2:=!Om.within y 1 6 || !(tyD z == "list")) (fun Q q=>⟨x,dx,q⟩) (fun _ Q q=>?_) ?_
   ·refine tOr_by (c1:=!Om.within y 1 6) (c2:=!(tyD z == "list")) (fun Q q=>⟨y,dy,q⟩) (fun _ Q q=>⟨tyD z,dz.ty,by decide,?_⟩) q
    show Q (!(tyD z == "list" || (tyD z == "bool" && "list" == "int"))) H
    rw [tz]
    exact q
   refine ite2 (fun h5=>?_) (fun h5=>?_)
   ·have e:Om.codeOk (.tuple [x,y,z])=false:=by
     cases z with
     | list ss=>
      dsimp only [Om.codeOk]
      have:(tyD (.list ss) == "list")=true:=rfl
      rw [this] at h5
      cases e1:Om.within x 1 3 with
      | false=>rfl
      | true=>
       cases e2:Om.within y 1 6 with
       | false=>rfl
       | true=>rw [e1,e2] at h5;exact nomatch h5
     | _=>rfl
    rw [e] at q
    exact q _ (Same.refl _)
   ·have h6:Om.within x 1 3=true/\Om.within y 1 6=true/\(tyD z == "list")=true:=by
     revert h5
     cases Om.within x 1 3<;>cases Om.within y 1 6<;>cases (tyD z == "list")<;>simp
    obtain ⟨w1,w2,w3⟩:=h6
    obtain ⟨k,rfl,k1,k3⟩:=Om.within_inv w1
    obtain ⟨n,rfl,n1,n6⟩:=Om.within_inv w2
    have ex:=dx.int_inv
    have ey:=dy.int_inv
    subst ex
    subst ey
    obtain ⟨ss,rfl⟩ : ∃ ss,z = .list ss:=by
     cases z<;>first | exact ⟨_,rfl⟩ | exact absurd w3 (by decide) | (simp [tyD] at w3)
    obtain ⟨b,us,rfl,hb,hu⟩:=dz.lst_inv
    have sl:us.length=ss.length:=hu.length
    obtain ⟨zl,zs⟩:=small_list ((small_tup hs).2 (.list ss) (by simp))
    dsimp only [Om.codeOk] at q
    rw [w1,w2,Bool.true_and,Bool.true_and] at q
    refine ⟨_,lenL hb,.int ((us.length:Nat):Int),.int _,?_⟩
    have e8:Om.within (.int ((us.length:Nat):Int)) 1 8=decide (1<=ss.length/\ss.length<=8):=by
     dsimp only [Om.within]
     rw [sl,<-Bool.decide_and]
     exact decide_eq_decide.mpr ⟨fun h=>⟨by omega,by omega⟩,fun h=>⟨by omega,by omega⟩⟩
    rw [e8]
    refine ite2 (fun h7=>?_) (fun h7=>?_)
    ·have e:decide (1<=ss.length/\ss.length<=8)=false:=by
      cases hb8:decide (1<=ss.length/\ss.length<=8) with
      | false=>rfl
      | true=>rw [hb8] at h7;exact nomatch h7
     rw [e,Bool.false_and] at q
     exact q _ (Same.refl _)
    ·have e:decide (1<=ss.length/\ss.length<=8)=true:=by
      cases hb8:decide (1<=ss.length/\ss.length<=8) with
      | true=>rfl
      | false=>rw [hb8] at h7;exact (h7 rfl).elim
     have l8:=of_decide_eq_true e
     rw [e,Bool.true_and] at q
     refine ⟨⟨_,SqL.of hb⟩,fun D1 hD1=>?_⟩
     refine comp_by (it_list _ b us) (fun i τ H2 ys=>(∃ v,τ=[v,some (.int k),some (.int n),some (.ref b)])/\Same H H2/\H2 D1=some (.lst ys)/\ys=(ss.take i).map fun d=>V.bl (Om.stateOk d k.toNat n (ss.length:Nat))) (by rw [sl];exact le_line (by omega)) ⟨⟨none,rfl⟩,Same.upd hD1,upd_same,rfl⟩ ?_ ?_ ?_
     ·rintro i τ H2 ys hi ⟨_,s2,h2,rfl⟩
      exact ⟨SqL.of (s2 _ _ hb),h2,by rw [List.length_map,List.length_take];omega⟩
     ·rintro i x τ H2 ys hi hx' ⟨⟨v,rfl⟩,s2,h2,rfl⟩
      have hi':i < ss.length:=by rw [<-sl];exact hi
      obtain ⟨x',e1,d1⟩:=hu.get (i:=i) (d:=ss[i]) (List.getElem?_eq_getElem hi')
      rw [hx'] at e1
      cases e1
      refine ⟨_,lenL (s2 _ _ hb),?_⟩
      refine ⟨ss[i],d1.mono s2,zs _ (List.getElem_mem hi'),k1,k3,fun H3 s3=>?_⟩
      refine ⟨s3 _ _ h2,⟨_,rfl⟩,fun x o e=>?_,upd_same,?_⟩
      ·rw [upd_ne (ne_of_none e hD1)]
       exact s3 _ _ (s2 _ _ e)
      ·rw [List.take_add_one,List.getElem?_eq_getElem hi',List.map_append,sl]
       rfl
     ·rintro τ H2 ys ⟨_,s2,h2,rfl⟩
      rw [sl,List.take_length] at h2
      refine ⟨ss.map fun d=>Om.stateOk d k.toNat n (ss.length:Nat),by rw [h2,List.map_map];rfl,?_⟩
      rw [List.all_map]
      exact q _ s2
  ·have e:Om.codeOk d=false:=by
    unfold Om.codeOk
    split
    ·exact (h3 ⟨_,_,_,rfl⟩).elim
    ·rfl
   rw [e] at q
   refine tOr_by (c1:=!(tyD d == "tuple")) (c2:=true) (fun Q q=>⟨tyD d,hd.ty,by decide,?_⟩) (fun h4 Q q=>?_) ?_
   ·show Q (!(tyD d == "tuple" || (tyD d == "bool" && "tuple" == "int"))) H
    have:(tyD d == "tuple" || (tyD d == "bool" && "tuple" == "int"))=(tyD d == "tuple"):=by cases d<;>rfl
    rw [this]
    exact q
   ·cases d with
    | tuple ds=>
     obtain ⟨r,xs,rfl,hr',hx⟩:=hd.tup_inv
     refine ⟨_,lenT hr',?_⟩
     have l:=hx.length
     show Q (!decide (((xs.length:Nat):Int)=3)) H
     rw [decide_eq_false]
     ·exact q
     ·intro h5
      match ds,l with
      | [x,y,z],_=>exact h3 ⟨_,_,_,rfl⟩
      | [],l=>simp at l;rw [l] at h5;simp at h5
      | [x],l=>simp at l;omega
      | [x,y],l=>simp at l;omega
      | x :: y :: z :: u :: r,l=>simp at l;omega
    | _=>simp [tyD] at h4
   ·rw [Bool.or_true]
    exact iteP rfl (q _ (Same.refl _))
 ·exact h.elim
end
end K62
end
section
namespace K62
open PySem L2
section
variable {P:Program} {w:World} {K:PySem.W.Frag} {mg:Str->Option Value} {base:Heap}
open Classical in
noncomputable def woF (F:Addr->Prop) (H:Hp):Hp:=fun b=>if F b then none else H b
theorem woF_at {F:Addr->Prop} {H:Hp} {b:Addr} (n:¬ F b):woF F H b=H b:=if_neg n
theorem woF_none {F:Addr->Prop} {H:Hp} {b:Addr} (n:F b):woF F H b=none:=if_pos n
theorem woF_same (F:Addr->Prop) (H:Hp):Same (woF F H) H:=fun b u e=>by
 by_cases z:F b
 ·rw [woF_none z] at e;cases e
 ·rw [woF_at z] at e;exact e
theorem woF_sub {F:Addr->Prop} {H H':Hp} {B:Addr} {o:HO} (s:Same H H') (hB:F B):Same (woF F H) (woF F (upd H' B o)):=fun x u e=>by
 by_cases z:F x
 ·rw [woF_none z] at e;cases e
 ·rw [woF_at z] at e ⊢
  rw [upd_ne (fun c:x=B=>z (by rw [c];exact hB))]
  exact s _ _ e
def Nw (H:Hp) (B:Addr):Addr->Prop:=fun b=>b=B\/∃ u,H b=some u
theorem nw_dv {H H2 H3 G:Hp} {B:Addr} {o:HO} {v:V} {d:PyData} (s2:Same H H2) (hB:∃ u,H2 B=some u) (sG:Same G H3) (gn:∀ b u,H2 b=some u->G b=none) (dv:DV G v d):DV (woF (Nw H B) (upd H3 B o)) v d:=dv.mono fun b u e=>by
 have b1:b≠B:=fun z=>by obtain ⟨u',hu⟩:=hB;rw [z,gn B u' hu] at e;cases e
 have b2:¬ ∃ u,H b=some u:=fun ⟨u',hu⟩=>by rw [gn b u' (s2 _ _ hu)] at e;cases e
 rw [woF_at (fun z=>z.elim b1 b2),upd_ne b1]
 exact sG _ _ e
abbrev sNum:Stmt:=top 24
def spNum:Sp:=fun vs H Q _=>match vs with
 | [.str z]=>z.length<=1000/\Q (.int (numZ z)) H
 | _=>False
theorem scNum:FnScope ["part"] ["part"] (defScope sNum):=⟨rfl,rfl,rfl,by decide +kernel,rfl,by decide +kernel,by decide +kernel⟩
local macro_rules | `(tactic| walk_at "T.ty")=>`(tactic| ((with_reducible refine' e_gstr ?a0 ?a9);(case a0=>with_reducible assumption);(case a9=>rfl)))
local macro_rules | `(tactic| walk_at "T.m")=>`(tactic| ((with_reducible refine' m_find ?a1 ?a2);(case a1=>walk_at "T.e");(case a2=>walk_at "T.a")))
local macro_rules | `(tactic| walk_at "T.c")=>`(tactic| ((with_reducible refine' pe_ifExp ?a1 ?a2 ?a3);(case a1=>walk_at "T.t");(case a2=>walk_at "T.e");(case a3=>walk_at "T.e")))
theorem ok_num (D:FnX K mg "number_of" sNum ["part"]) (g1:mg "len" = none) (g2:∃ tk,mg "FIGURES" = some (.str figS tk)):Can P w K mg base "number_of" 1 ["part"] spNum:=by
 refine can_fn (k:=0) D scNum (fun vs H Q E h=>?_) (fun f cdv A outer s H vs Q E hr h=>?_)
 all_goals
  unfold spNum at h
  split at h
 ·rfl
 ·exact h.elim
 ·rename_i z
  obtain ⟨hz,q⟩:=h
  have nd:=scNum.nd
  refine ⟨_,(by walk_at "T.top1"),?_⟩
  refine ⟨_,lenStr (le_line hz),?_⟩
  dsimp only [tC,rEqU]
  unfold numZ at q
  refine ite2 (fun h1=>?_) (fun h1=>?_)
  ·have h1:z.length=1:=by have:=of_decide_eq_true h1;omega
   rw [if_pos h1] at q
   exact ⟨rfl,q⟩
  ·have h1:¬ z.length=1:=fun e=>h1 (decide_eq_true (by omega))
   rw [if_neg h1] at q
   exact q
 ·exact h.elim
end
section
variable {P:Program} {w:World} {K:PySem.W.Frag} {mg:Str->Option Value} {base:Heap}
abbrev sRowOf:Stmt:=top 23
def spRowOf:Sp:=fun vs H Q _=>match vs with
 | [.str z]=>z.length<=900/\∀ l H',Same H H'->H l=none->H' l=some (.tup (rowV z))->Q (.ref l) H'
 | _=>False
theorem scRowOf:FnScope ["row","pieces"] ["row"] (defScope sRowOf):=⟨rfl,rfl,rfl,by decide +kernel,rfl,by decide +kernel,by decide +kernel⟩
local macro_rules | `(tactic| walk_at "T.m")=>`(tactic| ((with_reducible refine' m_split ?a1 ?a2);(case a1=>walk_at "T.e");(case a2=>walk_at "T.a")))
local macro_rules | `(tactic| walk_at "T.b")=>`(tactic| ((with_reducible refine' fn_tup1 ?a0 ?a9 ?a1);(case a0=>with_reducible assumption);(case a9=>rfl);(case a1=>walk_at "T.a")))
theorem last_split {ps:List Str} (h:ps≠[]):ps=ps.dropLast++[ps.getLast?.getD ("" : Str)]:=by
 rw [List.getLast?_eq_some_getLast h]
 exact (List.dropLast_concat_getLast h).symm
theorem ok_rowOf (D:FnX K mg "row_of" sRowOf ["row"]) (g1:mg "tuple" = none) (c1:Can P w K mg base "number_of" 1 ["part"] spNum):Can P w K mg base "row_of" 2 ["row"] spRowOf:=by
 refine can_fn (k:=1) D scRowOf (fun vs H Q E h=>?_) (fun f cdv A outer s H vs Q E hr h=>?_)
 all_goals
  unfold spRowOf at h
  split at h
 ·rfl
 ·exact h.elim
 ·rename_i z
  obtain ⟨hz,q⟩:=h
  have nd:=scRowOf.nd
  obtain ⟨h1,h2,h3⟩:=spG_len z
  refine ⟨_,(by walk_at "T.top"),?_⟩
  refine ⟨rfl,by decide +kernel,le_line (by omega),fun p1 hp1=>?_⟩
  rw [show Txt.split z (">" : Str)=spG z from rfl]
  unfold rowV at q
  have e0:=last_split h1
  have hlast:((spG z).getLast?.getD ("" : Str)).length<=z.length:=h2 _ (by rw [e0];simp)
  have dl:(spG z).dropLast.length<=z.length:=by rw [List.length_dropLast];omega
  generalize (spG z).getLast?.getD ("" : Str)=lt at e0 q hlast
  generalize (spG z).dropLast=dr at e0 q dl
  rw [e0]
  have em:(dr++[lt]).map V.str=dr.map V.str++[.str lt]:=by rw [List.map_append];rfl
  rw [em]
  have u1:=Same.upd (o:=.lst (dr.map V.str++[.str lt])) hp1
  have k1:upd H p1 (.lst (dr.map V.str++[.str lt])) p1=some (.lst (dr.map V.str++[.str lt])):=upd_same
  generalize upd H p1 (.lst (dr.map V.str++[.str lt]))=H1 at u1 k1 ⊢
  dsimp only [gName]
  refine ⟨_,k1,fun p2 hp2=>?_⟩
  rw [cut_m1]
  have u2:=Same.upd (o:=.lst (dr.map V.str)) hp2
  have k2:upd H1 p2 (.lst (dr.map V.str)) p2=some (.lst (dr.map V.str)):=upd_same
  generalize upd H1 p2 (.lst (dr.map V.str))=H2 at u2 k2 ⊢
  refine ⟨.str lt,by rw [getV_lst (u2 _ _ k1)];exact atI_last _ _,by omega,?_⟩
  refine ⟨le_line (Nat.le_of_ble_eq_true rfl),fun p3 hp3=>?_⟩
  have u3:=Same.upd (o:=.lst [.int (numZ lt)]) hp3
  refine ⟨_,_,u3 _ _ k2,upd_same,le_line (by rw [List.length_map];show _+1<=1000;omega),fun p4 hp4=>?_⟩
  have u4:=Same.upd (o:=.lst (dr.map V.str++[.int (numZ lt)])) hp4
  refine ⟨_,upd_same,fun p5 hp5=>?_⟩
  have u:=((u1.trans u2).trans u3).trans u4
  exact q p5 _ (u.trans (Same.upd hp5)) (u.free hp5) upd_same
 ·exact h.elim
end
section
variable {P:Program} {w:World} {K:PySem.W.Frag} {mg:Str->Option Value} {base:Heap}
abbrev sStateOf:Stmt:=top 22
def spStateOf:Sp:=fun vs H Q _=>match vs with
 | [.str z]=>z.length<=900/\∀ v G H',Same H H'->Same G H'->(∀ b u,H b=some u->G b=none)->DV G v (stateT z)->Q v H'
 | _=>False
theorem scStateOf:FnScope ["part"] ["part"] (defScope sStateOf):=⟨rfl,rfl,rfl,by decide +kernel,rfl,by decide +kernel,by decide +kernel⟩
local macro_rules | `(tactic| walk_at "T.m")=>`(tactic| ((with_reducible refine' m_split ?a1 ?a2);(case a1=>walk_at "T.e");(case a2=>walk_at "T.a")))
local macro_rules | `(tactic| walk_at "T.c")=>`(tactic| (have ndc:(["row"]:List Str).Nodup:=(by decide +kernel));((with_reducible refine' c_comp ["row"] [] ?b1 ?b2 (fun cl C s H fp=>?b3) (fun cl C s H fp=>?b4) (fun cl C s H fp=>?b5));(case b1=>exact ndc);(case b2=>walk_at "T.i");(case b3=>walk_at "T.g");(case b4=>walk_at "T.pf");(case b5=>walk_at "T.e")))
theorem ok_stateOf (D:FnX K mg "state_of" sStateOf ["part"]) (c1:Can P w K mg base "row_of" 2 ["row"] spRowOf):Can P w K mg base "state_of" 3 ["part"] spStateOf:=by
 refine can_fn (k:=2) D scStateOf (fun vs H Q E h=>?_) (fun f cdv A outer s H vs Q E hr h=>?_)
 all_goals
  unfold spStateOf at h
  split at h
 ·rfl
 ·exact h.elim
 ·rename_i z
  obtain ⟨hz,q⟩:=h
  have nd:=scStateOf.nd
  obtain ⟨h1,h2,h3⟩:=spC_len z
  refine ⟨_,(by walk_at "T.top1"),?_⟩
  refine ⟨rfl,by decide +kernel,le_line (by omega),fun p1 hp1=>?_⟩
  rw [show Txt.split z ("," : Str)=spC z from rfl]
  have u1:=Same.upd (o:=.lst ((spC z).map V.str)) hp1
  have k1:upd H p1 (.lst ((spC z).map V.str)) p1=some (.lst ((spC z).map V.str)):=upd_same
  generalize upd H p1 (.lst ((spC z).map V.str))=H1 at u1 k1 ⊢
  refine ⟨⟨_,SqL.of k1⟩,fun D1 hD1=>?_⟩
  refine comp_by (it_list _ p1 ((spC z).map V.str)) (fun i τ H2 ys=>(∃ v,τ=[v])/\Same H1 H2/\H2 D1=some (.lst ys)/\DVs (woF (Nw H1 D1) H2) ys (((spC z).take i).map rowT)) (by rw [List.length_map];exact le_line (by omega)) ⟨⟨none,rfl⟩,Same.upd hD1,upd_same,.nil⟩ ?_ ?_ ?_
  ·rintro i τ H2 ys hi ⟨_,s2,h2',dg⟩
   refine ⟨SqL.of (s2 _ _ k1),h2',?_⟩
   rw [dg.length,List.length_map,List.length_take];omega
  ·rintro i x τ H2 ys hi hx ⟨⟨v,rfl⟩,s2,k2,dg⟩
   have hi':i < (spC z).length:=by simpa using hi
   rw [List.getElem?_map,List.getElem?_eq_getElem hi'] at hx
   have ex:x = .str (spC z)[i]:=(Option.some.inj hx).symm
   subst ex
   have hlr:=h2 _ (List.getElem_mem hi')
   refine ⟨by omega,fun l H3 s3 nl hl=>?_⟩
   have lD:l≠D1:=fun z=>by rw [z,k2] at nl;cases nl
   refine ⟨s3 _ _ k2,⟨_,rfl⟩,(s2.trans s3).own hD1,upd_same,?_⟩
   rw [List.take_add_one,List.getElem?_eq_getElem hi',List.map_append]
   refine (dg.mono (woF_sub s3 (.inl rfl))).app (.cons (rowT_dv ?_) .nil)
   rw [woF_at (fun z=>z.elim lD fun ⟨u,hu⟩=>by rw [s2 _ _ hu] at nl;cases nl),upd_ne lD]
   exact hl
  ·rintro τ H2 ys ⟨_,s2,k2,dg⟩
   rw [List.length_map,List.take_length] at dg
   have nD:H D1=none:=u1.free hD1
   refine q (.ref D1) (woF (fun b=>∃ u,H b=some u) H2) H2 (u1.trans s2) (woF_same _ _) (fun b u e=>woF_none ⟨u,e⟩) (.lst ?_ (dg.mono fun b u e=>?_))
   ·rw [woF_at (fun ⟨u,hu⟩=>by rw [nD] at hu;cases hu)];exact k2
   ·by_cases z:Nw H1 D1 b
    ·rw [woF_none z] at e;cases e
    ·rw [woF_at z] at e
     rw [woF_at (fun ⟨u,hu⟩=>z (.inr ⟨u,u1 _ _ hu⟩))]
     exact e
 ·exact h.elim
end
section
variable {P:Program} {w:World} {K:PySem.W.Frag} {mg:Str->Option Value} {base:Heap}
abbrev sCodeOf:Stmt:=top 21
def spCodeOf:Sp:=fun vs H Q _=>match vs with
 | [.ref p]=>∃ ps:List Str,H p=some (.lst (ps.map V.str))/\ps.length<=901/\(∀ z∈ps,z.length<=900)/\∀ v H',Same H H'->DV H' v (codeT ps)->Q v H'
 | _=>False
theorem scCodeOf:FnScope ["parts","states"] ["parts"] (defScope sCodeOf):=⟨rfl,rfl,rfl,by decide +kernel,rfl,by decide +kernel,by decide +kernel⟩
local macro_rules | `(tactic| walk_at "T.b")=>`(tactic| ((with_reducible refine' fn_tup1 ?a0 ?a9 ?a1);(case a0=>with_reducible assumption);(case a9=>rfl);(case a1=>walk_at "T.a")))
local macro_rules | `(tactic| walk_at "T.sc")=>`(tactic| (have ndc:(["part"]:List Str).Nodup:=(by decide +kernel));((with_reducible refine' s_comp "states" 1 ["part"] [] ?b1 ?b0 ?b2 (fun cl C s H fp=>?b3) (fun cl C s H fp=>?b4) (fun cl C s H fp=>?b5));(case b1=>exact ndc);(case b0=>assumption);(case b2=>walk_at "T.i");(case b3=>walk_at "T.g");(case b4=>walk_at "T.pf");(case b5=>walk_at "T.e")))
local macro_rules | `(tactic| walk_at "T.c")=>`(tactic| (have ndc:(["part"]:List Str).Nodup:=(by decide +kernel));((with_reducible refine' c_comp ["part"] [] ?b1 ?b2 (fun cl C s H fp=>?b3) (fun cl C s H fp=>?b4) (fun cl C s H fp=>?b5));(case b1=>exact ndc);(case b2=>walk_at "T.i");(case b3=>walk_at "T.g");(case b4=>walk_at "T.pf");(case b5=>walk_at "T.e")))
theorem cut_ge (xs:List V) (a:Nat):cutV xs (some (a:Int)) none=xs.drop a:=by
 have:=cut_gen xs a xs.length
 unfold cutV at this ⊢
 rw [show HT.sIx xs.length xs.length none=HT.sIx xs.length xs.length (some ((xs.length:Nat):Int)) by rw [HT.sIx_none,HT.sIx_nat];omega,this,List.take_of_length_le (by rw [List.length_drop];exact Nat.le_refl _)]
theorem cut_le (xs:List V) (h:Nat):cutV xs none (some (h:Int))=xs.take h:=by
 have:=cut_gen xs 0 h
 unfold cutV at this ⊢
 rw [show HT.sIx xs.length 0 none=HT.sIx xs.length 0 (some ((0:Nat):Int)) by rw [HT.sIx_none,HT.sIx_nat];omega,this,List.drop_zero,Nat.sub_zero]
theorem ok_codeOf (D:FnX K mg "code_of" sCodeOf ["parts"]) (g1:mg "tuple" = none) (c1:Can P w K mg base "number_of" 1 ["part"] spNum) (c2:Can P w K mg base "state_of" 3 ["part"] spStateOf):Can P w K mg base "code_of" 4 ["parts"] spCodeOf:=by
 refine can_fn (k:=3) D scCodeOf (fun vs H Q E h=>?_) (fun f cdv A outer s H vs Q E hr h=>?_)
 all_goals
  unfold spCodeOf at h
  split at h
 ·rfl
 ·exact h.elim
 ·rename_i p
  obtain ⟨ps,hp,pl,pz,q⟩:=h
  have nd:=scCodeOf.nd
  refine ⟨_,(by walk_at "T.top"),?_⟩
  refine ⟨_,hp,fun p1 hp1=>?_⟩
  have ec:cutV (ps.map V.str) (some 2) none=(ps.drop 2).map V.str:=by rw [List.map_drop];exact cut_ge _ 2
  rw [ec]
  have u1:=Same.upd (o:=.lst ((ps.drop 2).map V.str)) hp1
  have k1:upd H p1 (.lst ((ps.drop 2).map V.str)) p1=some (.lst ((ps.drop 2).map V.str)):=upd_same
  generalize upd H p1 (.lst ((ps.drop 2).map V.str))=H1 at u1 k1 ⊢
  have dz:∀ z∈ps.drop 2,z.length<=900:=fun z hz=>pz z (List.mem_of_mem_drop hz)
  have dl:(ps.drop 2).length<=901:=by rw [List.length_drop];omega
  unfold codeT at q
  generalize ps.drop 2=ds at *
  refine ⟨⟨_,SqL.of k1⟩,fun D1 hD1=>?_⟩
  refine comp_by (it_list _ p1 (ds.map V.str)) (fun i τ H2 ys=>(∃ v,τ=[v])/\Same H1 H2/\H2 D1=some (.lst ys)/\DVs (woF (Nw H1 D1) H2) ys ((ds.take i).map stateT)) (by rw [List.length_map];exact le_line (by omega)) ⟨⟨none,rfl⟩,Same.upd hD1,upd_same,.nil⟩ ?_ ?_ ?_
  ·rintro i τ H2 ys hi ⟨_,s2,h2',dg⟩
   refine ⟨SqL.of (s2 _ _ k1),h2',?_⟩
   rw [dg.length,List.length_map,List.length_take];omega
  ·rintro i x τ H2 ys hi hx ⟨⟨v,rfl⟩,s2,k2,dg⟩
   have hi':i < ds.length:=by simpa using hi
   rw [List.getElem?_map,List.getElem?_eq_getElem hi'] at hx
   have ex:x = .str ds[i]:=(Option.some.inj hx).symm
   subst ex
   refine ⟨dz _ (List.getElem_mem hi'),fun v G H3 s3 sG gn dv=>?_⟩
   refine ⟨s3 _ _ k2,⟨_,rfl⟩,(s2.trans s3).own hD1,upd_same,?_⟩
   rw [List.take_add_one,List.getElem?_eq_getElem hi',List.map_append]
   exact (dg.mono (woF_sub s3 (.inl rfl))).app (.cons (nw_dv s2 ⟨_,k2⟩ sG gn dv) .nil)
  rintro τ H2 ys ⟨_,s2,k2,dg⟩
  rw [List.length_map,List.take_length] at dg
  have dg2:=dg.mono (woF_same _ _)
  have s02:=u1.trans s2
  refine ⟨_,s02 _ _ hp,fun p2 hp2=>?_⟩
  have ec2:cutV (ps.map V.str) none (some 2)=(ps.take 2).map V.str:=by rw [List.map_take];exact cut_le _ 2
  rw [ec2]
  have u3:=Same.upd (o:=.lst ((ps.take 2).map V.str)) hp2
  have k3:upd H2 p2 (.lst ((ps.take 2).map V.str)) p2=some (.lst ((ps.take 2).map V.str)):=upd_same
  generalize upd H2 p2 (.lst ((ps.take 2).map V.str))=H3 at u3 k3 ⊢
  have tz:∀ z∈ps.take 2,z.length<=900:=fun z hz=>pz z (List.mem_of_mem_take hz)
  have tl:(ps.take 2).length<=2:=by rw [List.length_take];exact Nat.min_le_left _ _
  generalize ps.take 2=ts at *
  refine ⟨⟨_,SqL.of k3⟩,fun D2 hD2=>?_⟩
  refine comp_by (it_list _ p2 (ts.map V.str)) (fun i τ H4 ys=>(∃ v,τ=[v])/\H4=upd H3 D2 (.lst ys)/\ys=((ts.take i).map fun p=>numZ p).map V.int) (by rw [List.length_map];exact le_line (by omega)) ⟨⟨none,rfl⟩,rfl,rfl⟩ ?_ ?_ ?_
  ·rintro i τ H4 ys2 hi ⟨_,rfl,rfl⟩
   refine ⟨SqL.of (Same.upd hD2 _ _ k3),upd_same,?_⟩
   rw [List.length_map,List.length_map,List.length_take];omega
  ·rintro i x τ H4 ys2 hi hx ⟨⟨v,rfl⟩,rfl,rfl⟩
   have hi':i < ts.length:=by simpa using hi
   rw [List.getElem?_map,List.getElem?_eq_getElem hi'] at hx
   have ex:x = .str ts[i]:=(Option.some.inj hx).symm
   subst ex
   refine ⟨by have:=tz _ (List.getElem_mem hi');omega,upd_same,⟨_,rfl⟩,upd_upd,?_⟩
   rw [List.take_add_one,List.getElem?_eq_getElem hi',List.map_append,List.map_append]
   rfl
  rintro τ H4 ys2 ⟨_,rfl,rfl⟩
  rw [List.length_map,List.take_length]
  have u4:=Same.upd (o:=.lst ((ts.map fun p=>numZ p).map V.int)) hD2
  have k4:upd H3 D2 (.lst ((ts.map fun p=>numZ p).map V.int)) D2=some (.lst ((ts.map fun p=>numZ p).map V.int)):=upd_same
  generalize upd H3 D2 (.lst ((ts.map fun p=>numZ p).map V.int))=H4 at u4 k4 ⊢
  refine ⟨le_line (Nat.le_of_ble_eq_true rfl),fun p5 hp5=>?_⟩
  have u5:=Same.upd (o:=.lst [.ref D1]) hp5
  refine ⟨_,_,u5 _ _ k4,upd_same,le_line (by rw [List.length_map,List.length_map];show _+1<=1000;omega),fun p6 hp6=>?_⟩
  have u6:=Same.upd (o:=.lst ((ts.map fun p=>numZ p).map V.int++[.ref D1])) hp6
  refine ⟨_,upd_same,fun p7 hp7=>?_⟩
  have u7:=Same.upd (o:=.tup ((ts.map fun p=>numZ p).map V.int++[.ref D1])) hp7
  have uu:=(((u3.trans u4).trans u5).trans u6).trans u7
  refine q (.ref p7) _ (s02.trans uu) (.tup upd_same ?_)
  have di:∀ (l:List Int) (H:Hp),DVs H (l.map V.int) (l.map PyData.int):=fun l H=>by
   induction l with
   | nil=>exact .nil
   | cons x l ih=>exact .cons (.int x) ih
  have e:ts.map (fun p=>PyData.int (numZ p))=(ts.map fun p=>numZ p).map PyData.int:=by rw [List.map_map];rfl
  rw [e]
  exact (di _ _).app (.cons (.lst (uu _ _ k2) (dg2.mono uu)) .nil)
 ·exact h.elim
end
end K62
end
section
namespace K62
open PySem L2
section
variable {P:Program} {w:World} {K:PySem.W.Frag} {mg:Str->Option Value} {base:Heap}
def Cl (K:PySem.W.Frag) (mg:Str->Option Value) (C:Addr) (x:Str) (b:Bool):Prop:=∃ D,mg x=some (.ref D)/\PySem.W.kitOne K (.ref C) (.ref D)=some b
theorem Cl.at {K:PySem.W.Frag} {mg:Str->Option Value} {C D:Addr} {x:Str} {b:Bool} (h:Cl K mg C x b) (hm:mg x=some (.ref D)):PySem.W.kitOne K (.ref C) (.ref D)=some b:=by
 obtain ⟨D',h1,h2⟩:=h
 rw [hm] at h1
 cases h1
 exact h2
structure KindsOf (K:PySem.W.Frag) (mg:Str->Option Value) (C:Addr) (m:Nat):Prop where
 z:PySem.W.ExCls K C
 k0:Cl K mg C "NoLetter" (decide (0=m))
 k1:Cl K mg C "NoCode" (decide (1=m))
 k2:Cl K mg C "NoWindow" (decide (2=m))
 k3:Cl K mg C "NoMark" (decide (3=m))
 k4:Cl K mg C "NoText" (decide (4=m))
 k5:Cl K mg C "NoName" (decide (5=m))
 k6:Cl K mg C "NoRow" (decide (6=m))
 k7:Cl K mg C "NoWire" (decide (7=m))
 k8:PySem.W.kitOne K (.ref C) (.type "ValueError")=some true
end
end K62
end
section
namespace K62
open PySem L2
section
variable {X:Cx} {p pos:Pos} {e:Expr} {es:List Expr} {t:TA}
theorem fn_isYK {mg':Str->Option Value} {K':PySem.W.Frag} {C:Addr} (hz:PySem.W.ExCls K' C) (hm:mg' "isinstance" = none) (hX:X.mg=mg') (hK:X.K=K') (ha:PA X (e :: es) t) (hg:gB X "isinstance" = true:=by kernel_rfl) (he:starEach (e :: es) X.env=(false,eval e X.env) :: starEach es X.env:=by kernel_rfl) (hpl:(backTo pos (starEach es X.env)).any (·.1)=false:=by kernel_rfl) :
  PE X (.Call (.Name "isinstance" p) (e :: es) [] pos) (tCB (rIsY K') t):=by subst hK;exact fn_isY hm hX ha hg he hpl
end
section
variable {P:Program} {w:World} {K:PySem.W.Frag} {mg:Str->Option Value} {base:Heap}
abbrev sReadCode:Stmt:=top 20
def spRC (C0:Addr):Sp:=fun vs H Q E=>match vs with
 | [.str z]=>z.length<=900/\(Om.codeOk (codeT (spB z))=false->∀ H',Same H H'->E (.ref C0) none H')/\(Om.codeOk (codeT (spB z))=true->∀ v H',Same H H'->DV H' v (codeT (spB z))->Q v H')
 | [x]=>∃ T,tyN H x=some T/\T≠"str"/\E (.ref C0) none H
 | _=>False
theorem scReadCode:FnScope ["text","code"] ["text"] (defScope sReadCode):=⟨rfl,rfl,rfl,by decide +kernel,rfl,by decide +kernel,by decide +kernel⟩
local macro_rules | `(tactic| walk_at "T.m")=>`(tactic| ((with_reducible refine' m_split ?a1 ?a2);(case a1=>walk_at "T.e");(case a2=>walk_at "T.a")))
local macro_rules | `(tactic| walk_at "T.st")=>`(tactic| ((with_reducible refine' s_raiseP ?a0 ?a3 ?a6);(case a0=>with_reducible assumption);(case a3=>with_reducible assumption);(case a6=>walk_at "T.a")))
theorem ok_readCode {C0:Addr} (D:FnX K mg "read_code" sReadCode ["text"]) (g1:mg "isinstance" = none) (g2:mg "str" = none) (c1:Can P w K mg base "code_of" 4 ["parts"] spCodeOf) (c2:Can P w K mg base "is_code" 5 ["thing"] spCodeD) (Z0:ExnOk K C0) (m0:mg "NoText" = some (.ref C0)):CanY P w K mg base "read_code" 6 ["text"] (spRC C0):=by
 refine canY_fn (k:=5) D scReadCode (fun vs H Q E h=>?_) (fun f cdv A outer s H vs Q E hr h=>?_)
 all_goals
  unfold spRC at h
  split at h
 ·rfl
 ·rfl
 ·exact h.elim
 ·rename_i z
  obtain ⟨hz,qe,q⟩:=h
  have nd:=scReadCode.nd
  obtain ⟨h1,h2,h3⟩:=spB_len z
  refine ⟨_,(by walk_at "T.top"),?_⟩
  refine ⟨"str",rfl,by decide,iteF ?_⟩
  refine ⟨rfl,by decide +kernel,le_line (by omega),fun p1 hp1=>?_⟩
  rw [show Txt.split z (" " : Str)=spB z from rfl]
  have u1:=Same.upd (o:=.lst ((spB z).map V.str)) hp1
  refine ⟨spB z,upd_same,by omega,fun p hp=>by have:=h2 p hp;omega,fun v H1 s1 dv=>?_⟩
  dsimp only [gName]
  refine ⟨_,dv,codeT_small hz,fun H2 s2=>?_⟩
  have ss:=(u1.trans s1).trans s2
  cases e:Om.codeOk (codeT (spB z)) with
  | false=>exact iteP rfl ⟨by decide,qe e _ ss⟩
  | true=>exact iteF (q e v _ ss (dv.mono s2))
 ·rename_i x _
  obtain ⟨T,ht,hne,q⟩:=h
  have nd:=scReadCode.nd
  refine ⟨_,(by walk_at "T.top"),?_⟩
  refine ⟨T,ht,by decide,?_⟩
  have e:(T == "str" || (T == "bool" && "str" == "int"))=false:=by
   have h1:(T == "str")=false:=beq_false_of_ne hne
   have h2:(("str" : String) == "int")=false:=by decide
   rw [h1,h2,Bool.and_false];rfl
  rw [e]
  exact iteP (by decide) ⟨by decide,q⟩
 ·exact h.elim
abbrev sRefd:Stmt:=top 42
def spRefd:Sp:=fun vs H Q _=>match vs with
 | [.str z]=>z.length<=900/\∀ H',Same H H'->Q (.bl (!Om.codeOk (codeT (spB z)))) H'
 | [x]=>∃ T,tyN H x=some T/\T≠"str"/\∀ H',Same H H'->Q (.bl true) H'
 | _=>False
theorem scRefd:FnScope ["thing","good","e"] ["thing"] (defScope sRefd):=⟨rfl,rfl,rfl,by decide +kernel,rfl,by decide +kernel,by decide +kernel⟩
local macro_rules | `(tactic| walk_at "T.b")=>`(tactic| first | ((with_reducible refine' fn_isYK ?az ?a0 ?a9 ?a8 ?a1);(case az=>with_reducible assumption);(case a0=>with_reducible assumption);(case a9=>rfl);(case a8=>rfl);(case a1=>walk_at "T.a")) | fail "no")
local macro_rules | `(tactic| walk_at "T.e")=>`(tactic| first | ((with_reducible refine' e_clsX "NoLetter" ?a0 ?a9);(case a0=>with_reducible assumption);(case a9=>rfl)) | ((with_reducible refine' e_clsX "NoCode" ?a0 ?a9);(case a0=>with_reducible assumption);(case a9=>rfl)) | ((with_reducible refine' e_clsX "NoWindow" ?a0 ?a9);(case a0=>with_reducible assumption);(case a9=>rfl)) | ((with_reducible refine' e_clsX "NoMark" ?a0 ?a9);(case a0=>with_reducible assumption);(case a9=>rfl)) | ((with_reducible refine' e_clsX "NoText" ?a0 ?a9);(case a0=>with_reducible assumption);(case a9=>rfl)) | ((with_reducible refine' e_clsX "NoName" ?a0 ?a9);(case a0=>with_reducible assumption);(case a9=>rfl)) | ((with_reducible refine' e_clsX "NoRow" ?a0 ?a9);(case a0=>with_reducible assumption);(case a9=>rfl)) | ((with_reducible refine' e_clsX "NoWire" ?a0 ?a9);(case a0=>with_reducible assumption);(case a9=>rfl)) | ((with_reducible refine' e_tyVE ?a0 ?a9);(case a0=>with_reducible assumption);(case a9=>rfl)))
local macro_rules | `(tactic| walk_at "T.pb")=>`(tactic| ((with_reducible refine' pb_callY "read_code" ?c0 ?c9 ?c1 ?c2);(case c0=>with_reducible assumption);(case c9=>exact ⟨rfl,rfl,rfl,rfl,rfl⟩);(case c1=>exact Room.mono (by assumption) (by first | decide | exact Nat.le_refl _));(case c2=>walk_at "T.a")))
local macro_rules | `(tactic| walk_at "T.st")=>`(tactic| ((with_reducible refine' s_try2 "BeatError" "e" 2 ?b0 ?b9 ?b1 ?b2 (fun a=>?b3));(case b0=>with_reducible assumption);(case b9=>rfl);(case b1=>with_unfolding_all assumption);(case b2=>walk_at "T.pb");(case b3=>walk_at "T.s")))
theorem ok_refd {C0 B:Addr} (D:FnX K mg "_law_refused" sRefd ["thing"]) (g1:mg "isinstance" = none) (g3:mg "ValueError" = none) (hB:mg "BeatError" = some (.ref B)) (hx:PySem.W.exmOne K (.ref C0) (.ref B)=some true) (K0:KindsOf K mg C0 4)
  (c1:CanY P w K mg base "read_code" 6 ["text"] (spRC C0)):Can P w K mg base "_law_refused" 7 ["thing"] spRefd:=by
 obtain ⟨D0,m0,_⟩:=K0.k0
 obtain ⟨D1,m1,_⟩:=K0.k1
 obtain ⟨D2,m2,_⟩:=K0.k2
 obtain ⟨D3,m3,_⟩:=K0.k3
 obtain ⟨D4,m4,_⟩:=K0.k4
 obtain ⟨D5,m5,_⟩:=K0.k5
 obtain ⟨D6,m6,_⟩:=K0.k6
 obtain ⟨D7,m7,_⟩:=K0.k7
 have kz:=K0.z
 have ka:PySem.W.kitAny K (.ref C0) ([D1,D0,D3,D5,D6,D2,D7].map Value.ref)=some false:=by
  simp only [List.map_cons,List.map_nil,PySem.W.kitAny,K0.k1.at m1,K0.k0.at m0,K0.k3.at m3,K0.k5.at m5,K0.k6.at m6,K0.k2.at m2,K0.k7.at m7]
  rfl
 refine can_fn (k:=6) D scRefd (fun vs H Q E h=>?_) (fun f cdv A outer s H vs Q E hr h=>?_)
 all_goals
  unfold spRefd at h
  split at h
 ·rfl
 ·rfl
 ·exact h.elim
 ·rename_i z
  obtain ⟨hz,q⟩:=h
  have nd:=scRefd.nd
  refine ⟨_,(by walk_at "T.top"),?_⟩
  refine ⟨hz,fun e H1 s1=>⟨hx,fun x nx=>?_⟩,fun e v H1 s1 _=>?_⟩
  ·have w2:=Same.upd (o:=ExcD x (.ref C0) none) nx
   have hxx:upd H1 x (ExcD x (.ref C0) none) x=some (ExcD x (.ref C0) none):=upd_same
   generalize upd H1 x (ExcD x (.ref C0) none)=H2 at *
   refine ⟨C0,_,true,K0.z,hxx,K0.k8,?_⟩
   refine iteP rfl ?_
   refine ⟨C0,_,true,K0.z,hxx,.inl (K0.k4.at m4),?_⟩
   refine ⟨le_line (Nat.le_of_ble_eq_true rfl),fun t ht=>?_⟩
   have s3:=Same.upd (o:=.tup [.ref D1,.ref D0,.ref D3,.ref D5,.ref D6,.ref D2,.ref D7]) ht
   refine ⟨C0,_,false,K0.z,s3 _ _ hxx,.inr ⟨[D1,D0,D3,D5,D6,D2,D7],upd_same,ka⟩,?_⟩
   refine iteF ?_
   have:=q _ ((s1.trans w2).trans s3)
   rw [e] at this
   exact this
  ·have:=q _ s1
   rw [e] at this
   exact this
 ·rename_i x _
  obtain ⟨T,ht,hne,q⟩:=h
  have nd:=scRefd.nd
  refine ⟨_,(by walk_at "T.top"),?_⟩
  cases x with
  | str z=>exact absurd (Option.some.inj ht) (fun z=>hne z.symm)
  | _=>
   refine ⟨T,ht,hne,hx,fun x nx=>?_⟩
   have w2:=Same.upd (o:=ExcD x (.ref C0) none) nx
   have hxx:upd H x (ExcD x (.ref C0) none) x=some (ExcD x (.ref C0) none):=upd_same
   generalize upd H x (ExcD x (.ref C0) none)=H2 at *
   refine ⟨C0,_,true,K0.z,hxx,K0.k8,?_⟩
   refine iteP rfl ?_
   refine ⟨C0,_,true,K0.z,hxx,.inl (K0.k4.at m4),?_⟩
   refine ⟨le_line (Nat.le_of_ble_eq_true rfl),fun t ht=>?_⟩
   have s3:=Same.upd (o:=.tup [.ref D1,.ref D0,.ref D3,.ref D5,.ref D6,.ref D2,.ref D7]) ht
   refine ⟨C0,_,false,K0.z,s3 _ _ hxx,.inr ⟨[D1,D0,D3,D5,D6,D2,D7],upd_same,ka⟩,?_⟩
   refine iteF ?_
   exact q _ (w2.trans s3)
 ·exact h.elim
end
end K62
end
section
namespace K62
open PySem L2
section
variable {P:Program} {w:World} {K:PySem.W.Frag} {mg:Str->Option Value} {base:Heap}
theorem rowT_two {z a b:Str} (h:spG z=[a,b]):rowT z = .tuple [.str a,.int (numZ b)]/\rowV z=[.str a,.int (numZ b)]:=by
 unfold rowT rowV
 rw [h]
 exact ⟨rfl,rfl⟩
theorem rowOk_not {z:Str} {n c:Int} (h:(spG z).length≠2):Om.rowOk (rowT z) n c=false:=by
 have e0:=last_split (spG_len z).1
 have el:((spG z).dropLast.map PyData.str++[PyData.int (numZ ((spG z).getLast?.getD ("" : Str)))]).length=(spG z).length:=by
  rw [List.length_append,List.length_map]
  have:=congrArg List.length e0
  rw [List.length_append] at this
  simpa using this.symm
 unfold rowT
 generalize (spG z).dropLast.map PyData.str++[PyData.int (numZ ((spG z).getLast?.getD ("" : Str)))]=ds at el
 match ds,el with
 | [],_=>rfl
 | [_],_=>rfl
 | [_,_],el=>exact absurd el.symm h
 | _ :: _ :: _ :: _,_=>rfl
theorem repl_le (a:Str):(Txt.replace a ("0" : Str) ("" : Str)).length<=a.length:=by
 have e0:("0" : Str)=⟨#[48]⟩:=by decide +kernel
 have e2:("" : Str)=⟨#[]⟩:=by decide +kernel
 rw [e0,e2]
 have h:=congrArg List.length (PyProof.Rows.replace_strikes a 48)
 have h2:=List.length_filter_le (· != 48) a.cps.toList
 rw [<-h,Array.length_toList,Array.length_toList] at h2
 exact h2
theorem len_two {α:Type} {l:List α} (h:l.length=2):∃ a b,l=[a,b]:=by
 match l,h with
 | [a,b],_=>exact ⟨a,b,rfl⟩
abbrev sBR:Stmt:=top 36
def spBR:Sp:=fun vs H Q _=>match vs with
 | [.str z,.int n,.int many]=>z.length<=900/\1<=many/\many<=8/\(Om.rowOk (rowT z) n many=false->∀ H',Same H H'->Q .non H')/\(Om.rowOk (rowT z) n many=true->∀ l H',Same H H'->H l=none->H' l=some (.tup (rowV z))->Q (.ref l) H')
 | _=>False
theorem scBR:FnScope ["branch","n","many","parts"] ["branch","n","many"] (defScope sBR):=⟨rfl,rfl,rfl,by decide +kernel,rfl,by decide +kernel,by decide +kernel⟩
local macro_rules | `(tactic| walk_at "T.m")=>`(tactic| first | ((with_reducible refine' m_split ?a1 ?a2);(case a1=>walk_at "T.e");(case a2=>walk_at "T.a")) | ((with_reducible refine' PEt.pe (m_replT (m_replT (ixt ?a1))));(case a1=>walk_at "T.e")))
local macro_rules | `(tactic| walk_at "T.cmp")=>`(tactic| (with_reducible exact op_notInS))
local macro_rules | `(tactic| walk_at "T.b")=>`(tactic| ((with_reducible refine' fn_intF ?a0 ?a9 ?a1);(case a0=>with_reducible assumption);(case a9=>rfl);(case a1=>walk_at "T.a")))
theorem ok_br (D:FnX K mg "_law_branch_read" sBR ["branch","n","many"]) (g1:mg "len" = none) (g2:mg "int" = none):Can P w K mg base "_law_branch_read" 1 ["branch","n","many"] spBR:=by
 refine can_fn (k:=0) D scBR (fun vs H Q E h=>?_) (fun f cdv A outer s H vs Q E hr h=>?_)
 all_goals
  unfold spBR at h
  split at h
 ·rfl
 ·exact h.elim
 ·rename_i z n many
  obtain ⟨hz,m1,m8,qn,q⟩:=h
  have nd:=scBR.nd
  obtain ⟨h1,h2,h3⟩:=spG_len z
  refine ⟨_,(by walk_at "T.top"),?_⟩
  refine ⟨rfl,by decide +kernel,le_line (by omega),fun p1 hp1=>?_⟩
  rw [show Txt.split z (">" : Str)=spG z from rfl]
  have u1:=Same.upd (o:=.lst ((spG z).map V.str)) hp1
  have k1:upd H p1 (.lst ((spG z).map V.str)) p1=some (.lst ((spG z).map V.str)):=upd_same
  generalize upd H p1 (.lst ((spG z).map V.str))=H1 at u1 k1 ⊢
  dsimp only [gName]
  refine ⟨_,lenL k1,?_⟩
  rw [List.length_map]
  by_cases l2:(spG z).length=2
  rotate_left
  ·refine iteP (by simp;omega) (iteT (qn (rowOk_not l2) _ u1))
  refine if_negP (by simp;omega) ?_
  obtain ⟨a,b,hab⟩:=len_two l2
  obtain ⟨er,ev⟩:=rowT_two hab
  have za:a.length<=z.length:=h2 a (by rw [hab];simp)
  have zb:b.length<=z.length:=h2 b (by rw [hab];simp)
  rw [er] at qn q
  rw [ev] at q
  rw [hab] at k1
  have k1:H1 p1=some (.lst [.str a,.str b]):=k1
  have hw:Om.rowOk (.tuple [.str a,.int (numZ b)]) n many=((decide ((a.length:Int)=n) && decide (Txt.stripChars a ("01" : Str)=("" : Str))) && (decide (0<=numZ b) && decide (numZ b<=many - 1))):=rfl
  rw [hw] at qn q
  refine ⟨_,gl k1 (by decide) rfl,_,lenStr (le_line (by omega)),?_⟩
  by_cases an:(a.length:Int)=n
  rotate_left
  ·refine iteP (by simp [an]) (iteT (qn (by rw [decide_eq_false an];rfl) _ u1))
  refine if_negP (by simp [an]) ?_
  refine ⟨by decide,_,_,k1,rfl,a,rfl,?_,_,rfl,?_,?_⟩
  ·have:(("" : Str)).length=0:=by decide +kernel
   rw [this];omega
  ·have e0:(("" : Str)).length=0:=by decide +kernel
   have:=repl_le a
   rw [e0];omega
  by_cases aw:Txt.replace (Txt.replace a ("0" : Str) ("" : Str)) ("1" : Str) ("" : Str)=("" : Str)
  rotate_left
  ·refine iteP (by simp [aw]) (qn ?_ _ u1)
   rw [strip_str,decide_eq_false aw,Bool.and_false];rfl
  refine if_negP (by simp [aw]) ?_
  have ew:(decide ((a.length:Int)=n) && decide (Txt.stripChars a ("01" : Str)=("" : Str)))=true:=by rw [strip_str,decide_eq_true an,decide_eq_true aw];rfl
  rw [ew,Bool.true_and] at qn q
  dsimp only [tNext]
  refine ⟨_,gl k1 (by decide) rfl,_,lenStr (le_line (by omega)),?_⟩
  by_cases bl:b.length=1
  rotate_left
  ·have nb:numZ b = -1:=by unfold numZ;rw [if_neg bl]
   refine iteP (by simp;omega) (iteT (qn (by rw [nb];rfl) _ u1))
  refine if_negP (by simp;omega) ?_
  refine ⟨_,gl k1 (by decide) rfl,?_⟩
  show (if (!(!(Builtin.Str.occurrences ("01234567" : Str) b 0 ("01234567" : Str).length 1).isEmpty))=true then _ else _)
  rw [in_oct bl]
  by_cases b7:0<=numZ b/\numZ b<=7
  rotate_left
  ·refine iteP (by rw [decide_eq_false b7];rfl) (iteT (qn ?_ _ u1))
   rw [<-Bool.not_eq_true,Bool.and_eq_true,decide_eq_true_eq,decide_eq_true_eq]
   omega
  refine if_negP (by rw [decide_eq_true b7];decide) ?_
  obtain ⟨d,hd,e1,e2⟩ : ∃ d:Nat,d < 10/\b=strI (d:Int)/\numZ b=(d:Int):=by
   rcases numZ_iff b with h | ⟨_,h⟩
   ·exact h
   ·omega
  refine ⟨_,gl k1 (by decide) rfl,d,hd,e1,?_⟩
  rw [e2] at qn q b7
  by_cases dm:many<=(d:Int)
  ·refine iteP (decide_eq_true dm) (qn ?_ _ u1)
   rw [<-Bool.not_eq_true,Bool.and_eq_true,decide_eq_true_eq,decide_eq_true_eq]
   omega
  refine if_negP (by simp;omega) ?_
  have q:=q (by rw [decide_eq_true b7.1,decide_eq_true (by omega)];rfl)
  dsimp only [tNext]
  refine ⟨_,gl k1 (by decide) rfl,_,gl k1 (by decide) rfl,d,hd,e1,le_line (Nat.le_of_ble_eq_true rfl),fun l hl=>?_⟩
  exact q l _ (u1.trans (Same.upd hl)) (u1.free hl) upd_same
 ·exact h.elim
end
end K62
end
section
namespace K62
open PySem L2
section
variable {P:Program} {w:World} {K:PySem.W.Frag} {mg:Str->Option Value} {base:Heap}
theorem figs_at:(("1" : Str)=strI (1:Nat)/\("2" : Str)=strI (2:Nat))/\(("3" : Str)=strI (3:Nat)/\("4" : Str)=strI (4:Nat))/\(("5" : Str)=strI (5:Nat)/\("6" : Str)=strI (6:Nat)):=by decide +kernel
theorem in_three (z:Str):decide (z∈(["1","2","3"]:List Str))=decide (1<=numZ z/\numZ z<=3):=by
 obtain ⟨⟨e1,e2⟩,⟨e3,_⟩,_⟩:=figs_at
 refine decide_eq_decide.mpr ?_
 rw [e1,e2,e3]
 simp only [List.mem_cons,List.not_mem_nil,or_false]
 rw [<-numZ_eq (z:=z) (d:=1) (by decide),<-numZ_eq (z:=z) (d:=2) (by decide),<-numZ_eq (z:=z) (d:=3) (by decide)]
 omega
theorem six_signs:(("123456" : Str).cps.toList.map fun c=>V.str ⟨#[c]⟩)=(["1","2","3","4","5","6"]:List Str).map V.str:=by decide +kernel
theorem in_six (z:Str):decide (z∈(["1","2","3","4","5","6"]:List Str))=decide (1<=numZ z/\numZ z<=6):=by
 obtain ⟨⟨e1,e2⟩,⟨e3,e4⟩,⟨e5,e6⟩⟩:=figs_at
 refine decide_eq_decide.mpr ?_
 rw [e1,e2,e3,e4,e5,e6]
 simp only [List.mem_cons,List.not_mem_nil,or_false]
 rw [<-numZ_eq (z:=z) (d:=1) (by decide),<-numZ_eq (z:=z) (d:=2) (by decide),<-numZ_eq (z:=z) (d:=3) (by decide),<-numZ_eq (z:=z) (d:=4) (by decide),<-numZ_eq (z:=z) (d:=5) (by decide),<-numZ_eq (z:=z) (d:=6) (by decide)]
 omega
theorem num_nat {z:Str} (h:0<=numZ z):∃ d:Nat,d < 10/\z=strI (d:Int)/\numZ z=(d:Int):=by
 rcases numZ_iff z with h' | ⟨_,h'⟩
 ·exact h'
 ·omega
theorem codeOk_few {ps:List Str} (h:ps.length < 3\/10 < ps.length):Om.codeOk (codeT ps)=false:=by
 unfold codeT
 match ps,h with
 | [],_=>rfl
 | [_],_=>rfl
 | [p,q],_=>simp [Om.codeOk]
 | p :: q :: r :: ds,h=>
  have:¬ (r :: ds).length<=8:=by simp at h ⊢;omega
  show (_ && (_ && (decide (1<=((r :: ds).map stateT).length/\((r :: ds).map stateT).length<=8) && _)))=false
  rw [List.length_map,decide_eq_false (fun z=>this z.2)]
  simp
theorem codeOk_at {p q:Str} {ds:List Str} (h1:1<=ds.length) (h8:ds.length<=8):Om.codeOk (codeT (p :: q :: ds))=(decide (1<=numZ p/\numZ p<=3) && (decide (1<=numZ q/\numZ q<=6) && (ds.all fun s=>Om.stateOk (stateT s) (numZ p).toNat (numZ q) (ds.length:Nat)))):=by
 show ((decide (1<=numZ p) && decide (numZ p<=3)) && ((decide (1<=numZ q) && decide (numZ q<=6)) && (decide (1<=(ds.map stateT).length/\(ds.map stateT).length<=8) && (ds.map stateT).all fun s=>Om.stateOk s (numZ p).toNat (numZ q) ((ds.map stateT).length:Nat))))=_
 rw [List.length_map,decide_eq_true (show 1<=ds.length/\ds.length<=8 from ⟨h1,h8⟩),Bool.true_and,List.all_map]
 have e1:∀ a b:Int,∀ x:Int,(decide (a<=x) && decide (x<=b))=decide (a<=x/\x<=b):=fun a b x=>by
  rw [Bool.eq_iff_iff,Bool.and_eq_true,decide_eq_true_eq,decide_eq_true_eq,decide_eq_true_eq]
 rw [e1,e1]
 rfl
theorem op_notInTQ {X:Cx}:OpR X (compareOp .NotIn) (fun x y H Q=>rNotInT x y H Q\/rNotInQ x y H Q):=op_notInT.or op_notInQ
def RowsV (H:Hp) (ys:List V) (bs:List Str) (n c:Int):Prop:=ys.length=bs.length/\∀ (i:Nat) b,bs[i]? = some b->∃ v,ys[i]? = some v/\((Om.rowOk (rowT b) n c=false/\v = .non)\/(Om.rowOk (rowT b) n c=true/\∃ l,v = .ref l/\H l=some (.tup (rowV b))))
theorem RowsV.keep {H H':Hp} {ys:List V} {bs:List Str} {n c:Int} (h:RowsV H ys bs n c) (k:∀ b zs,H b=some (.tup zs)->H' b=some (.tup zs)):RowsV H' ys bs n c:=⟨h.1,fun i b e=>let ⟨v,e1,e2⟩:=h.2 i b e;⟨v,e1,e2.imp id fun ⟨o,l,e3,e4⟩=>⟨o,l,e3,k _ _ e4⟩⟩⟩
theorem RowsV.snoc {H:Hp} {ys:List V} {bs:List Str} {n c:Int} {v:V} {b:Str} (h:RowsV H ys bs n c) (e:(Om.rowOk (rowT b) n c=false/\v = .non)\/(Om.rowOk (rowT b) n c=true/\∃ l,v = .ref l/\H l=some (.tup (rowV b)))):RowsV H (ys++[v]) (bs++[b]) n c:=by
 refine ⟨by simp [h.1],fun i b' e'=>?_⟩
 by_cases hi:i < bs.length
 ·rw [List.getElem?_append_left hi] at e'
  obtain ⟨v',e1,e2⟩:=h.2 i b' e'
  exact ⟨v',by rw [List.getElem?_append_left (by rw [h.1];exact hi)];exact e1,e2⟩
 ·rw [List.getElem?_append_right (by omega)] at e'
  have lt:=(List.getElem?_eq_some_iff.mp e').1
  have ei:i=bs.length:=by simp at lt;omega
  subst ei
  rw [Nat.sub_self] at e'
  cases e'
  exact ⟨v,by rw [List.getElem?_append_right (by rw [h.1];exact Nat.le_refl _),h.1,Nat.sub_self];rfl,e⟩
theorem RowsV.any {H:Hp} {ys:List V} {bs:List Str} {n c:Int} (h:RowsV H ys bs n c):(ys.any fun v=>decide (v = .non))=!(bs.all fun b=>Om.rowOk (rowT b) n c):=by
 rw [Bool.eq_iff_iff,List.any_eq_true,Bool.not_eq_true',<-Bool.not_eq_true,List.all_eq_true]
 constructor
 ·rintro ⟨v,hv,e⟩ al
  obtain ⟨i,hi⟩:=List.mem_iff_getElem?.mp hv
  have lt:=(List.getElem?_eq_some_iff.mp hi).1
  have lb:i < bs.length:=by rw [<-h.1];exact lt
  obtain ⟨v',e1,e2⟩:=h.2 i bs[i] (List.getElem?_eq_getElem lb)
  rw [hi] at e1
  cases e1
  rcases e2 with ⟨o,_⟩ | ⟨_,l,rfl,_⟩
  ·rw [al _ (List.getElem_mem lb)] at o;cases o
  ·simp at e
 ·intro no
  refine Classical.byContradiction fun z=>no fun b hb=>?_
  obtain ⟨i,hi⟩:=List.mem_iff_getElem?.mp hb
  obtain ⟨v,e1,e2⟩:=h.2 i b hi
  rcases e2 with ⟨o,rfl⟩ | ⟨o,_⟩
  ·exact absurd ⟨.non,List.mem_of_getElem? e1,by simp⟩ z
  ·exact o
theorem RowsV.kinds {H:Hp} {ys:List V} {bs:List Str} {n c:Int} (h:RowsV H ys bs n c):∀ v∈ys,v = .non\/∃ c zs,v = .ref c/\H c=some (.tup zs):=fun v hv=>by
 obtain ⟨i,hi⟩:=List.mem_iff_getElem?.mp hv
 have lt:=(List.getElem?_eq_some_iff.mp hi).1
 have lb:i < bs.length:=by rw [<-h.1];exact lt
 obtain ⟨v',e1,e2⟩:=h.2 i bs[i] (List.getElem?_eq_getElem lb)
 rw [hi] at e1
 cases e1
 rcases e2 with ⟨_,e⟩ | ⟨_,l,e,e'⟩
 ·exact .inl e
 ·exact .inr ⟨l,_,e,e'⟩
theorem RowsV.dvs {H:Hp} {ys:List V} {bs:List Str} {n c:Int} (h:RowsV H ys bs n c) (al:(bs.all fun b=>Om.rowOk (rowT b) n c)=true):DVs H ys (bs.map rowT):=by
 refine DVs.of_get (by rw [h.1,List.length_map]) fun i d e=>?_
 rw [List.getElem?_map] at e
 obtain ⟨b,hb,rfl⟩:=Option.map_eq_some_iff.mp e
 obtain ⟨v,e1,e2⟩:=h.2 i b hb
 rcases e2 with ⟨o,_⟩ | ⟨_,l,rfl,e3⟩
 ·rw [List.all_eq_true.mp al _ (List.mem_of_getElem? hb)] at o;cases o
 ·exact ⟨_,e1,rowT_dv e3⟩
theorem three_at {H:Hp} {p:Addr} {k:Nat} (k1:1<=k) (k3:k<=3) (h:H p=some (.lst [.int 2,.int 4,.int 8])):getV H (.ref p) ((k:Int) - 1)=some (.int ((2 ^ k:Nat):Int)):=by
 have:k=1\/k=2\/k=3:=by omega
 rcases this with rfl | rfl | rfl
 ·exact gl h (by decide) rfl
 ·exact gl h (by decide) rfl
 ·exact gl h (by decide) rfl
abbrev sLR:Stmt:=top 37
def spLR:Sp:=fun vs H Q _=>match vs with
 | [.str z]=>z.length<=900/\(Om.codeOk (codeT (spB z))=false->∀ H',Same H H'->Q .non H')/\(Om.codeOk (codeT (spB z))=true->∀ l H',Same H H'->DV H' (.ref l) (codeT (spB z))->Q (.ref l) H')
 | _=>False
theorem scLR:FnScope ["text","words","states","word","state"] ["text"] (defScope sLR):=⟨rfl,rfl,rfl,by decide +kernel,rfl,by decide +kernel,by decide +kernel⟩
local macro_rules | `(tactic| walk_at "T.sc")=>`(tactic| (have ndc:(["branch","words"]:List Str).Nodup:=(by decide +kernel));((with_reducible refine' s_comp "state" 4 ["branch","words"] [1] ?b1 ?b0 ?b2 (fun cl C s H fp=>?b3) (fun cl C s H fp=>?b4) (fun cl C s H fp=>?b5));(case b1=>exact ndc);(case b0=>assumption);(case b2=>walk_at "T.i");(case b3=>walk_at "T.g");(case b4=>walk_at "T.pf");(case b5=>walk_at "T.e")))
local macro_rules | `(tactic| walk_at "T.m")=>`(tactic| first | ((with_reducible refine' m_split ?a1 ?a2);(case a1=>walk_at "T.e");(case a2=>walk_at "T.a")) | ((with_reducible refine' m_append ?a1 ?a2);(case a1=>walk_at "T.e");(case a2=>walk_at "T.a")))
local macro_rules | `(tactic| walk_at "T.cmp")=>`(tactic| first | (with_reducible exact op_notInTQ) | ((with_reducible refine' op_inN ?a1);(case a1=>exact Room.units (by assumption))))
local macro_rules | `(tactic| walk_at "T.b")=>`(tactic| first | ((with_reducible refine' fn_intF ?a0 ?a9 ?a1);(case a0=>with_reducible assumption);(case a9=>rfl);(case a1=>walk_at "T.a")) | ((with_reducible refine' fn_listT ?a0 ?a9 ?a1);(case a0=>with_reducible assumption);(case a9=>rfl);(case a1=>walk_at "T.a")))
theorem ok_lr (D:FnX K mg "_law_read" sLR ["text"]) (g1:mg "len" = none) (g2:mg "int" = none) (g3:mg "list" = none) (c1:Can P w K mg base "_law_branch_read" 1 ["branch","n","many"] spBR):Can P w K mg base "_law_read" 2 ["text"] spLR:=by
 refine can_fn (k:=1) D scLR (fun vs H Q E h=>?_) (fun f cdv A outer s H vs Q E hr h=>?_)
 all_goals
  unfold spLR at h
  split at h
 ·rfl
 ·exact h.elim
 ·rename_i z
  obtain ⟨hz,qn,q⟩:=h
  have nd:=scLR.nd
  obtain ⟨h1,h2,h3⟩:=spB_len z
  refine ⟨_,(by walk_at "T.top"),?_⟩
  refine ⟨rfl,by decide +kernel,le_line (by omega),fun p1 hp1=>?_⟩
  rw [show Txt.split z (" " : Str)=spB z from rfl]
  have u1:=Same.upd (o:=.lst ((spB z).map V.str)) hp1
  have k1:upd H p1 (.lst ((spB z).map V.str)) p1=some (.lst ((spB z).map V.str)):=upd_same
  generalize upd H p1 (.lst ((spB z).map V.str))=H1 at u1 k1 ⊢
  dsimp only [gName]
  generalize spB z=ps at *
  refine ⟨_,lenL k1,?_⟩
  by_cases l3:ps.length < 3
  ·refine iteP (by simp;omega) (iteT (qn (codeOk_few (.inl l3)) _ u1))
  refine if_negP (by simp;omega) ?_
  refine ⟨_,lenL k1,?_⟩
  by_cases l10:10 < ps.length
  ·refine iteP (by simp;omega) (iteT (qn (codeOk_few (.inr l10)) _ u1))
  refine if_negP (by simp;omega) ?_
  obtain ⟨p,r,ds,rfl⟩ : ∃ p r ds,ps=p :: r :: ds:=by
   match ps,l3 with
   | p :: r :: ds,_=>exact ⟨p,r,ds,rfl⟩
   | [_],h=>simp at h
   | [],h=>simp at h
  have dl:1<=ds.length/\ds.length<=8:=by simp at l3 l10;omega
  rw [codeOk_at dl.1 dl.2] at qn q
  refine ⟨_,gl k1 (by decide) rfl,le_line (Nat.le_of_ble_eq_true rfl),fun p2 hp2=>?_⟩
  have u2:=Same.upd (o:=.tup [.str ("1" : Str),.str ("2" : Str),.str ("3" : Str)]) hp2
  refine .inr ⟨["1","2","3"],upd_same,?_⟩
  rw [in_three]
  have k2:=u2 _ _ k1
  generalize upd H1 p2 (.tup [.str ("1" : Str),.str ("2" : Str),.str ("3" : Str)])=H2 at u2 k2 ⊢
  by_cases b1:1<=numZ p/\numZ p<=3
  rotate_left
  ·refine iteP (by rw [decide_eq_false b1];rfl) (iteT (qn (by rw [decide_eq_false b1];rfl) _ (u1.trans u2)))
  refine if_negP (by rw [decide_eq_true b1];decide) ?_
  refine ⟨_,gl k2 (by decide) rfl,by decide +kernel,fun p3 hp3=>?_⟩
  rw [six_signs]
  have u3:=Same.upd (o:=.lst ((["1","2","3","4","5","6"]:List Str).map V.str)) hp3
  refine .inl ⟨["1","2","3","4","5","6"],upd_same,?_⟩
  rw [in_six]
  have k3:=u3 _ _ k2
  generalize upd H2 p3 (.lst ((["1","2","3","4","5","6"]:List Str).map V.str))=H3 at u3 k3 ⊢
  have s3:=(u1.trans u2).trans u3
  by_cases b2:1<=numZ r/\numZ r<=6
  rotate_left
  ·refine iteP (by rw [decide_eq_false b2];rfl) (qn (by rw [decide_eq_true b1,decide_eq_false b2];rfl) _ s3)
  refine if_negP (by rw [decide_eq_true b2];decide) ?_
  rw [decide_eq_true b1,decide_eq_true b2,Bool.true_and,Bool.true_and] at qn q
  obtain ⟨k,k10,ep,ek⟩:=num_nat (z:=p) (by omega)
  obtain ⟨n,n10,er,en⟩:=num_nat (z:=r) (by omega)
  rw [ek] at b1 qn q
  rw [en] at b2 qn q
  rw [Int.toNat_natCast] at qn q
  have k13:1<=k/\k<=3:=by omega
  have hsd:∀ d∈ds,d.length<=900:=fun d hd=>by have:=h2 d (by simp [hd]);omega
  clear h2 h3 u1 u2 u3 k1 k2 hp1 hp2 hp3 h1
  refine ⟨Nat.zero_le _,fun S hS=>?_⟩
  have u4:=Same.upd (o:=.lst []) hS
  have k4:upd H3 S (.lst []) S=some (.lst []):=upd_same
  generalize upd H3 S (.lst [])=H4 at u4 k4 ⊢
  have k34:=u4 _ _ k3
  refine ⟨_,k34,fun p5 hp5=>?_⟩
  have ec:cutV ((p :: r :: ds).map V.str) (some 2) none=ds.map V.str:=cut_ge _ 2
  rw [ec]
  have u5:=Same.upd (o:=.lst (ds.map V.str)) hp5
  have k5:upd H4 p5 (.lst (ds.map V.str)) p5=some (.lst (ds.map V.str)):=upd_same
  have k45:=u5 _ _ k4
  have n5:p5≠S:=fun z=>by rw [z,k4] at hp5;cases hp5
  generalize upd H4 p5 (.lst (ds.map V.str))=H5 at u5 k5 k45 ⊢
  have u35:=u4.trans u5
  refine ⟨⟨_,SqL.of k5⟩,for_by (it_list _ p5 (ds.map V.str)) (fun i σ H6=>∃ (v3 v4:Option V) (xs:List V),σ=[some (.str z),some (.ref p1),some (.ref S),v3,v4]/\Same H3 H6/\H6 p5=some (.lst (ds.map V.str))/\H6 S=some (.lst xs)/\DVs (woF (fun b=>b=S) H6) xs ((ds.take i).map stateT)/\∀ d∈ds.take i,Om.stateOk (stateT d) k (n:Nat) (ds.length:Nat)=true)
   ⟨none,none,[],rfl,u35,k5,k45,.nil,by simp⟩ (fun i σ H6 _ ⟨_,_,_,_,_,h,_⟩=>SqL.of h) ?_ ?_⟩
  ·rintro i x σ H6 hi hx ⟨v3,v4,xs,rfl,s6,k6,kS,dv6,al6⟩
   have hi':i < ds.length:=by simpa using hi
   rw [List.getElem?_map,List.getElem?_eq_getElem hi'] at hx
   have ex:x = .str ds[i]:=(Option.some.inj hx).symm
   subst ex
   have hd:=hsd _ (List.getElem_mem hi')
   have dm:=List.getElem_mem hi'
   have ti:ds.take (i+1)=ds.take i++[ds[i]]:=by rw [List.take_add_one,List.getElem?_eq_getElem hi'];rfl
   have xl:xs.length=i:=by rw [dv6.length,List.length_map,List.length_take];omega
   generalize ds[i]=d at *
   obtain ⟨c1',c2',c3'⟩:=spC_len d
   have kw:=s6 _ _ k3
   have es:Om.stateOk (stateT d) k (n:Nat) (ds.length:Nat)=(decide ((spC d).length=2 ^ k) && (spC d).all fun b=>Om.rowOk (rowT b) (n:Nat) (ds.length:Nat)):=by
    show (decide (((spC d).map rowT).length=2 ^ k) && ((spC d).map rowT).all fun r=>Om.rowOk r (n:Nat) (ds.length:Nat))=_
    rw [List.length_map,List.all_map]
    rfl
   refine ⟨rfl,by decide +kernel,le_line (by omega),fun p7 hp7=>?_⟩
   rw [show Txt.split d ("," : Str)=spC d from rfl]
   have u7:=Same.upd (o:=.lst ((spC d).map V.str)) hp7
   have k7:upd H6 p7 (.lst ((spC d).map V.str)) p7=some (.lst ((spC d).map V.str)):=upd_same
   generalize upd H6 p7 (.lst ((spC d).map V.str))=H7 at u7 k7 ⊢
   have kw7:=u7 _ _ kw
   refine ⟨⟨_,SqL.of k7⟩,fun D1 hD1=>?_⟩
   refine comp_by (it_list _ p7 ((spC d).map V.str)) (fun j τ H8 ys=>(∃ v,τ=[v,some (.ref p1)])/\Same H7 H8/\H8 D1=some (.lst ys)/\RowsV H8 ys ((spC d).take j) (n:Nat) (ds.length:Nat)) (by rw [List.length_map];exact le_line (by omega)) ⟨⟨none,rfl⟩,Same.upd hD1,upd_same,rfl,fun i b e=>by simp at e⟩ ?_ ?_ ?_
   ·rintro j τ H8 ys hj ⟨_,s8,k8,rv⟩
    exact ⟨SqL.of (s8 _ _ k7),k8,by rw [rv.1,List.length_take];exact Nat.min_le_left _ _⟩
   ·rintro j y τ H8 ys hj hy ⟨⟨v,rfl⟩,s8,k8,rv⟩
    have hj':j < (spC d).length:=by simpa using hj
    rw [List.getElem?_map,List.getElem?_eq_getElem hj'] at hy
    have ey:y = .str (spC d)[j]:=(Option.some.inj hy).symm
    subst ey
    have hb:=c2' _ (List.getElem_mem hj')
    have tj:(spC d).take (j+1)=(spC d).take j++[(spC d)[j]]:=by rw [List.take_add_one,List.getElem?_eq_getElem hj'];rfl
    generalize (spC d)[j]=b at *
    have kw8:=s8 _ _ kw7
    refine ⟨_,gl kw8 (by decide) rfl,n,n10,er,_,lenL kw8,?_⟩
    have el:((((p :: r :: ds).map V.str).length:Nat):Int) - 2=(ds.length:Nat):=by simp;omega
    dsimp only [tC,rN0,tNil]
    rw [el]
    refine ⟨by omega,by omega,by omega,fun o H9 s9=>?_,fun o l H9 s9 nl hl=>?_⟩
    ·refine ⟨s9 _ _ k8,⟨_,rfl⟩,(s8.trans s9).own hD1,upd_same,?_⟩
     rw [tj]
     refine RowsV.snoc (rv.keep fun b' zs e=>?_) (.inl ⟨o,rfl⟩)
     rw [upd_ne (ne_of e k8 (fun z=>nomatch z))]
     exact s9 _ _ e
    ·refine ⟨s9 _ _ k8,⟨_,rfl⟩,(s8.trans s9).own hD1,upd_same,?_⟩
     rw [tj]
     refine RowsV.snoc (rv.keep fun b' zs e=>?_) (.inr ⟨o,l,rfl,?_⟩)
     ·rw [upd_ne (ne_of e k8 (fun z=>nomatch z))]
      exact s9 _ _ e
     ·rw [upd_ne (fun z:l=D1=>by rw [z,k8] at nl;cases nl)]
      exact hl
   rintro τ H8 ys ⟨_,s8,k8,rv⟩
   rw [List.length_map,List.take_length] at rv
   have kw8:=s8 _ _ kw7
   have s68:=u7.trans s8
   refine ⟨_,lenL k8,le_line (Nat.le_of_ble_eq_true rfl),fun pl hpl=>?_⟩
   have u9:=Same.upd (o:=.lst [.int 2,.int 4,.int 8]) hpl
   have k9:upd H8 pl (.lst [.int 2,.int 4,.int 8]) pl=some (.lst [.int 2,.int 4,.int 8]):=upd_same
   generalize upd H8 pl (.lst [.int 2,.int 4,.int 8])=H9 at u9 k9 ⊢
   have s69:=s68.trans u9
   refine ⟨_,gl (u9 _ _ kw8) (by decide) rfl,k,k10,ep,_,three_at k13.1 k13.2 k9,?_⟩
   rw [rv.1]
   have k89:=u9 _ _ k8
   have rv9:=rv.keep fun b zs e=>u9 _ _ e
   by_cases cl:(spC d).length=2 ^ k
   rotate_left
   ·refine iteP (by simp;exact_mod_cast cl) (iteT (qn ?_ _ (s3.trans (s6.trans s69))))
    rw [<-Bool.not_eq_true,List.all_eq_true]
    intro al
    have:=al d dm
    rw [es,decide_eq_false cl] at this
    cases this
   refine if_negP (by simp;exact_mod_cast cl) ?_
   refine ⟨ys,k89,rv9.kinds,?_⟩
   rw [rv9.any]
   rw [decide_eq_true cl,Bool.true_and] at es
   cases ar:(spC d).all fun b=>Om.rowOk (rowT b) (n:Nat) (ds.length:Nat) with
   | false=>
    refine iteP rfl (qn ?_ _ (s3.trans (s6.trans s69)))
    rw [<-Bool.not_eq_true,List.all_eq_true]
    intro al
    have:=al d dm
    rw [es,ar] at this
    cases this
   | true=>
    refine if_negP (by decide) ?_
    refine ⟨⟨_,rfl,s69 _ _ kS⟩,_,s69 _ _ kS,lt_line (by omega),?_⟩
    have nD:D1≠S:=fun z=>by rw [z,u7 _ _ kS] at hD1;cases hD1
    refine ⟨_,_,xs++[.ref D1],rfl,(s6.trans s69).own hS,by rw [upd_ne n5];exact s69 _ _ k6,upd_same,?_,fun d' hd'=>?_⟩
    ·rw [ti,List.map_append]
     refine (dv6.mono (woF_sub (F:=fun b=>b=S) s69 rfl)).app (.cons (.lst (xs:=ys) ?_ (RowsV.dvs (rv9.keep fun b zs e=>?_) ar)) .nil)
     ·rw [woF_at (F:=fun b=>b=S) nD,upd_ne nD];exact k89
     ·have bS:b≠S:=ne_of e (s69 _ _ kS) (fun z=>nomatch z)
      rw [woF_at (F:=fun b=>b=S) bS,upd_ne bS];exact e
    ·rw [ti] at hd'
     rcases List.mem_append.mp hd' with z | z
     ·exact al6 d' z
     ·rw [List.mem_singleton.mp z,es,ar]
  ·rintro σ H6 ⟨v3,v4,xs,rfl,s6,k6,kS,dv6,al6⟩
   rw [List.length_map,List.take_length] at dv6 al6
   have kw:=s6 _ _ k3
   refine ⟨_,gl kw (by decide) rfl,k,k10,ep,_,gl kw (by decide) rfl,n,n10,er,le_line (Nat.le_of_ble_eq_true rfl),fun l hl=>?_⟩
   have u7:=Same.upd (o:=.tup [.int (k:Nat),.int (n:Nat),.ref S]) hl
   refine q (List.all_eq_true.mpr al6) l _ ((s3.trans s6).trans u7) ?_
   show DV _ _ (.tuple [.int (numZ p),.int (numZ r),.list (ds.map stateT)])
   rw [ek,en]
   exact .tup upd_same (.cons (.int _) (.cons (.int _) (.cons (.lst (u7 _ _ kS) ((dv6.mono (woF_same _ _)).mono u7)) .nil)))
 ·exact h.elim
end
end K62
end
section
namespace K62
open PySem L2
section
variable {P:Program} {w:World} {K:PySem.W.Frag} {mg:Str->Option Value} {base:Heap}
abbrev sCell:Stmt:=top 26
def spCell (K:PySem.W.Frag):Sp:=fun vs H Q _=>match vs with
 | [.ref a,.int k]=>∃ ns:List Int,SqL K H a (ns.map V.int)/\0<=k/\k<=1000/\∀ c,Q (.int c) H
 | _=>False
theorem scCell:FnScope ["script","k"] ["script","k"] (defScope sCell):=⟨rfl,rfl,rfl,by decide +kernel,rfl,by decide +kernel,by decide +kernel⟩
local macro_rules | `(tactic| walk_at "T.b")=>`(tactic| ((with_reducible refine' fn_lenS ?a0 ?a9 ?a1);(case a0=>with_reducible assumption);(case a9=>rfl);(case a1=>walk_at "T.a")))
local macro_rules | `(tactic| walk_at "T.ty")=>`(tactic| ((with_reducible refine' ix_atS ?a1 ?a2);(case a1=>walk_at "T.e");(case a2=>walk_at "T.e")))
theorem ok_cell (D:FnX K mg "_law_cell" sCell ["script","k"]) (g1:mg "len" = none):Can P w K mg base "_law_cell" 1 ["script","k"] (spCell K):=by
 refine can_fn (k:=0) D scCell (fun vs H Q E h=>?_) (fun f cdv A outer s H vs Q E hr h=>?_)
 all_goals
  unfold spCell at h
  split at h
 ·rfl
 ·exact h.elim
 ·rename_i a k
  obtain ⟨ns,hS,h0,h1,q⟩:=h
  have nd:=scCell.nd
  refine ⟨_,(by walk_at "T.top"),?_⟩
  refine ⟨_,hS,ite2 (fun h2=>?_) (fun h2=>?_)⟩
  ·have h2':k < ((ns.map V.int).length:Int):=of_decide_eq_true h2
   rw [List.length_map] at h2'
   have h3:k.toNat < ns.length:=by omega
   exact ⟨_,.int ns[k.toNat],hS,atI_int h0 (by rw [List.getElem?_map,List.getElem?_eq_getElem h3];rfl),q _⟩
  ·exact ⟨.inl ⟨by decide,by decide⟩,.inr ⟨by omega,by omega⟩,.inl ⟨by decide,by decide⟩,q _⟩
 ·exact h.elim
end
end K62
end
section
namespace K62
open PySem L2
section
variable {P:Program} {w:World} {K:PySem.W.Frag} {mg:Str->Option Value} {base:Heap}
abbrev sStore:Stmt:=top 27
def spStore:Sp:=fun vs H Q _=>match vs with
 | [.int _]=>∀ p g b,H p=none->Q (.ref p) (upd H p (.lst [.int g,.int b,.int 1]))
 | _=>False
theorem scStore:FnScope ["cell","great"] ["cell"] (defScope sStore):=⟨rfl,rfl,rfl,by decide +kernel,rfl,by decide +kernel,by decide +kernel⟩
theorem ok_store (D:FnX K mg "_law_store" sStore ["cell"]):Can P w K mg base "_law_store" 1 ["cell"] spStore:=by
 refine can_fn (k:=0) D scStore (fun vs H Q E h=>?_) (fun f cdv A outer s H vs Q E hr h=>?_)
 all_goals
  unfold spStore at h
  split at h
 ·rfl
 ·exact h.elim
 ·rename_i c
  have nd:=scStore.nd
  refine ⟨_,(by walk_at "T.top"),?_⟩
  refine ⟨⟨by decide,by decide,by decide⟩,ite2 (fun h2=>?_) (fun h2=>?_)⟩
  ·exact ⟨(by decide:(0:Int) < 2147483629),le_line (Nat.le_of_ble_eq_true rfl),fun p hp=>h p _ _ hp⟩
  ·exact ⟨(by decide:(0:Int) < 2147483629),le_line (Nat.le_of_ble_eq_true rfl),fun p hp=>h p _ _ hp⟩
 ·exact h.elim
abbrev sTake:Stmt:=top 28
theorem scTake:FnScope ["store","many","told","one"] ["store","many"] (defScope sTake):=⟨rfl,rfl,rfl,by decide +kernel,rfl,by decide +kernel,by decide +kernel⟩
theorem ok_take (D:FnX K mg "_law_take" sTake ["store","many"]):Can P w K mg base "_law_take" 1 ["store","many"] spTake:=by
 refine can_fn (k:=0) D scTake (fun vs H Q E h=>?_) (fun f cdv A outer s H vs Q E hr h=>?_)
 all_goals
  unfold spTake at h
  split at h
 ·rfl
 ·exact h.elim
 ·rename_i a many
  obtain ⟨⟨g,b,c,ha⟩,h0,h1,k⟩:=h
  have nd:=scTake.nd
  refine ⟨_,(by walk_at "T.top"),?_⟩
  have fin:∀ (H1:Hp) (r g' c':Int),H1=upd H a (.lst [.int g',.int b,.int c'])->0<=r->r < many->Q (.int r) H1:=fun H1 r g' c' e r0 r1=>by
   subst e
   exact k r _ r0 r1 ⟨_,_,_,upd_same⟩ fun y o e n=>by rw [upd_ne n];exact e
  refine ⟨.int g,gl ha (by decide) rfl,ite2 (fun h2=>?_) (fun h2=>?_)⟩
  ·refine ⟨.int g,gl ha (by decide) rfl,h0,?_⟩
   refine ⟨.int g,gl ha (by decide) rfl,⟨h0,h1⟩,_,0,ha,rfl,?_⟩
   exact fin _ _ _ _ rfl (Int.emod_nonneg _ (by omega)) (Int.emod_lt_of_pos _ h0)
  ·refine ⟨.int c,gl ha (by decide) rfl,_,2,ha,rfl,?_⟩
   have h1a:upd H a (.lst ([V.int g,V.int b,V.int c].set 2 (V.int (c+1)))) a=some (.lst [.int g,.int b,.int (c+1)]):=upd_same
   refine ⟨.int b,gl h1a (by decide) rfl,.int (c+1),gl h1a (by decide) rfl,.inl ⟨by decide,by decide⟩,.inr ⟨by decide,by decide⟩,(by decide:(0:Int) < 2147483647),?_⟩
   have b1:=Int.emod_nonneg ((b+7919 * (c+1)) * 48271) (show (2147483647:Int)≠0 by decide)
   have b2:=Int.emod_lt_of_pos ((b+7919 * (c+1)) * 48271) (show (0:Int) < 2147483647 by decide)
   generalize ((b+7919 * (c+1)) * 48271) % 2147483647=x1 at b1 b2 ⊢
   refine ⟨.inl ⟨by omega,by omega⟩,(by decide:(0:Int) < 2147483629),?_⟩
   refine ⟨.int (c+1),gl h1a (by decide) rfl,.inl ⟨by decide,by decide⟩,.inr ⟨by decide,by decide⟩,(by decide:(0:Int) < 2147483587),?_⟩
   refine ⟨⟨by decide,by decide⟩,h0,?_⟩
   exact fin _ _ _ _ rfl (Int.emod_nonneg _ (by omega)) (Int.emod_lt_of_pos _ h0)
 ·exact h.elim
abbrev sWordN:Stmt:=top 29
theorem scWordN:FnScope ["number","n","word","k"] ["number","n"] (defScope sWordN):=⟨rfl,rfl,rfl,by decide +kernel,rfl,by decide +kernel,by decide +kernel⟩
theorem ok_wordN (D:FnX K mg "_law_word" sWordN ["number","n"]) (g1:mg "range" = none):Can P w K mg base "_law_word" 1 ["number","n"] spWordN:=by
 refine can_fn (k:=0) D scWordN (fun vs H Q E h=>?_) (fun f cdv A outer s H vs Q E hr h=>?_)
 all_goals
  unfold spWordN at h
  split at h
 ·rfl
 ·exact h.elim
 ·rename_i x n
  obtain ⟨h0,h1,q⟩:=h
  have nd:=scWordN.nd
  refine ⟨_,(by walk_at "T.top"),?_⟩
  refine ⟨by omega,by omega,for_by (it_range 0 _) (fun i σ H2=>H2=H/\∃ (y:Int) (w':List Bool) (v:Option V),σ=[some (.int y),some (.int n),some (.str (bs w')),v]/\w'.length=i) ⟨rfl,x,[],none,by rw [bs_nil];rfl,rfl⟩ (fun _ _ _ _ _=>trivial) ?_ ?_⟩
  ·rintro i z σ H2 hi hx ⟨rfl,y,w',v,rfl,hl⟩
   rw [List.length_map,List.length_range] at hi
   have m0:=Int.emod_nonneg y (show (2:Int)≠0 by decide)
   have m1:=Int.emod_lt_of_pos y (show (0:Int) < 2 by decide)
   refine ⟨(by decide:(0:Int) < 2),_,g01 m0 m1,⟨?_,?_⟩⟩
   ·rw [bs_len,bs_len];exact le_line (by simp;omega)
   ·refine ⟨⟨by decide,by decide⟩,rfl,y / 2,decide (y % 2=1) :: w',some z,?_,by simp [hl]⟩
    rw [bs_app]
    rfl
  ·rintro σ H2 ⟨rfl,y,w',v,rfl,hl⟩
   refine q w' ?_
   rw [List.length_map,List.length_range] at hl
   omega
 ·exact h.elim
end
end K62
end
section
namespace K62
open PySem L2
section
variable {P:Program} {w:World} {K:PySem.W.Frag} {mg:Str->Option Value} {base:Heap}
abbrev sBranch:Stmt:=top 30
def spBranch:Sp:=fun vs H Q _=>match vs with
 | [.ref a,.int _,.ref pool,.int place,.int letter,.ref sz]=>∃ (ws:List (List Bool)) (k n many:Nat),Sto H a/\H pool=some (WS ws)/\1<=ws.length/\ws.length<=10/\(∀ w∈ws,w.length=n)/\H sz=some (.tup [.int k,.int n,.int many]) ∧
   1<=n/\n<=6/\1<=many/\many<=8/\0<=place/\place<=8/\0<=letter/\letter<=8 ∧
   ∀ p (w:List Bool) (t:Nat) H',w.length=n->t < many->Sto H' a->Off (At a) H H'->H p=none->H' p=some (.tup [.str (bs w),.int (t:Nat)])->Q (.ref p) H'
 | _=>False
theorem scBranch:FnScope ["store","kind","pool","place","letter","sizes","k","n","many","behind","word"] ["store","kind","pool","place","letter","sizes"] (defScope sBranch):=⟨rfl,rfl,rfl,by decide +kernel,rfl,by decide +kernel,by decide +kernel⟩
theorem ws_ne_sto {g b c:Int} (ws:List (List Bool)):HO.lst [.int g,.int b,.int c]≠WS ws:=by
 intro z
 unfold WS at z
 injection z with z
 match ws,z with
 | [],z=>cases z
 | _ :: _,z=>injection z with z1 z2;cases z1
theorem top_get {H:Hp} {p:Addr} {n:Nat} (n1:1<=n) (n6:n<=6) (h:H p=some (.lst [.int 2,.int 4,.int 8,.int 16,.int 32,.int 64])):∃ m:Int,0 < m/\m<=64/\getV H (.ref p) ((n:Int) - 1)=some (.int m):=by
 have:n=1\/n=2\/n=3\/n=4\/n=5\/n=6:=by omega
 rcases this with rfl | rfl | rfl | rfl | rfl | rfl
 ·exact ⟨2,by decide,by decide,gl h (by decide) rfl⟩
 ·exact ⟨4,by decide,by decide,gl h (by decide) rfl⟩
 ·exact ⟨8,by decide,by decide,gl h (by decide) rfl⟩
 ·exact ⟨16,by decide,by decide,gl h (by decide) rfl⟩
 ·exact ⟨32,by decide,by decide,gl h (by decide) rfl⟩
 ·exact ⟨64,by decide,by decide,gl h (by decide) rfl⟩
theorem ok_branch (D:FnX K mg "_law_branch" sBranch ["store","kind","pool","place","letter","sizes"]) (g1:mg "len" = none) (c1:Can P w K mg base "_law_take" 1 ["store","many"] spTake) (c2:Can P w K mg base "_law_word" 1 ["number","n"] spWordN) :
  Can P w K mg base "_law_branch" 2 ["store","kind","pool","place","letter","sizes"] spBranch:=by
 refine can_fn (k:=1) D scBranch (fun vs H Q E h=>?_) (fun f cdv A outer s H vs Q E hr h=>?_)
 all_goals
  unfold spBranch at h
  split at h
 ·rfl
 ·exact h.elim
 ·rename_i a kind pool place letter sz
  obtain ⟨ws,k,n,many,hS,hpool,ws1,ws10,wsl,hsz,n1,n6,m1,m8,p0,p8,l0,l8,q⟩:=h
  have nd:=scBranch.nd
  have pa:pool≠a:=by
   obtain ⟨g,b,c,ha⟩:=hS
   exact (ne_of ha hpool (ws_ne_sto ws)).symm
  refine ⟨_,(by walk_at "T.top"),?_⟩
  refine ⟨_,.inl hsz,rfl,?_⟩
  refine ⟨rfl,hS,by omega,by omega,fun t H1 t0 t1 s1 o1=>?_⟩
  have hp1:=o1 _ _ hpool pa
  refine ⟨_,lenL hp1,s1,by rw [ws_len];omega,by rw [ws_len];omega,fun r H2 r0 r1 s2 o2=>?_⟩
  rw [ws_len] at r1
  obtain ⟨w0,hw0⟩ : ∃ w0,ws[r.toNat]? = some w0:=⟨_,List.getElem?_eq_getElem (by omega)⟩
  refine ⟨_,gl (o2 _ _ hp1 pa) r0 (ws_get hw0),?_⟩
  have o12:=o1.trans o2
  try dsimp only [gName,tNext]
  refine seq_by (fun σ H3=>∃ (t:Int) (w0:List Bool),σ=[some (.ref a),some (.int kind),some (.ref pool),some (.int place),some (.int letter),some (.ref sz),some (.int k),some (.int n),some (.int many),some (.int t),some (.str (bs w0))]/\0<=t/\t < many/\w0.length=n/\Sto H3 a/\Off (At a) H H3) ?_ (fun fin=>?_)
  ·rintro σ H3 ⟨t,w0,rfl,t0,t1,hw0,s3,o3⟩
   try dsimp only [gName,tNext]
   refine seq_by (fun σ H3=>∃ (w0:List Bool),σ=[some (.ref a),some (.int kind),some (.ref pool),some (.int place),some (.int letter),some (.ref sz),some (.int k),some (.int n),some (.int many),some (.int t),some (.str (bs w0))]/\w0.length=n/\Sto H3 a/\Off (At a) H H3) ?_ (fun fin=>?_)
   ·rintro σ H4 ⟨w0,rfl,hw0,s4,o4⟩
    try dsimp only [gName,tNext]
    refine seq_by (fun σ H3=>∃ (w0:List Bool),σ=[some (.ref a),some (.int kind),some (.ref pool),some (.int place),some (.int letter),some (.ref sz),some (.int k),some (.int n),some (.int many),some (.int t),some (.str (bs w0))]/\w0.length=n/\Sto H3 a/\Off (At a) H H3) ?_ (fun fin=>?_)
    ·rintro σ H5 ⟨w0,rfl,hw0,s5,o5⟩
     try dsimp only [gName,tNext]
     refine seq_by (fun σ H3=>∃ (w0:List Bool),σ=[some (.ref a),some (.int kind),some (.ref pool),some (.int place),some (.int letter),some (.ref sz),some (.int k),some (.int n),some (.int many),some (.int t),some (.str (bs w0))]/\w0.length=n/\Sto H3 a/\Off (At a) H H3) ?_ (fun fin=>?_)
     ·rintro σ H6 ⟨w0,rfl,hw0,s6,o6⟩
      refine ⟨le_line (Nat.le_of_ble_eq_true rfl),fun p hp=>?_⟩
      have e:t=((t.toNat:Nat):Int):=by omega
      refine q p w0 t.toNat _ hw0 (by omega) (s6.new hp) (o6.upd_new hp) (o6.freeS s6 hp) ?_
      rw [upd_same,<-e]
     ·-- kind == 4 and k <= n
      dsimp only [tIfS,tNext,tAnd]
      refine ite2 (fun h3=>?_) (fun h3=>iteF (fin _ _ ⟨w0,rfl,hw0,s5,o5⟩))
      refine ite2 (fun h4=>?_) (fun h4=>fin _ _ ⟨w0,rfl,hw0,s5,o5⟩)
      refine ⟨.inl ⟨by decide,by decide⟩,(by decide:(0:Int) < 3),.inl ⟨by decide,by decide⟩,.inl ⟨by omega,by omega⟩,le_line (Nat.le_of_ble_eq_true rfl),fun p hp=>?_⟩
      obtain ⟨m,m0,m64,hm⟩:=top_get n1 n6 (upd_same (H:=H5) (a:=p))
      refine ⟨_,hm,m0,by omega,by omega,fun w1 hw1=>?_⟩
      exact fin _ _ ⟨w1,rfl,by omega,s5.new hp,o5.upd_new hp⟩
    ·-- kind == 5
     refine ite2 (fun h3=>?_) (fun h3=>fin _ _ ⟨w0,rfl,hw0,s4,o4⟩)
     refine ⟨s4,by decide,by decide,fun r H5 r0 r1 s5 o5=>⟨by omega,by omega,fun w1 hw1=>?_⟩⟩
     exact fin _ _ ⟨w1,rfl,by omega,s5,o4.trans o5⟩
   ·-- kind == 3 and k <= n
    dsimp only [tIfS,tNext,tAnd]
    refine ite2 (fun h3=>?_) (fun h3=>iteF (fin _ _ ⟨w0,rfl,hw0,s3,o3⟩))
    refine ite2 (fun h4=>?_) (fun h4=>fin _ _ ⟨w0,rfl,hw0,s3,o3⟩)
    have hp3:=o3 _ _ hpool pa
    obtain ⟨wf,hwf⟩ : ∃ wf,ws[0]? = some wf:=⟨_,List.getElem?_eq_getElem (by omega)⟩
    refine ⟨_,gl hp3 (by decide) (ws_get hwf),rfl,_,lenL hp3,.inl ⟨by decide,by decide⟩,.inl ⟨by omega,by omega⟩,le_line (Nat.le_of_ble_eq_true rfl),fun p hp=>?_⟩
    obtain ⟨m,m0,m64,hm⟩:=top_get n1 n6 (upd_same (H:=H3) (a:=p))
    refine ⟨_,hm,m0,by omega,by omega,fun w1 hw1=>?_⟩
    exact fin _ _ ⟨w1,rfl,by omega,s3.new hp,o3.upd_new hp⟩
  ·-- kind == 2
   refine ite2 (fun h3=>?_) (fun h3=>fin _ _ ⟨t,w0,rfl,t0,t1,wsl _ (List.mem_of_getElem? hw0),s2,o12⟩)
   refine ⟨.inl ⟨by decide,by decide⟩,(by omega:(0:Int) < (many:Int)),?_⟩
   exact fin _ _ ⟨_,w0,rfl,Int.emod_nonneg _ (by omega),Int.emod_lt_of_pos _ (by omega),wsl _ (List.mem_of_getElem? hw0),s2,o12⟩
 ·exact h.elim
end
end K62
end
section
namespace K62
open PySem L2
section
variable {P:Program} {w:World} {K:PySem.W.Frag} {mg:Str->Option Value} {base:Heap}
abbrev sCodeS:Stmt:=top 31
def spCodeS:Sp:=fun vs H Q _=>match vs with
 | [.ref a,.int most]=>Sto H a/\1<=most/\most<=8/\∀ v k n rows G H',Om.CodeOk k n rows->(rows.length:Int)<=most->DV G v (codeD k n rows)->Gh G H H' a->Q v H'
 | _=>False
theorem scCodeS:FnScope ["store","most","k","n","many","kind","top","pool","states","place","state","letter"] ["store","most"] (defScope sCodeS):=⟨rfl,rfl,rfl,by decide +kernel,rfl,by decide +kernel,by decide +kernel⟩
theorem six_get {H:Hp} {p:Addr} {r:Int} (h0:0<=r) (h1:r < 6) (h:H p=some (.lst [.int 1,.int 1,.int 1,.int 2,.int 2,.int 3])):∃ k:Nat,1<=k/\k<=3/\getV H (.ref p) r=some (.int k):=by
 have:r=0\/r=1\/r=2\/r=3\/r=4\/r=5:=by omega
 rcases this with rfl | rfl | rfl | rfl | rfl | rfl
 ·exact ⟨1,by decide,by decide,gl h (by decide) rfl⟩
 ·exact ⟨1,by decide,by decide,gl h (by decide) rfl⟩
 ·exact ⟨1,by decide,by decide,gl h (by decide) rfl⟩
 ·exact ⟨2,by decide,by decide,gl h (by decide) rfl⟩
 ·exact ⟨2,by decide,by decide,gl h (by decide) rfl⟩
 ·exact ⟨3,by decide,by decide,gl h (by decide) rfl⟩
theorem three_get {H:Hp} {p:Addr} {k:Nat} (k1:1<=k) (k3:k<=3) (h:H p=some (.lst [.int 2,.int 4,.int 8])):getV H (.ref p) ((k:Int) - 1)=some (.int ((2 ^ k:Nat):Int)):=by
 have:k=1\/k=2\/k=3:=by omega
 rcases this with rfl | rfl | rfl
 ·exact gl h (by decide) rfl
 ·exact gl h (by decide) rfl
 ·exact gl h (by decide) rfl
theorem pow_le8 {k:Nat} (k3:k<=3):2 ^ k<=8:=by
 have:k=0\/k=1\/k=2\/k=3:=by omega
 rcases this with rfl | rfl | rfl | rfl<;>decide
local macro_rules | `(tactic| walk_at "T.sc")=>`(tactic| (have ndc:(["j","store","top","n"]:List Str).Nodup:=(by decide +kernel));((with_reducible refine' s_comp "pool" 7 ["j","store","top","n"] [0,6,3] ?b1 ?b0 ?b2 (fun cl C s H fp=>?b3) (fun cl C s H fp=>?b4) (fun cl C s H fp=>?b5));(case b1=>exact ndc);(case b0=>assumption);(case b2=>walk_at "T.i");(case b3=>walk_at "T.g");(case b4=>walk_at "T.pf");(case b5=>walk_at "T.e")))
theorem ok_codeS (D:FnX K mg "_law_code" sCodeS ["store","most"]) (g1:mg "range" = none) (c1:Can P w K mg base "_law_take" 1 ["store","many"] spTake) (c2:Can P w K mg base "_law_word" 1 ["number","n"] spWordN)
  (c3:Can P w K mg base "_law_branch" 2 ["store","kind","pool","place","letter","sizes"] spBranch):Can P w K mg base "_law_code" 3 ["store","most"] spCodeS:=by
 refine can_fn (k:=2) D scCodeS (fun vs H Q E h=>?_) (fun f cdv A outer s H vs Q E hr h=>?_)
 all_goals
  unfold spCodeS at h
  split at h
 ·rfl
 ·exact h.elim
 ·rename_i a most
  obtain ⟨hS,m1,m8,q⟩:=h
  have nd:=scCodeS.nd
  refine ⟨_,(by walk_at "T.top"),?_⟩
  have M0:=Gh.start hS
  refine ⟨le_line (Nat.le_of_ble_eq_true rfl),fun p hp=>?_⟩
  have M1:=M0.new (o:=.lst [.int 1,.int 1,.int 1,.int 2,.int 2,.int 3]) hp
  refine ⟨M1.st,by decide,by decide,fun r H1 r0 r1 s1 o1=>?_⟩
  have M2:=M1.take s1 o1
  obtain ⟨k,k1,k3,hk⟩:=six_get r0 r1 (o1 _ _ upd_same (M0.ne hp))
  refine ⟨_,hk,?_⟩
  refine ⟨M2.st,by decide,by decide,fun n0 H2 n00 n01 s2 o2=>?_⟩
  have M3:=M2.take s2 o2
  obtain ⟨n,rfl⟩ : ∃ n:Nat,n0=((n:Nat):Int) - 1:=⟨(n0+1).toNat,by omega⟩
  refine ⟨M3.st,by omega,by omega,fun m0 H3 m00 m01 s3 o3=>?_⟩
  have M4:=M3.take s3 o3
  obtain ⟨many,rfl⟩ : ∃ n:Nat,m0=((n:Nat):Int) - 1:=⟨(m0+1).toNat,by omega⟩
  refine ⟨M4.st,by decide,by decide,fun kind H4 k00 k01 s4 o4=>?_⟩
  have M5:=M4.take s4 o4
  have en:(1:Int)+((n:Int) - 1)=(n:Int):=by omega
  have em:(1:Int)+((many:Int) - 1)=(many:Int):=by omega
  try dsimp only [gName,tNext]
  rw [en,em]
  refine ⟨le_line (Nat.le_of_ble_eq_true rfl),fun p2 hp2=>?_⟩
  have M6:=M5.new (o:=.lst [.int 2,.int 4,.int 8,.int 16,.int 32,.int 64]) hp2
  obtain ⟨tp,tp0,tp64,htp⟩:=top_get (n:=n) (by omega) (by omega) (upd_same (H:=H4) (a:=p2))
  refine ⟨_,htp,?_⟩
  refine ⟨M6.st,by decide,by decide,fun c0 H6 c00 c01 s6 o6=>?_⟩
  have M7:=M6.take s6 o6
  refine ⟨by omega,by omega,fun pl hpl=>?_⟩
  have npl:=M7.ne hpl
  refine comp_by (it_range 0 _) (fun i τ H7 ys=>(∃ v,τ=[v,some (.ref a),some (.int tp),some (.int n)])/\Gh (fun _=>none) H H7 a/\H7 pl=some (.lst ys)/\∃ ws:List (List Bool),ys=ws.map (fun w=>V.str (bs w))/\ws.length=i/\∀ w∈ws,w.length=n) ?_ ⟨⟨none,rfl⟩,M7.new hpl,upd_same,[],rfl,rfl,by simp⟩ ?_ ?_ ?_
  ·rw [List.length_map,List.length_range];exact le_line (by omega)
  ·rintro i τ H7 ys hi ⟨_,_,h7,ws,rfl,hl,_⟩
   exact ⟨trivial,h7,by simp [hl]⟩
  ·rintro i x τ H7 ys hi hx ⟨⟨v,rfl⟩,M8,h7,ws,rfl,hl,hw⟩
   refine ⟨M8.st,tp0,by omega,fun r H8 r0 r1 s8 o8=>⟨by omega,by omega,fun w1 hw1=>?_⟩⟩
   have h8:=o8 _ _ h7 npl
   refine ⟨h8,⟨_,rfl⟩,(M8.take s8 o8).own rfl (M7.free0 hpl) npl,upd_same,ws++[w1],by rw [List.map_append];rfl,by simp [hl],fun y hy=>?_⟩
   rcases List.mem_append.mp hy with hy | hy
   ·exact hw y hy
   ·have:y=w1:=by simpa using hy
    rw [this];omega
  ·rintro τ H7 ys ⟨_,M8,h7,ws,rfl,hl,hw⟩
   rw [List.length_map,List.length_range] at hl
   refine ⟨Nat.zero_le _,fun S hS=>?_⟩
   have M9:Gh (upd (fun _=>none) pl (WS ws)) H (upd H7 S (.lst [])) a:=(M8.grow h7 npl).new hS
   have nSa:=M8.ne hS
   have S0:H S=none:=M8.free0 hS
   have plS:pl≠S:=ne_of_none h7 hS
   refine ⟨by omega,by omega,for_by (it_range 0 _) (fun i σ H9=>∃ (v9 v10 v11:Option V) (G:Hp) (rows:Om.Rows) (ss:List V),σ=[some (.ref a),some (.int most),some (.int k),some (.int n),some (.int many),some (.int kind),some (.int tp),some (.ref pl),some (.ref S),v9,v10,v11]/\Gh G H H9 a/\G pl=some (WS ws)/\G S=none/\H9 S=some (.lst ss)/\DVs G ss (rows.map stateD)/\rows.length=i/\(∀ st∈rows,st.length=2 ^ k)/\∀ st∈rows,∀ r∈st,r.1.length=n/\r.2 < many)
    ⟨none,none,none,_,[],[],rfl,M9,upd_same,upd_none rfl plS.symm,upd_same,.nil,rfl,by simp,by simp⟩ (fun _ _ _ _ _=>trivial) ?_ ?_⟩
   ·rintro i x σ H9 hi hx ⟨v9,v10,v11,G,rows,ss,rfl,M10,gpl,gS,h9,hd,rl,r1,r2⟩
    have hi':i < many:=by simpa using hi
    have ex:x = .int (i:Nat):=by
     rw [List.length_map,List.length_range] at hi
     rw [List.getElem?_map,List.getElem?_range hi] at hx
     have:=(Option.some.inj hx).symm
     rw [this];simp
    subst ex
    refine ⟨Nat.zero_le _,fun T hT=>?_⟩
    have ST:S≠T:=ne_of_none h9 hT
    have nTa:=M10.ne hT
    have T0:=M10.free0 hT
    have gT:=M10.freeG hT
    have M11:=M10.new (o:=.lst []) hT
    refine ⟨le_line (Nat.le_of_ble_eq_true rfl),fun p3 hp3=>?_⟩
    have M12:=M11.new (o:=.lst [.int 2,.int 4,.int 8]) hp3
    have Tp3:T≠p3:=fun z=>by rw [<-z,upd_same] at hp3;cases hp3
    refine ⟨_,three_get k1 k3 upd_same,?_⟩
    have p8:=pow_le8 k3
    refine ⟨Int.le_trans (by decide) (Int.natCast_nonneg _),Int.lt_of_le_of_lt (Int.ofNat_le.mpr p8) (by decide),for_by (it_range 0 _) (fun j σ H10=>∃ (v11:Option V) (G:Hp) (st:List (List Bool×Nat)) (rs:List V),σ=[some (.ref a),some (.int most),some (.int k),some (.int n),some (.int many),some (.int kind),some (.int tp),some (.ref pl),some (.ref S),some (.int (i:Nat)),some (.ref T),v11]/\Gh G H H10 a/\G pl=some (WS ws)/\G S=none/\G T=none/\H10 S=some (.lst ss)/\H10 T=some (.lst rs)/\DVs G ss (rows.map stateD)/\DVs G rs (st.map rowD)/\st.length=j/\∀ r∈st,r.1.length=n/\r.2 < many)
     ⟨v11,G,[],[],rfl,M12,gpl,gS,gT,upd_some (upd_some h9 ST) (ne_of_none (upd_some h9 ST) hp3),upd_some upd_same Tp3,hd,.nil,rfl,by simp⟩ (fun _ _ _ _ _=>trivial) ?_ ?_⟩
    ·rintro j y σ H10 hj hy ⟨w11,G1,st,rs,rfl,M13,gpl1,gS1,gT1,hS1,hT1,hd1,hr1,sl,sr⟩
     have hj':j < 2 ^ k:=by rw [List.length_map,List.length_range,Int.toNat_natCast] at hj;exact hj
     have ey:y = .int (j:Nat):=by
      rw [List.length_map,List.length_range] at hj
      rw [List.getElem?_map,List.getElem?_range hj] at hy
      have:=(Option.some.inj hy).symm
      rw [this];simp
     subst ey
     refine ⟨⟨_,rfl,hT1⟩,?_⟩
     refine ⟨le_line (Nat.le_of_ble_eq_true rfl),fun z hz=>?_⟩
     have M14:=M13.new (o:=.tup [.int k,.int n,.int many]) hz
     refine ⟨ws,k,n,many,M14.st,M14.s _ _ gpl1,by omega,by omega,hw,upd_same,by omega,by omega,by omega,by omega,by omega,by omega,by omega,by omega,fun pp w1 t1 H11 hw1 ht1 s11 o11 np1 hp1=>?_⟩
     have M15:=M14.take s11 o11
     have Tz:T≠z:=ne_of_none hT1 hz
     have Sz:S≠z:=ne_of_none hS1 hz
     have hT2:H11 T=some (.lst rs):=o11 _ _ (upd_some hT1 Tz) nTa
     have hS2:H11 S=some (.lst ss):=o11 _ _ (upd_some hS1 Sz) nSa
     have ppT:T≠pp:=ne_of_none (upd_some hT1 Tz) np1
     have ppS:S≠pp:=ne_of_none (upd_some hS1 Sz) np1
     have rl1:rs.length=st.length:=by rw [hr1.length,List.length_map]
     refine ⟨_,hT2,by rw [rl1,sl];exact lt_line (by omega),?_⟩
     have M16:=(M15.grow hp1 (s11.tup hp1)).own (p:=T) (o:=.lst (rs++[.ref pp])) (upd_none gT1 ppT) T0 nTa
     have ppl:pl≠pp:=by
      have h1:=M14.s _ _ gpl1
      exact ne_of_none h1 np1
     have Gs:Same G1 (upd G1 pp (.tup [.str (bs w1),.int (t1:Nat)])):=Same.upd (M14.s.free np1)
     refine ⟨some (.int (j:Nat)),_,st++[(w1,t1)],rs++[.ref pp],rfl,M16,upd_some gpl1 ppl,upd_none gS1 ppS,upd_none gT1 ppT,upd_some hS2 ST,upd_same,hd1.mono Gs,?_,by simp [sl],fun r hr=>?_⟩
     ·rw [List.map_append]
      exact (hr1.mono Gs).app (.cons (.tup upd_same (.cons (.str _) (.cons (.int _) .nil))) .nil)
     ·rcases List.mem_append.mp hr with hr | hr
      ·exact sr r hr
      ·have:r=(w1,t1):=by simpa using hr
       rw [this];exact ⟨hw1,ht1⟩
    ·rintro σ H10 ⟨w11,G1,st,rs,rfl,M13,gpl1,gS1,gT1,hS1,hT1,hd1,hr1,sl,sr⟩
     have sl':st.length=2 ^ k:=by rw [sl,List.length_map,List.length_range,Int.toNat_natCast]
     have ssl:ss.length=rows.length:=by rw [hd1.length,List.length_map]
     refine ⟨⟨_,rfl,hS1⟩,_,hS1,by rw [ssl,rl];exact lt_line (by omega),?_⟩
     have Gs:Same G1 (upd G1 T (.lst rs)):=Same.upd gT1
     have plT:pl≠T:=ne_of_none gpl1 gT1
     refine ⟨some _,some _,w11,upd G1 T (.lst rs),rows++[st],ss++[.ref T],rfl,(M13.grow hT1 nTa).own (upd_none gS1 ST) S0 nSa,upd_some gpl1 plT,upd_none gS1 ST,upd_same,?_,by simp [rl],fun y hy=>?_,fun y hy=>?_⟩
     ·rw [List.map_append]
      exact (hd1.mono Gs).app (.cons (.lst upd_same (hr1.mono Gs)) .nil)
     ·rcases List.mem_append.mp hy with hy | hy
      ·exact r1 y hy
      ·have:y=st:=by simpa using hy
       rw [this];exact sl'
     ·rcases List.mem_append.mp hy with hy | hy
      ·exact r2 y hy
      ·have:y=st:=by simpa using hy
       rw [this];exact sr
   ·rintro σ H9 ⟨v9,v10,v11,G,rows,ss,rfl,M10,gpl,gS,h9,hd,rl,r1,r2⟩
    have rl':rows.length=many:=by rw [rl,List.length_map,List.length_range];omega
    refine ⟨le_line (Nat.le_of_ble_eq_true rfl),fun c hc=>?_⟩
    have M11:=(M10.grow h9 nSa).new (o:=.tup [.int k,.int n,.ref S]) hc
    have M12:=M11.grow upd_same (M10.ne hc)
    have Sc:S≠c:=ne_of_none h9 hc
    have G1:Same G (upd G S (.lst ss)):=Same.upd gS
    have gc:upd G S (.lst ss) c=none:=upd_none (M10.freeG hc) Sc.symm
    have G2:Same (upd G S (.lst ss)) (upd (upd G S (.lst ss)) c (.tup [.int k,.int n,.ref S])):=Same.upd gc
    refine q _ k n rows _ _ ⟨k1,k3,by omega,by omega,by omega,by omega,r1,fun st hst r hr=>?_⟩ (by omega) ?_ M12
    ·obtain ⟨x1,x2⟩:=r2 st hst r hr
     exact ⟨x1,by omega⟩
    ·exact .tup upd_same (.cons (.int _) (.cons (.int _) (.cons (.lst (G2 _ _ upd_same) (hd.mono (G1.trans G2))) .nil)))
 ·exact h.elim
end
end K62
end
section
namespace K62
open PySem L2
section
variable {P:Program} {w:World} {K:PySem.W.Frag} {mg:Str->Option Value} {base:Heap}
def spShow:Sp:=fun vs H Q _=>match vs with
 | [cv]=>∃ (k n:Nat) (rows:Om.Rows),DV H cv (codeD k n rows)/\Om.CodeOk k n rows/\∀ H',Same H H'->Q (.str (showS k n rows)) H'
 | _=>False
abbrev sTextOf:Stmt:=top 35
theorem scTextOf:FnScope ["code","words","state"] ["code"] (defScope sTextOf):=⟨rfl,rfl,rfl,by decide +kernel,rfl,by decide +kernel,by decide +kernel⟩
local macro_rules | `(tactic| walk_at "T.c")=>`(tactic| (have ndc:(["word","behind"]:List Str).Nodup:=(by decide +kernel));((with_reducible refine' c_comp ["word","behind"] [] ?b1 ?b2 (fun cl C s H fp=>?b3) (fun cl C s H fp=>?b4) (fun cl C s H fp=>?b5));(case b1=>exact ndc);(case b2=>walk_at "T.i");(case b3=>walk_at "T.g");(case b4=>walk_at "T.pf");(case b5=>walk_at "T.e")))
theorem ok_textOf (D:FnX K mg "_law_text_of" sTextOf ["code"]) (g1:mg "str" = none):Can P w K mg base "_law_text_of" 1 ["code"] spShow:=by
 refine can_fn (k:=0) D scTextOf (fun vs H Q E h=>?_) (fun f cdv A outer s H vs Q E hr h=>?_)
 all_goals
  unfold spShow at h
  split at h
 ·rfl
 ·exact h.elim
 ·rename_i cv
  obtain ⟨k,n,rows,hc,ok,q⟩:=h
  have nd:=scTextOf.nd
  obtain ⟨a,b,ss,rfl,ha,hb,hss⟩:=code_inv hc
  obtain ⟨k1,k3,n1,n6,s1,s8,hlen,hrow⟩:=ok
  have sl:ss.length=rows.length:=by rw [hss.length,List.length_map]
  refine ⟨_,(by walk_at "T.top"),?_⟩
  refine ⟨_,gt ha (by decide) rfl,log_small (by omega),_,gt ha (by decide) rfl,log_small (by omega),le_line (Nat.le_of_ble_eq_true rfl),fun wl hwl=>?_⟩
  have u1:∀ o,Same H (upd H wl o):=fun o=>Same.upd hwl
  refine ⟨_,gt (u1 _ _ _ ha) (by decide) rfl,⟨_,SqL.of (u1 _ _ _ hb)⟩,?_⟩
  refine for_by (it_list _ b ss) (fun i σ H2=>∃ (v:Option V),σ=[some (.ref a),some (.ref wl),v]/\Same H H2/\H2 wl=some (.lst ((strI (k:Nat) :: strI (n:Nat) :: (rows.take i).map stateS).map V.str)))
   ⟨none,rfl,u1 _,upd_same⟩ (fun i σ H2 _ ⟨_,_,s2,_⟩=>SqL.of (s2 _ _ hb)) ?_ ?_
  ·rintro i x σ H2 hi hx ⟨v,rfl,s2,h2⟩
   have hi':i < rows.length:=by omega
   obtain ⟨p,rs,e1,e2,e3⟩:=state_at hss (s:=i) (st:=rows[i]) (List.getElem?_eq_getElem hi')
   rw [hx] at e1
   cases e1
   have hm:=List.getElem_mem hi'
   have p8:2 ^ k<=8:=by
    have:k=0\/k=1\/k=2\/k=3:=by omega
    rcases this with rfl | rfl | rfl | rfl<;>decide
   have rl:rs.length=2 ^ k:=by rw [e3.length,List.length_map];exact hlen _ hm
   have stl:rows[i].length=2 ^ k:=hlen _ hm
   have hsm:∀ r∈rows[i],r.1.length<=6/\r.2 < 10:=fun r hr=>by
    obtain ⟨a1,a2⟩:=hrow _ hm r hr
    exact ⟨by omega,by omega⟩
   refine ⟨⟨_,rfl,h2⟩,rfl,⟨_,SqL.of (s2 _ _ e2)⟩,fun D1 hD1=>?_⟩
   have wD:wl≠D1:=ne_of_none h2 hD1
   refine comp_by (it_list _ p rs) (fun j τ H3 ys=>(∃ v1 v2,τ=[v1,v2])/\H3=upd H2 D1 (.lst ys)/\ys=((rows[i].take j).map rowS).map V.str) (by rw [rl];exact le_line (by omega)) ⟨⟨none,none,rfl⟩,rfl,rfl⟩ ?_ ?_ ?_
   ·rintro j τ H3 ys hj ⟨_,rfl,rfl⟩
    exact ⟨SqL.upd (s2 _ _ e2) hD1,upd_same,by simp;omega⟩
   ·rintro j y τ H3 ys hj hy ⟨⟨v1,v2,rfl⟩,rfl,rfl⟩
    have hj':j < rows[i].length:=by omega
    obtain ⟨r,f1,f2⟩:=row_at e3 (l:=j) (r:=rows[i][j]) (List.getElem?_eq_getElem hj')
    rw [hy] at f1
    cases f1
    obtain ⟨b1,b2⟩:=hsm _ (List.getElem_mem hj')
    refine ⟨_,.inl (Same.upd hD1 _ _ (s2 _ _ f2)),rfl,rfl,?_⟩
    refine ⟨?_,log_small b2,?_,upd_same,⟨_,_,rfl⟩,upd_upd,?_⟩
    ·rw [bs_len];exact le_line (by (have:(">" : Str).length=1:=by decide +kernel);omega)
    ·rw [app_len,bs_len,strI_len b2];exact le_line (by (have:(">" : Str).length=1:=by decide +kernel);omega)
    ·rw [List.take_add_one,List.getElem?_eq_getElem hj',List.map_append,List.map_append]
     rfl
   ·rintro τ H3 ys ⟨_,rfl,rfl⟩
    have tl:rows[i].take rs.length=rows[i]:=List.take_of_length_le (by omega)
    rw [tl]
    have s3:Same H2 (upd H2 D1 (.lst ((rows[i].map rowS).map V.str))):=Same.upd hD1
    refine ⟨rows[i].map rowS,upd_same,?_,?_⟩
    ·have h1:((rows[i].map rowS).map (·.length)).sum<=(rows[i].map rowS).length * 8:=sum_le fun t ht=>by
      obtain ⟨r,hr',rfl⟩:=List.mem_map.mp ht
      exact rowS_len (hsm r hr').1 (hsm r hr').2
     have h3:("," : Str).length=1:=by decide +kernel
     rw [List.length_map] at h1 ⊢
     rw [h3]
     omega
    ·refine ⟨_,s3 _ _ h2,by simp;exact lt_line (by omega),some (.ref p),rfl,fun b' o e=>?_,?_⟩
     ·by_cases hbw:b'=wl
      ·subst hbw
       rw [hwl] at e;cases e
      ·rw [upd_ne hbw];exact s3 _ _ (s2 _ _ e)
     ·have e:rows.take (i+1)=rows.take i++[rows[i]]:=by rw [List.take_add_one,List.getElem?_eq_getElem hi'];rfl
      rw [upd_same,e]
      simp only [List.map_cons,List.map_append,List.cons_append,List.map_nil]
      rfl
  ·rintro σ H2 ⟨v,rfl,s2,h2⟩
   have tl:rows.take ss.length=rows:=List.take_of_length_le (by omega)
   rw [tl] at h2
   refine ⟨rfl,_,h2,?_,q _ s2⟩
   have p8:2 ^ k<=8:=by
    have:k=0\/k=1\/k=2\/k=3:=by omega
    rcases this with rfl | rfl | rfl | rfl<;>decide
   have h1:((strI (k:Nat) :: strI (n:Nat) :: rows.map stateS).map (·.length)).sum<=(strI (k:Nat) :: strI (n:Nat) :: rows.map stateS).length * 72:=sum_le fun t ht=>by
    rcases List.mem_cons.mp ht with rfl | ht
    ·rw [strI_len (by omega)];decide
    rcases List.mem_cons.mp ht with rfl | ht
    ·rw [strI_len (by omega)];decide
    ·obtain ⟨st,hst,rfl⟩:=List.mem_map.mp ht
     exact stateS_len (fun r hr'=>let ⟨a1,a2⟩:=hrow _ hst r hr';⟨by omega,by omega⟩) (by rw [hlen _ hst];exact p8)
   have h3:(" " : Str).length=1:=by decide +kernel
   have h4:(strI (k:Nat) :: strI (n:Nat) :: rows.map stateS).length=rows.length+2:=by simp
   rw [h4] at h1 ⊢
   rw [h3]
   omega
 ·exact h.elim
end
end K62
end
section
namespace K62
open PySem L2
section
variable {P:Program} {w:World} {K:PySem.W.Frag} {mg:Str->Option Value} {base:Heap}
abbrev sSameD:Stmt:=top 38
def okD:Nat->PyData->Bool
 | 0,_=>false
 | _+1,.str _=>true
 | _+1,.int _=>true
 | n+1,.list ds=>decide (ds.length<=1000) && ds.all (okD n)
 | n+1,.tuple ds=>decide (ds.length<=1000) && ds.all (okD n)
 | _+1,_=>false
def spSameD (n:Nat):Sp:=fun vs H Q _=>match vs with
 | [x,y]=>∃ d,DV H x d/\DV H y d/\okD n d=true/\∀ H',Same H H'->Q (.bl true) H'
 | _=>False
theorem scSameD:FnScope ["found","due","one","other"] ["found","due"] (defScope sSameD):=⟨rfl,rfl,rfl,by decide +kernel,rfl,by decide +kernel,by decide +kernel⟩
local macro_rules | `(tactic| walk_at "T.i")=>`(tactic| ((with_reducible refine' it_zipU ?a0 ?a9 ?a1);(case a0=>with_reducible assumption);(case a9=>rfl);(case a1=>walk_at "T.a")))
theorem ok_sameD0 (D:FnX K mg "_law_same" sSameD ["found","due"]):Can P w K mg base "_law_same" 0 ["found","due"] (spSameD 0):=by
 have no:∀ vs H Q E,spSameD 0 vs H Q E->False:=fun vs H Q E h=>by
  unfold spSameD at h
  split at h
  ·obtain ⟨d,_,_,hf,_⟩:=h
   exact absurd hf (by simp [okD])
  ·exact h
 obtain ⟨f,fd,F,hm,hb⟩:=D
 exact ⟨f,fd,⟨fun vs H Q E h=>(no _ _ _ _ h).elim,fun A outer s H args us vs Q E hr he hb' hv h=>(no _ _ _ _ h).elim⟩,hm,F.kp,hb⟩
theorem ok_sameDS (n:Nat) (D:FnX K mg "_law_same" sSameD ["found","due"]) (g1:mg "isinstance" = none) (g2:mg "str" = none) (g3:mg "int" = none) (g4:mg "bool" = none) (g5:mg "list" = none) (g6:mg "tuple" = none) (g7:mg "len" = none) (g8:mg "zip" = none)
  (c1:Can P w K mg base "_law_same" n ["found","due"] (spSameD n)):Can P w K mg base "_law_same" (n+1) ["found","due"] (spSameD (n+1)):=by
 refine can_fn (k:=n) D scSameD (fun vs H Q E h=>?_) (fun f cdv A outer s H vs Q E hr h=>?_)
 all_goals
  unfold spSameD at h
  split at h
 ·rfl
 ·exact h.elim
 ·rename_i x y
  obtain ⟨d,hx,hy,hok,q⟩:=h
  have nd:=scSameD.nd
  refine ⟨_,(by walk_at "T.top"),?_⟩
  dsimp only [tSeq,tIfS,tNext]
  cases d with
  | str z=>
   cases hx
   cases hy
   refine ⟨"str",rfl,by decide,iteP rfl ?_⟩
   refine ⟨"str",rfl,by decide,iteP rfl ?_⟩
   show Q (.bl (decide (z=z))) H
   rw [decide_eq_true rfl]
   exact q _ (Same.refl _)
  | int z=>
   cases hx
   cases hy
   refine ⟨"int",rfl,by decide,iteF ?_⟩
   refine ⟨"int",rfl,by decide,iteP rfl ?_⟩
   refine ⟨"int",rfl,by decide,iteP rfl ?_⟩
   refine ⟨"int",rfl,by decide,iteP rfl ?_⟩
   show Q (.bl (decide (z=z))) H
   rw [decide_eq_true rfl]
   exact q _ (Same.refl _)
  | list ds=>
   obtain ⟨a,xs,rfl,ha,hxs⟩:=hx.lst_inv
   obtain ⟨b,ys,rfl,hb,hys⟩:=hy.lst_inv
   have ta:tyN H (.ref a)=some "list" := by simp [tyN,ha]
   have tb:tyN H (.ref b)=some "list" := by simp [tyN,hb]
   rw [okD,Bool.and_eq_true,decide_eq_true_eq,List.all_eq_true] at hok
   have lx:xs.length=ds.length:=hxs.length
   have ly:ys.length=ds.length:=hys.length
   refine ⟨"list",tb,by decide,iteF ?_⟩
   refine ⟨"list",tb,by decide,iteF ?_⟩
   refine tOr_by (c1:=false) (c2:=false) (fun Q q=>⟨"list",tb,by decide,"list",ta,by decide,q⟩) (fun _ Q q=>⟨"list",tb,by decide,"list",ta,by decide,q⟩) ?_
   refine iteF ?_
   refine ⟨_,lenL ha,_,lenL hb,?_⟩
   show if (!decide (((xs.length:Nat):Int)=((ys.length:Nat):Int)))=true then _ else _
   rw [decide_eq_true (by omega)]
   refine iteF ?_
   refine .inl ⟨⟨_,SqL.of ha⟩,⟨_,SqL.of hb⟩,?_⟩
   refine for_pr (it_zipP _ a b xs ys (by omega)) (fun i σ H2=>∃ (v2 v3:Option V),σ=[some (.ref a),some (.ref b),v2,v3]/\Same H H2)
    ⟨none,none,rfl,Same.refl _⟩ (fun i σ H2 _ ⟨_,_,_,s2⟩=>⟨s2 _ _ ha,s2 _ _ hb⟩) ?_ ?_
   ·rintro i t σ H2 hi ⟨v2,v3,rfl,s2⟩ ht
    have hi':i < ds.length:=by omega
    obtain ⟨x1,f1,d1⟩:=hxs.get (i:=i) (d:=ds[i]) (List.getElem?_eq_getElem hi')
    obtain ⟨y1,g1',e1⟩:=hys.get (i:=i) (d:=ds[i]) (List.getElem?_eq_getElem hi')
    have ex:xs.getD i .non=x1:=by rw [List.getD_eq_getElem?_getD,f1];rfl
    have ey:ys.getD i .non=y1:=by rw [List.getD_eq_getElem?_getD,g1'];rfl
    try dsimp only
    rw [ex,ey]
    have u3:=s2.trans (Same.upd (o:=.tup [x1,y1]) ht)
    refine ⟨_,.inl upd_same,rfl,rfl,?_⟩
    refine ⟨ds[i],d1.mono u3,e1.mono u3,hok.2 _ (List.getElem_mem hi'),fun H3 s3=>?_⟩
    exact iteF ⟨_,_,rfl,u3.trans s3⟩
   ·rintro σ H2 ⟨v2,v3,rfl,s2⟩
    exact q _ s2
  | tuple ds=>
   obtain ⟨a,xs,rfl,ha,hxs⟩:=hx.tup_inv
   obtain ⟨b,ys,rfl,hb,hys⟩:=hy.tup_inv
   have ta:tyN H (.ref a)=some "tuple" := by simp [tyN,ha]
   have tb:tyN H (.ref b)=some "tuple" := by simp [tyN,hb]
   rw [okD,Bool.and_eq_true,decide_eq_true_eq,List.all_eq_true] at hok
   have lx:xs.length=ds.length:=hxs.length
   have ly:ys.length=ds.length:=hys.length
   refine ⟨"tuple",tb,by decide,iteF ?_⟩
   refine ⟨"tuple",tb,by decide,iteF ?_⟩
   refine tOr_by (c1:=false) (c2:=false) (fun Q q=>⟨"tuple",tb,by decide,"tuple",ta,by decide,q⟩) (fun _ Q q=>⟨"tuple",tb,by decide,"tuple",ta,by decide,q⟩) ?_
   refine iteF ?_
   refine ⟨_,lenT ha,_,lenT hb,?_⟩
   show if (!decide (((xs.length:Nat):Int)=((ys.length:Nat):Int)))=true then _ else _
   rw [decide_eq_true (by omega)]
   refine iteF ?_
   refine .inr ⟨⟨_,SqT.of ha⟩,⟨_,SqT.of hb⟩,?_⟩
   refine for_pr (it_ztP _ a b xs ys (by omega)) (fun i σ H2=>∃ (v2 v3:Option V),σ=[some (.ref a),some (.ref b),v2,v3]/\Same H H2)
    ⟨none,none,rfl,Same.refl _⟩ (fun i σ H2 _ ⟨_,_,_,s2⟩=>⟨s2 _ _ ha,s2 _ _ hb⟩) ?_ ?_
   ·rintro i t σ H2 hi ⟨v2,v3,rfl,s2⟩ ht
    have hi':i < ds.length:=by omega
    obtain ⟨x1,f1,d1⟩:=hxs.get (i:=i) (d:=ds[i]) (List.getElem?_eq_getElem hi')
    obtain ⟨y1,g1',e1⟩:=hys.get (i:=i) (d:=ds[i]) (List.getElem?_eq_getElem hi')
    have ex:xs.getD i .non=x1:=by rw [List.getD_eq_getElem?_getD,f1];rfl
    have ey:ys.getD i .non=y1:=by rw [List.getD_eq_getElem?_getD,g1'];rfl
    try dsimp only
    rw [ex,ey]
    have u3:=s2.trans (Same.upd (o:=.tup [x1,y1]) ht)
    refine ⟨_,.inl upd_same,rfl,rfl,?_⟩
    refine ⟨ds[i],d1.mono u3,e1.mono u3,hok.2 _ (List.getElem_mem hi'),fun H3 s3=>?_⟩
    exact iteF ⟨_,_,rfl,u3.trans s3⟩
   ·rintro σ H2 ⟨v2,v3,rfl,s2⟩
    exact q _ s2
  | _=>exact absurd hok (by simp [okD])
 ·exact h.elim
theorem ok_sameD (D:FnX K mg "_law_same" sSameD ["found","due"]) (g1:mg "isinstance" = none) (g2:mg "str" = none) (g3:mg "int" = none) (g4:mg "bool" = none) (g5:mg "list" = none) (g6:mg "tuple" = none) (g7:mg "len" = none) (g8:mg "zip" = none) :
  ∀ n,Can P w K mg base "_law_same" n ["found","due"] (spSameD n)
 | 0=>ok_sameD0 D
 | n+1=>ok_sameDS n D g1 g2 g3 g4 g5 g6 g7 g8 (ok_sameD D g1 g2 g3 g4 g5 g6 g7 g8 n)
end
end K62
end
section
namespace K62
open PySem L2
section
variable {P:Program} {w:World} {K:PySem.W.Frag} {mg:Str->Option Value} {base:Heap}
def shortV:V->Bool
 | .str z=>decide (z.length<=200)
 | _=>false
theorem short_inv {v:V} (h:shortV v=true):∃ z:Str,v = .str z/\z.length<=200:=by
 cases v with
 | str z=>exact ⟨z,rfl,of_decide_eq_true h⟩
 | _=>cases h
abbrev sOdd:Stmt:=top 39
def spOdd:Sp:=fun vs H Q _=>match vs with
 | [.int at']=>0<=at'/\at' < 40/\∀ (z:Str) H',Same H H'->z.length<=200->Q (.str z) H'
 | _=>False
theorem scOdd:FnScope ["at","some"] ["at"] (defScope sOdd):=⟨rfl,rfl,rfl,by decide +kernel,rfl,by decide +kernel,by decide +kernel⟩
local macro_rules | `(tactic| walk_at "T.op")=>`(tactic| first | (with_reducible exact op_mulS) | (with_reducible exact op_addU))
theorem ok_odd (D:FnX K mg "_law_odd" sOdd ["at"]):Can P w K mg base "_law_odd" 1 ["at"] spOdd:=by
 refine can_fn (k:=0) D scOdd (fun vs H Q E h=>?_) (fun f cdv A outer s H vs Q E hr h=>?_)
 all_goals
  unfold spOdd at h
  split at h
 ·rfl
 ·exact h.elim
 ·rename_i i
  obtain ⟨i0,i40,q⟩:=h
  have nd:=scOdd.nd
  refine ⟨_,(by walk_at "T.top"),?_⟩
  have add:∀ {H1:Hp} {xs:List V} {p:Addr} {m:Nat},Same H H1->H1 p=some (.lst xs)->xs.all shortV=true->xs.length=m->m<=100->∀ (ys:List V),ys.all shortV=true->ys.length<=10->∀ {C:VK},(∀ p' H',Same H H'->H' p'=some (.lst (xs++ys))->(xs++ys).all shortV=true->(xs++ys).length=m+ys.length->C (.ref p') H')->(ys.length<=sizeLine/\∀ p2,H1 p2=none->rAddU (.ref p) (.ref p2) (upd H1 p2 (.lst ys)) C):=by
   intro H1 xs p m s1 k1 a1 l1 lm ys ay ly C c
   refine ⟨le_line (by omega),fun p2 hp2=>⟨_,_,Same.upd hp2 _ _ k1,upd_same,le_line (by omega),fun p3 hp3=>?_⟩⟩
   exact c p3 _ (s1.trans ((Same.upd hp2).trans (Same.upd hp3))) upd_same (by rw [List.all_append,a1,ay];rfl) (by rw [List.length_append,l1])
  have fin:∀ {H7:Hp} {p7:Addr} {xs:List V},Same H H7->H7 p7=some (.lst xs)->xs.all shortV=true->xs.length=40->∃ v,getV H7 (.ref p7) i=some v/\Q v H7:=by
   intro H7 p7 xs s7 k7 a7 l7
   have hi:i.toNat < xs.length:=by omega
   refine ⟨_,gl k7 i0 (List.getElem?_eq_getElem hi),?_⟩
   obtain ⟨z,e,hz⟩:=short_inv (List.all_eq_true.mp a7 _ (List.getElem_mem hi))
   rw [e]
   exact q z _ s7 hz
  refine ⟨le_line (Nat.le_of_ble_eq_true rfl),fun p1 hp1=>?_⟩
  refine add (m:=10) (Same.upd hp1) upd_same (by decide +kernel) rfl (by decide) _ (by decide +kernel) (by decide) fun p2 H2 s2 k2 a2 l2=>?_
  refine add s2 k2 a2 l2 (by decide) _ (by decide +kernel) (by decide) fun p3 H3 s3 k3 a3 l3=>?_
  refine add s3 k3 a3 l3 (by decide) _ (by decide +kernel) (by decide) fun p4 H4 s4 k4 a4 l4=>?_
  refine add s4 k4 a4 l4 (by decide) _ (by decide +kernel) (by decide) fun p5 H5 s5 k5 a5 l5=>?_
  refine add s5 k5 a5 l5 (by decide) _ (by decide +kernel) (by decide) fun p6 H6 s6 k6 a6 l6=>?_
  dsimp only [gName]
  refine ⟨⟨by decide,by decide,by decide +kernel⟩,by decide +kernel,?_⟩
  refine add s6 k6 a6 l6 (by decide) [.str (("1 1" : Str)++Txt.mul (" 0>0,1>0" : Str) 9)] (by decide +kernel) (by decide) fun p7 H7 s7 k7 a7 l7=>?_
  exact fin s7 k7 a7 l7
 ·exact h.elim
end
end K62
end
section
namespace K62
open PySem L2
section
variable {P:Program} {w:World} {K:PySem.W.Frag} {mg:Str->Option Value} {base:Heap}
theorem str_at {H:Hp} {z:Str} {i:Int} (h0:0<=i) (h1:i < z.length) (hz:z.length<=1000):∃ c,getV H (.str z) i=some (.str ⟨#[c]⟩):=by
 have hi:i.toNat < z.cps.toList.length:=by rw [Array.length_toList];show _ < z.length;omega
 refine ⟨z.cps.toList[i.toNat],?_⟩
 have e:atI z.cps.toList i=some z.cps.toList[i.toNat]:=atI_int h0 (List.getElem?_eq_getElem hi)
 show (if z.length<=sizeLine then (atI z.cps.toList i).map fun c=>V.str ⟨#[c]⟩ else none)=_
 rw [if_pos (le_line hz),e]
 rfl
theorem cuts_len (z:Str) {i j:Int} (h0:0<=i) (h1:i<=z.length) (hj:i<=j):(Txt.slice z none (some i)).length+(Txt.slice z (some j) none).length<=z.length:=by
 rw [mkS_of z] at h1 ⊢
 rw [mkS_len] at h1
 rw [slice_to _ _ h0 h1,slice_from _ _ (by omega),mkS_len,mkS_len,mkS_len,List.length_take,List.length_drop]
 omega
theorem app_len (x y:Str):(x++y).length=x.length+y.length:=by
 show (x.cps++y.cps).size=_
 rw [Array.size_append]
 rfl
abbrev sSpoilt:Stmt:=top 40
def spSpoilt:Sp:=fun vs H Q _=>match vs with
 | [.ref a,.str z]=>Sto H a/\z.length<=750/\∀ (z':Str) H',z'.length<=z.length+2->Sto H' a->Off (At a) H H'->Q (.str z') H'
 | _=>False
theorem scSpoilt:FnScope ["store","text","k","at","sign","way"] ["store","text"] (defScope sSpoilt):=⟨rfl,rfl,rfl,by decide +kernel,rfl,by decide +kernel,by decide +kernel⟩
local macro_rules | `(tactic| walk_at "T.b")=>`(tactic| ((with_reducible refine' fn_intF ?a0 ?a9 ?a1);(case a0=>with_reducible assumption);(case a9=>rfl);(case a1=>walk_at "T.a")))
theorem ok_spoilt (D:FnX K mg "_law_spoilt" sSpoilt ["store","text"]) (g1:mg "range" = none) (g2:mg "len" = none) (g3:mg "int" = none) (c1:Can P w K mg base "_law_take" 1 ["store","many"] spTake):Can P w K mg base "_law_spoilt" 2 ["store","text"] spSpoilt:=by
 refine can_fn (k:=1) D scSpoilt (fun vs H Q E h=>?_) (fun f cdv A outer s H vs Q E hr h=>?_)
 all_goals
  unfold spSpoilt at h
  split at h
 ·rfl
 ·exact h.elim
 ·rename_i a z
  obtain ⟨hS,hz,q⟩:=h
  have nd:=scSpoilt.nd
  refine ⟨_,(by walk_at "T.top"),?_⟩
  refine ⟨hS,by decide,by decide,fun t H1 t0 t1 s1 o1=>?_⟩
  refine ⟨by omega,by omega,for_by (it_range 0 _) (fun i σ H2=>∃ (v2 v3 v4 v5:Option V) (y:Str),σ=[some (.ref a),some (.str y),v2,v3,v4,v5]/\y.length<=z.length+i/\Sto H2 a/\Off (At a) H H2) ⟨none,none,none,none,z,rfl,Nat.le_refl _,s1,o1⟩ (fun _ _ _ _ _=>trivial) ?_ ?_⟩
  ·rintro i x σ H2 hi hx ⟨v2,v3,v4,v5,y,rfl,ly,s2,o2⟩
   have hi':i < 2:=by
    rw [List.length_map,List.length_range] at hi
    omega
   refine ⟨_,lenStr (le_line (by omega)),s2,by omega,by omega,fun r H3 r0 r1 s3 o3=>?_⟩
   refine ⟨s3,by decide,by decide,fun r2 H4 r20 r21 s4 o4=>?_⟩
   obtain ⟨c,hc⟩:=str_at (H:=H4) (z:= "01234567890123,> 89-+.aO\n\t") r20 (by rw [show (("01234567890123,> 89-+.aO\n\t" : Str)).length=26 by decide +kernel];exact r21) (by rw [show (("01234567890123,> 89-+.aO\n\t" : Str)).length=26 by decide +kernel];decide)
   refine ⟨_,hc,?_⟩
   dsimp only [gName]
   refine ⟨s4,by decide,by decide,fun r3 H5 r30 r31 s5 o5=>?_⟩
   dsimp only [gName]
   refine ⟨le_line (by omega),le_line (Nat.le_of_ble_eq_true rfl),fun p hp=>?_⟩
   have k6:upd H5 p (.lst [.str ("" : Str),.str ⟨#[c]⟩,.str ⟨#[c]⟩]) p=some (.lst [.str ("" : Str),.str ⟨#[c]⟩,.str ⟨#[c]⟩]):=upd_same
   have o6:=(((o2.trans o3).trans o4).trans o5).upd_new hp (o:=.lst [.str ("" : Str),.str ⟨#[c]⟩,.str ⟨#[c]⟩])
   have s6:=s5.new hp (o:=.lst [.str ("" : Str),.str ⟨#[c]⟩,.str ⟨#[c]⟩])
   generalize upd H5 p (.lst [.str ("" : Str),.str ⟨#[c]⟩,.str ⟨#[c]⟩])=H6 at k6 o6 s6 ⊢
   have three:∃ w:Str,getV H6 (.ref p) r3=some (.str w)/\w.length<=1:=by
    have:r3=0\/r3=1\/r3=2:=by omega
    rcases this with rfl | rfl | rfl
    ·exact ⟨_,gl k6 (by decide) rfl,by decide +kernel⟩
    ·exact ⟨_,gl k6 (by decide) rfl,Nat.le_refl _⟩
    ·exact ⟨_,gl k6 (by decide) rfl,Nat.le_refl _⟩
   obtain ⟨w',hw,lw⟩:=three
   have l1:=Txt.slice_le y none (some r)
   refine ⟨_,hw,le_line (by omega),?_⟩
   have cl:∀ b:Int,0<=b->b<=1->(Txt.slice y none (some r)).length+(Txt.slice y (some (r+b)) none).length<=y.length:=fun b b0 b1=>cuts_len y r0 (by omega) (by omega)
   have bb:∃ b:Int,0<=b/\b<=1/\b=(if (!decide (r3=1))=true then 1 else 0):=by
    by_cases e:r3=1
    ·exact ⟨0,by decide,by decide,by rw [decide_eq_true e];rfl⟩
    ·exact ⟨1,by decide,by decide,by rw [decide_eq_false e];rfl⟩
   obtain ⟨b,b0,b1,eb⟩:=bb
   have cl:=cl b b0 b1
   refine ⟨le_line (by omega),?_⟩
   rw [<-eb]
   refine ⟨by rw [app_len];exact le_line (by omega),?_⟩
   refine ⟨_,_,_,_,_,rfl,?_,s6,o6⟩
   rw [app_len,app_len]
   omega
  ·rintro σ H2 ⟨v2,v3,v4,v5,y,rfl,ly,s2,o2⟩
   refine q y _ ?_ s2 o2
   rw [List.length_map,List.length_range] at ly
   omega
 ·exact h.elim
end
end K62
end
section
namespace K62
open PySem L2
section
variable {P:Program} {w:World} {K:PySem.W.Frag} {mg:Str->Option Value} {base:Heap}
structure Pc (w:Str):Prop where
 len:w.length<=72
 cnt:(spC w).length<=8
 pcs:∀ p∈spC w,p.length<=8
theorem join_le (c:Nat) (m:Nat):∀ (ps:List Str),(∀ p∈ps,p.length<=m)->(Txt.join (ch c) ps).length<=ps.length * (m+1):=by
 intro ps
 rw [tjoin]
 induction ps with
 | nil=>intro _;exact Nat.zero_le _
 | cons p ps ih=>
  intro h
  cases ps with
  | nil=>
   have:Str.join (ch c) [p]=p:=rfl
   rw [this]
   have:=h p List.mem_cons_self
   simp
   omega
  | cons q r=>
   have ih:=ih fun x hx=>h x (List.mem_cons_of_mem _ hx)
   have e:(Str.join (ch c) (p :: q :: r)).length=p.length+1+(Str.join (ch c) (q :: r)).length:=by
    have:=congrArg List.length (join_cps c p q r)
    rw [List.length_append,List.length_cons,Array.length_toList,Array.length_toList,Array.length_toList] at this
    show (Str.join (ch c) (p :: q :: r)).cps.size=p.cps.size+1+(Str.join (ch c) (q :: r)).cps.size
    omega
   rw [e,List.length_cons,Nat.succ_mul]
   have:=h p List.mem_cons_self
   omega
theorem pc_fig {d:Nat} (h:d < 10):Pc (strI (d:Int)):=by
 obtain ⟨h1,h2,h3⟩:=spC_len (strI (d:Int))
 have l1:=strI_len h
 exact ⟨by omega,by omega,fun p hp=>by have:=h2 p hp;omega⟩
theorem pc_state {st:List (List Bool×Nat)} (h:∀ r∈st,r.1.length<=6/\r.2 < 10) (hn:st≠[]) (h8:st.length<=8):Pc (stateS st):=by
 have es:spC (stateS st)=st.map rowS:=split_state (fun r hr=>(h r hr).2) hn
 have hr:∀ p∈st.map rowS,p.length<=8:=fun p hp=>by
  obtain ⟨r,hr,rfl⟩:=List.mem_map.mp hp
  exact rowS_len (h r hr).1 (h r hr).2
 exact ⟨stateS_len h h8,by rw [es,List.length_map];exact h8,by rw [es];exact hr⟩
def wordsS (k n:Nat) (rows:Om.Rows):List Str:=strI (k:Int) :: strI (n:Int) :: rows.map stateS
theorem show_words {k n:Nat} {rows:Om.Rows} (ok:Om.CodeOk k n rows):Txt.split (showS k n rows) (" " : Str)=wordsS k n rows/\(wordsS k n rows).length<=10/\3<=(wordsS k n rows).length/\∀ w∈wordsS k n rows,Pc w:=by
 obtain ⟨k1,k3,n1,n6,s1,s8,hlen,hrow⟩:=ok
 have p8:2 ^ k<=8:=Nat.le_trans (Nat.pow_le_pow_right (by decide) k3) (by decide)
 have p1:1<=2 ^ k:=Nat.one_le_two_pow
 refine ⟨split_show (by omega) (by omega) fun st hs r hr=>by have:=(hrow st hs r hr).2;omega,by unfold wordsS;simp;omega,by unfold wordsS;simp;omega,fun w hw=>?_⟩
 unfold wordsS at hw
 rcases List.mem_cons.mp hw with rfl | hw
 ·exact pc_fig (by omega)
 rcases List.mem_cons.mp hw with rfl | hw
 ·exact pc_fig (by omega)
 obtain ⟨st,hs,rfl⟩:=List.mem_map.mp hw
 have hl:=hlen st hs
 refine pc_state (fun r hr=>⟨by rw [(hrow st hs r hr).1];exact n6,by have:=(hrow st hs r hr).2;omega⟩) (fun z=>by rw [z] at hl;simp at hl;omega) (by omega)
theorem show_len {k n:Nat} {rows:Om.Rows} (ok:Om.CodeOk k n rows):(showS k n rows).length<=750:=by
 obtain ⟨e,l10,l3,pc⟩:=show_words ok
 have hj:Txt.join (ch 32) (Txt.split (showS k n rows) (ch 32))=showS k n rows:=by rw [tjoin];exact (split_fre _ (by decide)).2.2
 rw [<-blank_ch,e,blank_ch] at hj
 rw [<-hj]
 have:=join_le 32 72 (wordsS k n rows) fun p hp=>(pc p hp).len
 omega
end
end K62
end
section
namespace K62
open PySem L2
section
variable {P:Program} {w:World} {K:PySem.W.Frag} {mg:Str->Option Value} {base:Heap}
theorem sum_le {m:Nat}:∀ {ws:List Str},(∀ w∈ws,w.length<=m)->(ws.map (·.length)).sum<=ws.length * m
 | [],_=>by simp
 | w :: ws,h=>by
  have ih:=sum_le (ws:=ws) fun x hx=>h x (List.mem_cons_of_mem _ hx)
  have:=h w List.mem_cons_self
  rw [List.map_cons,List.sum_cons,List.length_cons,Nat.succ_mul]
  omega
theorem era_map {α β:Type} (f:α->β):∀ (l:List α) (i:Nat),(l.map f).eraseIdx i=(l.eraseIdx i).map f
 | [],_=>rfl
 | _ :: _,0=>rfl
 | a :: l,i+1=>congrArg (f a :: ·) (era_map f l i)
abbrev sOther:Stmt:=top 41
def spOther:Sp:=fun vs H Q _=>match vs with
 | [.ref a,.str z]=>∃ (k n:Nat) (rows:Om.Rows),Om.CodeOk k n rows/\z=showS k n rows/\Sto H a/\∀ (z':Str) H',z'.length<=900->Sto H' a->Off (At a) H H'->Q (.str z') H'
 | _=>False
theorem scOther:FnScope ["store","text","words","at","way"] ["store","text"] (defScope sOther):=⟨rfl,rfl,rfl,by decide +kernel,rfl,by decide +kernel,by decide +kernel⟩
local macro_rules | `(tactic| walk_at "T.m")=>`(tactic| first | ((with_reducible refine' m_split ?a1 ?a2);(case a1=>walk_at "T.e");(case a2=>walk_at "T.a")) | ((with_reducible refine' m_insert ?a1 ?a2);(case a1=>walk_at "T.e");(case a2=>walk_at "T.a")) | ((with_reducible refine' m_pop ?a1 ?a2);(case a1=>walk_at "T.e");(case a2=>walk_at "T.a")) | ((with_reducible refine' m_join ?a1 ?a2);(case a1=>walk_at "T.e");(case a2=>walk_at "T.a")))
theorem ok_other (D:FnX K mg "_law_otherwise" sOther ["store","text"]) (g1:mg "len" = none) (c1:Can P w K mg base "_law_take" 1 ["store","many"] spTake):Can P w K mg base "_law_otherwise" 2 ["store","text"] spOther:=by
 refine can_fn (k:=1) D scOther (fun vs H Q E h=>?_) (fun f cdv A outer s H vs Q E hr h=>?_)
 all_goals
  unfold spOther at h
  split at h
 ·rfl
 ·exact h.elim
 ·rename_i a z
  obtain ⟨k,n,rows,ok,rfl,hS,q⟩:=h
  have nd:=scOther.nd
  have sl:=show_len ok
  obtain ⟨es,l10,l3,pc⟩:=show_words ok
  refine ⟨_,(by walk_at "T.top"),?_⟩
  refine ⟨rfl,by decide +kernel,le_line (by omega),fun p1 hp1=>?_⟩
  rw [es]
  generalize wordsS k n rows=ws at *
  have k1:upd H p1 (.lst (ws.map V.str)) p1=some (.lst (ws.map V.str)):=upd_same
  have s1:=hS.new (o:=.lst (ws.map V.str)) hp1
  have o1:Off (At a) H (upd H p1 (.lst (ws.map V.str))):=(Same.upd hp1).off
  have pa:p1≠a:=hS.ne hp1
  generalize upd H p1 (.lst (ws.map V.str))=H1 at *
  dsimp only [gName]
  refine ⟨_,lenL k1,s1,by rw [List.length_map];omega,by rw [List.length_map];omega,fun r H2 r0 r1 s2 o2=>?_⟩
  rw [List.length_map] at r1
  have k2:=o2 _ _ k1 pa
  dsimp only [gName]
  refine ⟨s2,by decide,by decide,fun v H3 v0 v5 s3 o3=>?_⟩
  have k3:=o3 _ _ k2 pa
  have o03:=(o1.trans o2).trans o3
  clear s1 s2 o1 o2 o3 k1 k2
  obtain ⟨i,rfl⟩ : ∃ i:Nat,r=(i:Int):=⟨r.toNat,by omega⟩
  have hi:i < ws.length:=by omega
  have gi:(ws.map V.str)[i]? = some (.str ws[i]):=by rw [List.getElem?_map,List.getElem?_eq_getElem hi];rfl
  have pi:=pc _ (List.getElem_mem hi)
  have gw:∀ {Hx:Hp},Hx p1=some (.lst (ws.map V.str))->getV Hx (.ref p1) (i:Int)=some (.str ws[i]):=fun {Hx} hx=>gl hx (by omega) (by rw [Int.toNat_natCast];exact gi)
  have fin:∀ {Hx:Hp} (ws':List Str) (m:Nat),Hx p1=some (.lst (ws'.map V.str))->(∀ w∈ws',w.length<=m)->ws'.length * (m+1)<=900->Sto Hx a->Off (At a) H Hx->∃ ws':List Str,Hx p1=some (.lst (ws'.map V.str))/\(ws'.map (·.length)).sum+ws'.length * ((" " : Str)).length<=16777216/\Q (.str (Txt.join (" " : Str) ws')) Hx:=by
   intro Hx ws' m hx hw hl sx ox
   have h1:=sum_le hw
   have h2:ws'.length * m<=ws'.length * (m+1):=Nat.mul_le_mul_left _ (by omega)
   have h3:ws'.length * 1<=ws'.length * (m+1):=Nat.mul_le_mul_left _ (by omega)
   have e1:((" " : Str)).length=1:=by decide +kernel
   refine ⟨ws',hx,by rw [e1];omega,q _ _ ?_ sx ox⟩
   rw [blank_ch]
   have:=join_le 32 m ws' hw
   omega
  have hw72:∀ w∈ws,w.length<=72:=fun w hw=>(pc w hw).len
  have setw:∀ (y:Str),y.length<=81->(∀ w∈ws.set i y,w.length<=81):=fun y hy w hw=>by
   rcases List.mem_or_eq_of_mem_set hw with h | rfl
   ·have:=hw72 w h;omega
   ·exact hy
  have upw:∀ {Hx:Hp} {o:HO},Sto Hx a->Off (At a) H Hx->Sto (upd Hx p1 o) a/\Off (At a) H (upd Hx p1 o):=fun {Hx o} sx ox=>⟨sx.own pa,ox.upd_own hp1⟩
  have cv:v=0\/v=1\/v=2\/v=3\/v=4:=by omega
  dsimp only [gName,tSeq,tIfS,tBU,tOp,tV,tC,rEqU,tNext]
  rcases cv with rfl | rfl | rfl | rfl | rfl
  ·refine iteP (by simp) ?_
   refine ⟨⟨_,rfl,k3⟩,_,_,k3,by omega,by omega,by rw [Int.toNat_natCast];exact gi,?_⟩
   try dsimp only [gName,tSeq,tIfS,tBU,tOp,tV,tC,rEqU,tNext]
   refine if_negP (by simp) ?_
   try dsimp only [gName,tSeq,tIfS,tBU,tOp,tV,tC,rEqU,tNext]
   refine if_negP (by simp) ?_
   try dsimp only [gName,tSeq,tIfS,tBU,tOp,tV,tC,rEqU,tNext]
   refine if_negP (by simp) ?_
   try dsimp only [gName,tSeq,tIfS,tBU,tOp,tV,tC,rEqU,tNext]
   refine if_negP (by simp) ?_
   obtain ⟨sx,ox⟩:=upw (o:=.lst ((ws.map V.str).eraseIdx ((i:Nat):Int).toNat)) s3 o03
   refine ⟨rfl,fin (ws.eraseIdx i) 72 (by rw [upd_same,Int.toNat_natCast,era_map]) (fun w hw=>hw72 w (List.mem_of_mem_eraseIdx hw)) ?_ sx ox⟩
   have:=List.length_eraseIdx_le ws i
   omega
  ·refine if_negP (by simp) (iteP (by simp) ?_)
   refine ⟨⟨_,rfl,k3⟩,_,gw k3,_,k3,by omega,by omega,lt_line (by rw [List.length_map];omega),?_⟩
   try dsimp only [gName,tSeq,tIfS,tBU,tOp,tV,tC,rEqU,tNext]
   refine if_negP (by simp) ?_
   try dsimp only [gName,tSeq,tIfS,tBU,tOp,tV,tC,rEqU,tNext]
   refine if_negP (by simp) ?_
   try dsimp only [gName,tSeq,tIfS,tBU,tOp,tV,tC,rEqU,tNext]
   refine if_negP (by simp) ?_
   obtain ⟨sx,ox⟩:=upw (o:=.lst ((ws.map V.str).take ((i:Nat):Int).toNat++.str ws[i] :: (ws.map V.str).drop ((i:Nat):Int).toNat)) s3 o03
   refine ⟨rfl,fin (ws.take i++ws[i] :: ws.drop i) 72 (by rw [upd_same,Int.toNat_natCast,List.map_append,List.map_cons,List.map_take,List.map_drop]) (fun w hw=>?_) ?_ sx ox⟩
   ·rcases List.mem_append.mp hw with h | h
    ·exact hw72 w (List.mem_of_mem_take h)
    ·rcases List.mem_cons.mp h with rfl | h
     ·exact pi.len
     ·exact hw72 w (List.mem_of_mem_drop h)
   ·rw [List.length_append,List.length_cons,List.length_take,List.length_drop]
    omega
  ·refine if_negP (by simp) (if_negP (by simp) (iteP (by simp) ?_))
   have c1:=(spC_len ws[i]).1
   have c0:0 < (spC ws[i]).length:=List.length_pos_iff.mpr c1
   have ec:(("," : Str)).length=1:=by decide +kernel
   have l72:=pi.len
   refine ⟨_,gw k3,by rw [ec];exact le_line (by omega),_,gw k3,rfl,by decide +kernel,le_line (by omega),fun p hp=>?_⟩
   rw [show Txt.split ws[i] ("," : Str)=spC ws[i] from rfl]
   have k4:upd H3 p (.lst ((spC ws[i]).map V.str)) p=some (.lst ((spC ws[i]).map V.str)):=upd_same
   have w4:=Same.upd (o:=.lst ((spC ws[i]).map V.str)) hp
   have s4:=s3.new (o:=.lst ((spC ws[i]).map V.str)) hp
   have o4:Off (At a) H (upd H3 p (.lst ((spC ws[i]).map V.str))):=o03.trans w4.off
   have k34:=w4 _ _ k3
   generalize upd H3 p (.lst ((spC ws[i]).map V.str))=H4 at k4 w4 s4 o4 k34 ⊢
   have g0:((spC ws[i]).map V.str)[0]? = some (.str (spC ws[i])[0]):=by rw [List.getElem?_map,List.getElem?_eq_getElem c0];rfl
   have p0:=pi.pcs _ (List.getElem_mem c0)
   have ly:(ws[i]++("," : Str)++(spC ws[i])[0]).length<=81:=by rw [app_len,app_len,ec];omega
   refine ⟨_,gl k4 (by decide) g0,by rw [app_len,ec];exact le_line (by omega),_,i,k34,ixN_nat (by rw [List.length_map];exact hi),?_⟩
   try dsimp only [gName,tSeq,tIfS,tBU,tOp,tV,tC,rEqU,tNext]
   refine if_negP (by simp) ?_
   try dsimp only [gName,tSeq,tIfS,tBU,tOp,tV,tC,rEqU,tNext]
   refine if_negP (by simp) ?_
   obtain ⟨sx,ox⟩:=upw (o:=.lst ((ws.map V.str).set i (.str (ws[i]++("," : Str)++(spC ws[i])[0])))) s4 o4
   refine ⟨rfl,fin (ws.set i (ws[i]++("," : Str)++(spC ws[i])[0])) 81 (by rw [upd_same,List.map_set]) (setw _ ly) (by rw [List.length_set];omega) sx ox⟩
  ·refine if_negP (by simp) (if_negP (by simp) (if_negP (by simp) (iteP (by simp) ?_)))
   have l72:=pi.len
   refine ⟨rfl,_,gw k3,rfl,by decide +kernel,le_line (by omega),fun p hp=>?_⟩
   rw [show Txt.split ws[i] ("," : Str)=spC ws[i] from rfl]
   have k4:upd H3 p (.lst ((spC ws[i]).map V.str)) p=some (.lst ((spC ws[i]).map V.str)):=upd_same
   have w4:=Same.upd (o:=.lst ((spC ws[i]).map V.str)) hp
   have s4:=s3.new (o:=.lst ((spC ws[i]).map V.str)) hp
   have o4:Off (At a) H (upd H3 p (.lst ((spC ws[i]).map V.str))):=o03.trans w4.off
   have k34:=w4 _ _ k3
   generalize upd H3 p (.lst ((spC ws[i]).map V.str))=H4 at k4 w4 s4 o4 k34 ⊢
   refine ⟨_,k4,fun p5 hp5=>?_⟩
   rw [show cutV ((spC ws[i]).map V.str) (some 1) none=((spC ws[i]).drop 1).map V.str by rw [List.map_drop];exact cut_ge _ 1]
   have k5:upd H4 p5 (.lst (((spC ws[i]).drop 1).map V.str)) p5=some (.lst (((spC ws[i]).drop 1).map V.str)):=upd_same
   have w5:=Same.upd (o:=.lst (((spC ws[i]).drop 1).map V.str)) hp5
   have s5:=s4.new (o:=.lst (((spC ws[i]).drop 1).map V.str)) hp5
   have o5:Off (At a) H (upd H4 p5 (.lst (((spC ws[i]).drop 1).map V.str))):=o4.trans w5.off
   have k35:=w5 _ _ k34
   generalize upd H4 p5 (.lst (((spC ws[i]).drop 1).map V.str))=H5 at k5 w5 s5 o5 k35 ⊢
   have hd8:∀ x∈(spC ws[i]).drop 1,x.length<=8:=fun x hx=>pi.pcs x (List.mem_of_mem_drop hx)
   have dc:((spC ws[i]).drop 1).length<=8:=by rw [List.length_drop];have:=pi.cnt;omega
   have sm:=sum_le hd8
   have jl:=join_le 44 8 _ hd8
   rw [<-comma_ch] at jl
   have ec:(("," : Str)).length=1:=by decide +kernel
   refine ⟨(spC ws[i]).drop 1,k5,by rw [ec];omega,_,i,k35,ixN_nat (by rw [List.length_map];exact hi),?_⟩
   have ly:(Txt.join ("," : Str) ((spC ws[i]).drop 1)).length<=81:=by omega
   try dsimp only [gName,tSeq,tIfS,tBU,tOp,tV,tC,rEqU,tNext]
   refine if_negP (by simp) ?_
   obtain ⟨sx,ox⟩:=upw (o:=.lst ((ws.map V.str).set i (.str (Txt.join ("," : Str) ((spC ws[i]).drop 1))))) s5 o5
   refine ⟨rfl,fin (ws.set i (Txt.join ("," : Str) ((spC ws[i]).drop 1))) 81 (by rw [upd_same,List.map_set]) (setw _ ly) (by rw [List.length_set];omega) sx ox⟩
  ·refine if_negP (by simp) (if_negP (by simp) (if_negP (by simp) (if_negP (by simp) (iteP (by simp) ?_))))
   have l72:=pi.len
   have lsl:=Txt.slice_le ws[i] none (some (-1))
   refine ⟨_,gw k3,le_line (by omega),s3,by decide,by decide,fun r2 H4 r20 r21 s4 o4=>?_⟩
   obtain ⟨c,hc⟩:=str_at (H:=H4) (z:= "0123456789") r20 (by rw [show (("0123456789" : Str)).length=10 by decide +kernel];exact r21) (by rw [show (("0123456789" : Str)).length=10 by decide +kernel];decide)
   have k34:=o4 _ _ k3 pa
   have lc:((⟨#[c]⟩ : Str)).length=1:=rfl
   refine ⟨_,hc,by rw [lc];exact le_line (by omega),_,i,k34,ixN_nat (by rw [List.length_map];exact hi),?_⟩
   have ly:(Txt.slice ws[i] none (some (-1))++(⟨#[c]⟩ : Str)).length<=81:=by rw [app_len,lc];omega
   obtain ⟨sx,ox⟩:=upw (o:=.lst ((ws.map V.str).set i (.str (Txt.slice ws[i] none (some (-1))++(⟨#[c]⟩ : Str))))) s4 (o03.trans o4)
   refine ⟨rfl,fin (ws.set i (Txt.slice ws[i] none (some (-1))++(⟨#[c]⟩ : Str))) 81 (by rw [upd_same,List.map_set]) (setw _ ly) (by rw [List.length_set];omega) sx ox⟩
 ·exact h.elim
end
end K62
end
section
namespace K62
open PySem L2
section
variable {P:Program} {w:World} {K:PySem.W.Frag} {mg:Str->Option Value} {base:Heap}
theorem seq_nx {t u:TS} {D:Ends} {σ:St} {H:Hp} (M:St->Hp->Prop) (h1:∀ σ' H',M σ' H'->u D σ' H') (h2:∀ nx:St->Hp->Prop,(∀ σ' H',M σ' H'->nx σ' H')->t { D with nx:=nx } σ H):tSeq t u D σ H:=h2 (u D) h1
theorem sqlO {K:PySem.W.Frag} {H H':Hp} {sc a:Addr} {xs:List V} (h:SqL K H sc xs) (ha:H a=none) (o:Off (At a) H H'):SqL K H' sc xs:=by
 rcases h with h | h
 ·refine .inl ?_
  have ne:sc≠a:=fun z=>by
   subst z
   rcases h with e | ⟨x,e⟩
   ·rw [ha] at e;cases e
   ·rw [ha] at e;cases e
  rcases h with e | ⟨x,e⟩
  ·exact .inl (o _ _ e ne)
  ·exact .inr ⟨x,o _ _ e ne⟩
 ·exact .inr h
theorem codeT_okD {z:Str} (hz:z.length<=900):okD 5 (codeT (spB z))=true:=by
 obtain ⟨h1,h2,h3⟩:=spB_len z
 unfold codeT
 rw [okD,Bool.and_eq_true,decide_eq_true_eq,List.all_eq_true]
 refine ⟨by rw [List.length_append,List.length_map,List.length_take];simp;omega,fun d hd=>?_⟩
 rcases List.mem_append.mp hd with hd | hd
 ·obtain ⟨p,hp,rfl⟩:=List.mem_map.mp hd
  rfl
 rw [List.mem_singleton.mp hd,okD,Bool.and_eq_true,decide_eq_true_eq,List.all_eq_true]
 refine ⟨by rw [List.length_map,List.length_drop];omega,fun d hd=>?_⟩
 obtain ⟨p,hp,rfl⟩:=List.mem_map.mp hd
 have lp:=h2 p (List.mem_of_mem_drop hp)
 obtain ⟨c1,c2,c3⟩:=spC_len p
 unfold stateT
 rw [okD,Bool.and_eq_true,decide_eq_true_eq,List.all_eq_true]
 refine ⟨by rw [List.length_map];omega,fun d hd=>?_⟩
 obtain ⟨r,hr,rfl⟩:=List.mem_map.mp hd
 have lr:=c2 r hr
 obtain ⟨g1,g2,g3⟩:=spG_len r
 unfold rowT
 rw [okD,Bool.and_eq_true,decide_eq_true_eq,List.all_eq_true]
 refine ⟨by rw [List.length_append,List.length_map,List.length_dropLast];simp;omega,fun d hd=>?_⟩
 rcases List.mem_append.mp hd with hd | hd
 ·obtain ⟨q,hq,rfl⟩:=List.mem_map.mp hd
  rfl
 ·rw [List.mem_singleton.mp hd];rfl
abbrev sLaw:Stmt:=top 43
def spLaw (K:PySem.W.Frag):Sp:=fun vs H Q _=>match vs with
 | [.ref a]=>∃ ns:List Int,SqL K H a (ns.map V.int)/\ns.length<=63/\∀ H',Q (.bl true) H'
 | _=>False
theorem scLaw:FnScope ["script","at","store","text","kind","due","things"] ["script"] (defScope sLaw):=⟨rfl,rfl,rfl,by decide +kernel,rfl,by decide +kernel,by decide +kernel⟩
local macro_rules | `(tactic| walk_at "T.b")=>`(tactic| first | ((with_reducible refine' fn_lenS ?a0 ?a9 ?a1);(case a0=>with_reducible assumption);(case a9=>rfl);(case a1=>walk_at "T.a")) | ((with_reducible refine' fn_canY0 "read_code" ?a0 ?a9 ?a1 ?a2);(case a0=>with_reducible assumption);(case a9=>exact ⟨rfl,rfl,rfl,rfl,rfl⟩);(case a1=>exact Room.mono (by assumption) (by first | decide | exact Nat.le_refl _));(case a2=>walk_at "T.a")))
local macro_rules | `(tactic| walk_at "T.ty")=>`(tactic| (with_reducible exact e_dict))
theorem ok_law {f:Addr} {fd:FuncData} {C0:Addr} (D:Fun K "law" "law" sLaw f fd) (g1:mg "range" = none) (g2:mg "len" = none) (g3:mg "min" = none) (g4:mg "max" = none)
  (c1:Can P w K mg base "_law_cell" 1 ["script","k"] (spCell K)) (c2:Can P w K mg base "_law_store" 1 ["cell"] spStore) (c3:Can P w K mg base "_law_code" 3 ["store","most"] spCodeS) (c4:Can P w K mg base "_law_text_of" 1 ["code"] spShow) (c5:Can P w K mg base "_law_take" 1 ["store","many"] spTake)
  (c6:Can P w K mg base "_law_spoilt" 2 ["store","text"] spSpoilt) (c7:Can P w K mg base "_law_odd" 1 ["at"] spOdd) (c8:Can P w K mg base "_law_otherwise" 2 ["store","text"] spOther) (c9:Can P w K mg base "_law_read" 2 ["text"] spLR) (c10:Can P w K mg base "_law_refused" 7 ["thing"] spRefd) (c11:CanY P w K mg base "read_code" 6 ["text"] (spRC C0)) (c12:Can P w K mg base "_law_same" 5 ["found","due"] (spSameD 5)):FnOk P w K mg base CX0 8 f fd ["script"] (spLaw K):=by
 refine D.ok (k:=7) scLaw (fun vs H Q E h=>?_) (fun cdv A outer s H vs Q E hr h=>?_)
 all_goals
  unfold spLaw at h
  split at h
 ·rfl
 ·exact h.elim
 ·rename_i sc
  obtain ⟨ns,hS,hl,q⟩:=h
  have nd:=scLaw.nd
  refine ⟨_,(by walk_at "T.top"),?_⟩
  refine ⟨_,hS,?_⟩
  have b20:∀ m:Int,(if (20:Int) < m then (20:Int) else m)<=20:=fun m=>by split<;>omega
  refine ⟨by split<;>split<;>omega,by split<;>split<;>omega,for_by (it_range 0 _) (fun i σ H2=>∃ (v1 v2 v3 v4 v5 v6:Option V),σ=[some (.ref sc),v1,v2,v3,v4,v5,v6]/\SqL K H2 sc (ns.map V.int))
   ⟨none,none,none,none,none,none,rfl,hS⟩ (fun _ _ _ _ _=>trivial) ?_ ?_⟩
  ·rintro i x σ H0 hi hx ⟨v1,v2,v3,v4,v5,v6,rfl,hS0⟩
   rw [List.length_map,List.length_range] at hi
   have ez:x = .int (i:Nat):=by
    rw [List.getElem?_map,List.getElem?_range hi] at hx
    have:=(Option.some.inj hx).symm
    rw [this];simp
   subst ez
   have hi20:i < 20:=by
    have:=b20 (if (3:Int) > (((ns.map V.int).length:Nat):Int) then 3 else (((ns.map V.int).length:Nat):Int))
    omega
   refine ⟨ns,hS0,by omega,by omega,fun c=>?_⟩
   intro a g b ha
   refine ⟨⟨_,_,_,upd_same⟩,by decide,by decide,fun cv k n rows G H1 ok rl dv M1=>?_⟩
   have o1:Off (At a) H0 H1:=((Same.upd ha).off).trans M1.o
   refine ⟨k,n,rows,dv.mono M1.s,ok,fun H2 s2=>?_⟩
   have o2:=o1.trans s2.off
   have st2:=M1.st.same s2
   dsimp only [gName]
   refine ⟨st2,by decide,by decide,fun kd H3 k0 k6 st3 o3=>?_⟩
   have o03:=o2.trans o3
   have sl:=show_len ok
   clear o1 o2 o3 s2 st2 M1 dv
   dsimp only [gName]
   refine seq_nx (fun σ H4=>∃ y:Str,σ=[some (.ref sc),some (.int (i:Nat)),some (.ref a),some (.str y),some (.int kd),v5,v6]/\Sto H4 a/\Off (At a) H0 H4/\((kd < 3/\y.length<=900)\/(3<=kd/\y=showS k n rows))) ?_ (fun nx fin=>?_)
   rotate_left
   ·dsimp only [tIfS,tBU,tOp,tV,tC,tNext]
    refine ite2 (fun z=>?_) (fun z=>?_)
    ·refine ⟨st3,by omega,fun z' H4 lz st4 o4=>?_⟩
     exact fin _ _ ⟨z',rfl,st4,o03.trans o4,.inl ⟨of_decide_eq_true z,by omega⟩⟩
    ·exact fin _ _ ⟨_,rfl,st3,o03,.inr ⟨by have:¬ kd < 3:=fun y=>z (decide_eq_true y);omega,rfl⟩⟩
   rintro σ H4 ⟨y,rfl,st4,o4,hy⟩
   refine seq_nx (fun σ H4=>∃ y:Str,σ=[some (.ref sc),some (.int (i:Nat)),some (.ref a),some (.str y),some (.int kd),v5,v6]/\Sto H4 a/\Off (At a) H0 H4/\((kd < 4/\y.length<=900)\/(4<=kd/\y=showS k n rows))) ?_ (fun nx fin=>?_)
   rotate_left
   ·dsimp only [tIfS,tBU,tOp,tV,tC,tNext,rEqU]
    refine ite2 (fun z=>?_) (fun z=>?_)
    ·have z:kd=3:=of_decide_eq_true z
     refine ⟨st4,by decide,by decide,fun r H5 r0 r40 st5 o5=>?_⟩
     refine ⟨r0,r40,fun z' H6 s6 lz=>?_⟩
     exact fin _ _ ⟨z',rfl,st5.same s6,(o4.trans o5).trans s6.off,.inl ⟨by omega,by omega⟩⟩
    ·have z:¬ kd=3:=fun y=>z (decide_eq_true y)
     refine fin _ _ ⟨_,rfl,st4,o4,?_⟩
     rcases hy with ⟨h1,h2⟩ | ⟨h1,h2⟩
     ·exact .inl ⟨by omega,h2⟩
     ·exact .inr ⟨by omega,h2⟩
   clear hy st4 o4
   rintro σ H4 ⟨y,rfl,st4,o4,hy⟩
   refine seq_nx (fun σ H4=>∃ y:Str,σ=[some (.ref sc),some (.int (i:Nat)),some (.ref a),some (.str y),some (.int kd),v5,v6]/\Sto H4 a/\Off (At a) H0 H4/\y.length<=900) ?_ (fun nx fin=>?_)
   rotate_left
   ·dsimp only [tIfS,tBU,tOp,tV,tC,tNext,rEqU]
    refine ite2 (fun z=>?_) (fun z=>?_)
    ·have z:kd=4:=of_decide_eq_true z
     have hy:y=showS k n rows:=by
      rcases hy with ⟨h1,_⟩ | ⟨_,h2⟩
      ·omega
      ·exact h2
     refine ⟨k,n,rows,ok,hy,st4,fun z' H5 lz st5 o5=>?_⟩
     exact fin _ _ ⟨z',rfl,st5,o4.trans o5,lz⟩
    ·refine fin _ _ ⟨_,rfl,st4,o4,?_⟩
     rcases hy with ⟨_,h2⟩ | ⟨_,h2⟩
     ·exact h2
     ·rw [h2];omega
   clear hy st4 o4
   rintro σ H4 ⟨y,rfl,st4,o4,hy⟩
   refine seq_nx (fun σ H5=>∃ v:V,σ=[some (.ref sc),some (.int (i:Nat)),some (.ref a),some (.str y),some (.int kd),some v,v6]/\Sto H5 a/\Off (At a) H0 H5/\((Om.codeOk (codeT (spB y))=false/\v = .non)\/(Om.codeOk (codeT (spB y))=true/\∃ l,v = .ref l/\DV H5 v (codeT (spB y))))) ?_ (fun nx fin=>?_)
   rotate_left
   ·refine ⟨hy,fun co H5 s5=>?_,fun co l H5 s5 dv=>?_⟩
    ·exact fin _ _ ⟨_,rfl,st4.same s5,o4.trans s5.off,.inl ⟨co,rfl⟩⟩
    ·exact fin _ _ ⟨_,rfl,st4.same s5,o4.trans s5.off,.inr ⟨co,l,rfl,dv⟩⟩
   clear st4 o4
   rintro σ H5 ⟨v,rfl,st5,o5,hv⟩
   refine seq_nx (fun σ H6=>σ=[some (.ref sc),some (.int (i:Nat)),some (.ref a),some (.str y),some (.int kd),some v,v6]/\Sto H6 a/\Off (At a) H0 H6) ?_ (fun nx fin=>?_)
   rotate_left
   ·dsimp only [tIfS,tOr,tAnd,tBU,tOp,tV,tC,tNext,rIsU,rIsNotU]
    rcases hv with ⟨co,rfl⟩ | ⟨co,l,rfl,dv⟩
    ·refine iteP (by simp) ?_
     refine ⟨hy,fun H6 s6=>?_⟩
     rw [co]
     refine if_negP (by simp) ?_
     refine if_negP (by simp) ?_
     refine if_negP (by simp) ?_
     exact fin _ _ ⟨rfl,st5.same s6,o5.trans s6.off⟩
    ·refine if_negP (by simp) ?_
     refine if_negP (by simp) ?_
     refine iteP (by simp) ?_
     refine ⟨hy,(fun e=>by rw [co] at e;cases e),fun _ v' H6 s6 dv'=>?_⟩
     refine ⟨_,dv',dv.mono s6,codeT_okD hy,fun H7 s7=>?_⟩
     refine if_negP (by simp) ?_
     exact fin _ _ ⟨rfl,st5.same (s6.trans s7),o5.trans (s6.trans s7).off⟩
   clear hv st5 o5
   rintro σ H6 ⟨rfl,st6,o6⟩
   refine ⟨le_line (Nat.le_of_ble_eq_true rfl),fun p1 hp1=>?_⟩
   have w0:=Same.upd (o:=.tup [.str ("1 1 0>0,1>0" : Str)]) hp1
   have kp1:upd H6 p1 (.tup [.str ("1 1 0>0,1>0" : Str)]) p1=some (.tup [.str ("1 1 0>0,1>0" : Str)]):=upd_same
   generalize upd H6 p1 (.tup [.str ("1 1 0>0,1>0" : Str)])=H60 at w0 kp1 ⊢
   refine ⟨le_line (Nat.le_of_ble_eq_true rfl),fun p2 hp2=>?_⟩
   have w1:=Same.upd (o:=.lst [.str ("1" : Str)]) hp2
   have kp2:upd H60 p2 (.lst [.str ("1" : Str)]) p2=some (.lst [.str ("1" : Str)]):=upd_same
   generalize upd H60 p2 (.lst [.str ("1" : Str)])=H61 at w1 kp2 ⊢
   intro d hd
   have w2:=Same.upd (o:=.dK []) hd
   have kd_:upd H61 d (.dK []) d=some (.dK []):=upd_same
   generalize upd H61 d (.dK [])=H62 at w2 kd_ ⊢
   refine ⟨le_line (Nat.le_of_ble_eq_true rfl),fun q1 hq1=>?_⟩
   have w3:=Same.upd (o:=.tup [.str ("0" : Str),.int 0]) hq1
   have kq1:upd H62 q1 (.tup [.str ("0" : Str),.int 0]) q1=some (.tup [.str ("0" : Str),.int 0]):=upd_same
   generalize upd H62 q1 (.tup [.str ("0" : Str),.int 0])=H63 at w3 kq1 ⊢
   refine ⟨le_line (Nat.le_of_ble_eq_true rfl),fun q2 hq2=>?_⟩
   have w4:=Same.upd (o:=.tup [.str ("1" : Str),.int 0]) hq2
   have kq2:upd H63 q2 (.tup [.str ("1" : Str),.int 0]) q2=some (.tup [.str ("1" : Str),.int 0]):=upd_same
   generalize upd H63 q2 (.tup [.str ("1" : Str),.int 0])=H64 at w4 kq2 ⊢
   refine ⟨le_line (Nat.le_of_ble_eq_true rfl),fun q3 hq3=>?_⟩
   have w5:=Same.upd (o:=.lst [.ref q1,.ref q2]) hq3
   have kq3:upd H64 q3 (.lst [.ref q1,.ref q2]) q3=some (.lst [.ref q1,.ref q2]):=upd_same
   generalize upd H64 q3 (.lst [.ref q1,.ref q2])=H65 at w5 kq3 ⊢
   refine ⟨le_line (Nat.le_of_ble_eq_true rfl),fun q4 hq4=>?_⟩
   have w6:=Same.upd (o:=.lst [.ref q3]) hq4
   have kq4:upd H65 q4 (.lst [.ref q3]) q4=some (.lst [.ref q3]):=upd_same
   generalize upd H65 q4 (.lst [.ref q3])=H66 at w6 kq4 ⊢
   refine ⟨le_line (Nat.le_of_ble_eq_true rfl),fun q5 hq5=>?_⟩
   have w7:=Same.upd (o:=.tup [.int 1,.int 1,.ref q4]) hq5
   have kq5:upd H66 q5 (.tup [.int 1,.int 1,.ref q4]) q5=some (.tup [.int 1,.int 1,.ref q4]):=upd_same
   generalize upd H66 q5 (.tup [.int 1,.int 1,.ref q4])=H67 at w7 kq5 ⊢
   refine ⟨le_line (Nat.le_of_ble_eq_true rfl),fun T hT=>?_⟩
   have w8:=Same.upd (o:=.lst [.non,.int 0,.int 1,.bl true,.ref p1,.ref p2,.ref d,.ref q5]) hT
   have kT:upd H67 T (.lst [.non,.int 0,.int 1,.bl true,.ref p1,.ref p2,.ref d,.ref q5]) T=some (.lst [.non,.int 0,.int 1,.bl true,.ref p1,.ref p2,.ref d,.ref q5]):=upd_same
   generalize upd H67 T (.lst [.non,.int 0,.int 1,.bl true,.ref p1,.ref p2,.ref d,.ref q5])=H68 at w8 kT ⊢
   have kp1':=(((((((w1.trans w2).trans w3).trans w4).trans w5).trans w6).trans w7).trans w8) _ _ kp1
   have kp2':=((((((w2.trans w3).trans w4).trans w5).trans w6).trans w7).trans w8) _ _ kp2
   have kd':=(((((w3.trans w4).trans w5).trans w6).trans w7).trans w8) _ _ kd_
   have kq5':=w8 _ _ kq5
   have ww:=((((((((w0.trans w1).trans w2).trans w3).trans w4).trans w5).trans w6).trans w7).trans w8)
   have st7:=st6.same ww
   have o7:=o6.trans ww.off
   have na:∀ {x:Addr} {u:HO},H68 x=some u->(∀ g b c:Int,u≠.lst [.int g,.int b,.int c])->x≠a:=fun {x u} e n z=>by
    obtain ⟨g,b,c,e'⟩:=st7
    rw [z,e'] at e
    exact n g b c (Option.some.inj e).symm
   have n1:=na kp1' (fun _ _ _ z=>nomatch z)
   have n2:=na kp2' (fun _ _ _ z=>nomatch z)
   have n3:=na kd' (fun _ _ _ z=>nomatch z)
   have n5:=na kq5' (fun _ _ _ z=>nomatch z)
   have nT:=na kT (fun _ _ _ z=>nomatch z)
   dsimp only [gName]
   refine ⟨st7,by decide,by decide,fun r H8 r0 r8 st8 o8=>?_⟩
   have kT8:=o8 _ _ kT nT
   have done:∀ H9,Same H8 H9->∃ (v1 v2 v3 v4 v5 v6:Option V),[some (V.ref sc),some (.int (i:Nat)),some (.ref a),some (.str y),some (.int kd),some v,some (.ref T)]=[some (.ref sc),v1,v2,v3,v4,v5,v6]/\SqL K H9 sc (ns.map V.int):=fun H9 s9=>⟨_,_,_,_,_,_,rfl,sqlO hS0 ha ((o7.trans o8).trans s9.off)⟩
   have c8:r=0\/r=1\/r=2\/r=3\/r=4\/r=5\/r=6\/r=7:=by omega
   rcases c8 with rfl | rfl | rfl | rfl | rfl | rfl | rfl | rfl
   ·exact ⟨.non,gl kT8 (by decide) rfl,"NoneType",rfl,by decide,fun H9 s9=>if_negP (by simp) (done H9 s9)⟩
   ·exact ⟨.int 0,gl kT8 (by decide) rfl,"int",rfl,by decide,fun H9 s9=>if_negP (by simp) (done H9 s9)⟩
   ·exact ⟨.int 1,gl kT8 (by decide) rfl,"int",rfl,by decide,fun H9 s9=>if_negP (by simp) (done H9 s9)⟩
   ·exact ⟨.bl true,gl kT8 (by decide) rfl,"bool",rfl,by decide,fun H9 s9=>if_negP (by simp) (done H9 s9)⟩
   ·exact ⟨.ref p1,gl kT8 (by decide) rfl,"tuple",by simp [tyN,o8 _ _ kp1' n1],by decide,fun H9 s9=>if_negP (by simp) (done H9 s9)⟩
   ·exact ⟨.ref p2,gl kT8 (by decide) rfl,"list",by simp [tyN,o8 _ _ kp2' n2],by decide,fun H9 s9=>if_negP (by simp) (done H9 s9)⟩
   ·exact ⟨.ref d,gl kT8 (by decide) rfl,"dict",by simp [tyN,o8 _ _ kd' n3],by decide,fun H9 s9=>if_negP (by simp) (done H9 s9)⟩
   ·exact ⟨.ref q5,gl kT8 (by decide) rfl,"tuple",by simp [tyN,o8 _ _ kq5' n5],by decide,fun H9 s9=>if_negP (by simp) (done H9 s9)⟩
  ·rintro σ H2 ⟨v1,v2,v3,v4,v5,v6,rfl,hS2⟩
   exact q _
 ·exact h.elim
end
end K62
end
section
namespace K62
open PySem L2
section
def keysStr (es:Array DictEntry):Bool:=es.all fun e=>match e.key with | .str _ _=>true | _=>false
theorem keysStr_of {es:Array DictEntry} (h:keysStr es=true):StrKeys es:=fun e he=>by
 have:=(Array.all_eq_true_iff_forall_mem.mp h) e he
 split at this
 ·rename_i n t z;exact ⟨n,t,z⟩
 ·cases this
open PySem.W in
theorem exn_mk {K:PySem.W.Frag} {C:Addr} {nm q:Str} {N B:Addr} {bs:List Value} {hdct:Bool} {sn:List Str} {sub:List Value} {ab:Bool} {col:Option Bool} {dd:Option Addr} {k0 k1 k2 k3 k5:Option Value}
  {c1:Value} {d1:Option Addr} {es:Array DictEntry} {ep:Nat} {sl1:Array (Option Value)} {cB:Value} {ddB:Option Addr} {slB:Array (Option Value)} {nmB qB:Str} {bsB mroB subB:List Value} {NB:Addr} {hdB abB delB:Bool} {snB:List Str} {colB:Option Bool}
  {c2:Value} {d2:Option Addr} {esB:Array DictEntry} {epB:Nat} {sl2:Array (Option Value)}
  (hC:K.lookup C=some (excClassObj nm q C N bs (.ref B :: PySem.W.veM) hdct sn sub ab col dd k0 k1 k2 k3 k5 "ValueError.__new__")) (hN:K.lookup N=some ⟨c1,d1,.dict es ep,sl1⟩) (sN:keysStr es=true) (nN:(nsFind es "__init__").isNone=true)
  (hB:K.lookup B=some ⟨cB,ddB,.cls ⟨nmB,bsB,mroB,NB,qB,hdB,snB,subB,abB,colB,delB⟩,slB⟩) (hNB:K.lookup NB=some ⟨c2,d2,.dict esB epB,sl2⟩) (sB:keysStr esB=true) (nB:(nsFind esB "__init__").isNone=true):ExnOk K C:=by
 refine ⟨nm,q,N,bs,.ref B :: PySem.W.veM,hdct,sn,sub,ab,col,dd,k0,k1,k2,k3,k5,nsFind es,Option.isNone_iff_eq_none.mp nN,fun h X=>⟨X _ _ hC,⟨_,es,ep,X _ _ hN,rfl,keysStr_of sN,fun _=>rfl⟩,?_⟩⟩
 exact .own (X _ _ hB) ⟨_,esB,epB,X _ _ hNB,rfl,keysStr_of sB,fun _=>rfl⟩ (Option.isNone_iff_eq_none.mp nB) .base
def Cl0 (K:PySem.W.Frag) (C:Addr) (x:Str) (b:Bool):Prop:=∃ D,PySem.W.nsIn K mainGlobals x=some (some (.ref D))/\PySem.W.kitOne K (.ref C) (.ref D)=some b
theorem cl0_mk {K:PySem.W.Frag} {C D:Addr} {x:Str} {b:Bool} (h:PySem.W.nsIn K mainGlobals x=some (some (.ref D))) (e:PySem.W.kitOne K (.ref C) (.ref D)=some b):Cl0 K C x b:=⟨D,h,e⟩
theorem cl0_of {K:PySem.W.Frag} {h:Heap} {mg:Str->Option Value} {C:Addr} {x:Str} {b:Bool} (X:K.In h) (G:h.Ns mainGlobals mg) (z:Cl0 K C x b):Cl K mg C x b:=let ⟨D,h1,e⟩:=z;⟨D,PySem.W.mg_of X G h1,e⟩
theorem xcls_mk {K:PySem.W.Frag} {C:Addr} (a1:PySem.W.findIn K (.ref C) "__getattribute__" = some (some (.builtin "BaseException.__getattribute__"))) (a2:PySem.W.findIn K (.ref C) "__getattr__" = some none) (a3:PySem.W.mroIn K C (.type "BaseException")=some true)
  (b:(PySem.W.clsIn K C).isSome=true) (c:PySem.W.findIn K (.ref C) "__class__" = some (some (.builtin "object.__class__")))
  (d:PySem.W.specialIn K (.builtin "object.__class__") "__get__" = some (some (.builtin "getset_descriptor.__get__"))) (e:PySem.W.takesIn K (.builtin "object.__class__")=some true) (f:PySem.W.mroIn K C (.type "object")=some true):PySem.W.ExCls K C:=⟨a1,a2,a3,b,c,d,e,f⟩
end
end K62
end
section
namespace K62
open PySem L2
theorem fnX_1 {K:PySem.W.Frag} {h:Heap} {mg:Str->Option Value} {x:Str} {st:Stmt} {p0:Str} (D:DefIn K x st) (X:K.In h) (G:h.Ns mainGlobals mg)
  (hb:∀ (kV doc pm:Value) (an:Option Addr) (cdv ct:Value) (a0:Value),bindArgs (PySem.W.fnOf x x (defArgs st) (defBody st) (defScope st) .none kV doc pm an cdv ct) ⟨[a0],[]⟩=pure ([p0].zip [a0])):FnX K mg x st [p0]:=
 D.fnX X G fun kV doc pm an cdv ct us hl=>match us,hl with
  | [a0],_=>hb kV doc pm an cdv ct a0
theorem fnX_2 {K:PySem.W.Frag} {h:Heap} {mg:Str->Option Value} {x:Str} {st:Stmt} {p0 p1:Str} (D:DefIn K x st) (X:K.In h) (G:h.Ns mainGlobals mg)
  (hb:∀ (kV doc pm:Value) (an:Option Addr) (cdv ct:Value) (a0 a1:Value),bindArgs (PySem.W.fnOf x x (defArgs st) (defBody st) (defScope st) .none kV doc pm an cdv ct) ⟨[a0,a1],[]⟩=pure ([p0,p1].zip [a0,a1])):FnX K mg x st [p0,p1]:=
 D.fnX X G fun kV doc pm an cdv ct us hl=>match us,hl with
  | [a0,a1],_=>hb kV doc pm an cdv ct a0 a1
theorem fnX_3 {K:PySem.W.Frag} {h:Heap} {mg:Str->Option Value} {x:Str} {st:Stmt} {p0 p1 p2:Str} (D:DefIn K x st) (X:K.In h) (G:h.Ns mainGlobals mg)
  (hb:∀ (kV doc pm:Value) (an:Option Addr) (cdv ct:Value) (a0 a1 a2:Value),bindArgs (PySem.W.fnOf x x (defArgs st) (defBody st) (defScope st) .none kV doc pm an cdv ct) ⟨[a0,a1,a2],[]⟩=pure ([p0,p1,p2].zip [a0,a1,a2])):FnX K mg x st [p0,p1,p2]:=
 D.fnX X G fun kV doc pm an cdv ct us hl=>match us,hl with
  | [a0,a1,a2],_=>hb kV doc pm an cdv ct a0 a1 a2
theorem fnX_4 {K:PySem.W.Frag} {h:Heap} {mg:Str->Option Value} {x:Str} {st:Stmt} {p0 p1 p2 p3:Str} (D:DefIn K x st) (X:K.In h) (G:h.Ns mainGlobals mg)
  (hb:∀ (kV doc pm:Value) (an:Option Addr) (cdv ct:Value) (a0 a1 a2 a3:Value),bindArgs (PySem.W.fnOf x x (defArgs st) (defBody st) (defScope st) .none kV doc pm an cdv ct) ⟨[a0,a1,a2,a3],[]⟩=pure ([p0,p1,p2,p3].zip [a0,a1,a2,a3])):FnX K mg x st [p0,p1,p2,p3]:=
 D.fnX X G fun kV doc pm an cdv ct us hl=>match us,hl with
  | [a0,a1,a2,a3],_=>hb kV doc pm an cdv ct a0 a1 a2 a3
theorem fnX_6 {K:PySem.W.Frag} {h:Heap} {mg:Str->Option Value} {x:Str} {st:Stmt} {p0 p1 p2 p3 p4 p5:Str} (D:DefIn K x st) (X:K.In h) (G:h.Ns mainGlobals mg)
  (hb:∀ (kV doc pm:Value) (an:Option Addr) (cdv ct:Value) (a0 a1 a2 a3 a4 a5:Value),bindArgs (PySem.W.fnOf x x (defArgs st) (defBody st) (defScope st) .none kV doc pm an cdv ct) ⟨[a0,a1,a2,a3,a4,a5],[]⟩=pure ([p0,p1,p2,p3,p4,p5].zip [a0,a1,a2,a3,a4,a5])):FnX K mg x st [p0,p1,p2,p3,p4,p5]:=
 D.fnX X G fun kV doc pm an cdv ct us hl=>match us,hl with
  | [a0,a1,a2,a3,a4,a5],_=>hb kV doc pm an cdv ct a0 a1 a2 a3 a4 a5
theorem all_mk {l:PySem.W.OpenLaw} {w:World} {K:PySem.W.Frag} {h:Heap} {mg:Str->Option Value} {fa:Addr} (X:K.In h) (G:h.Ns mainGlobals mg) (hfa:mg "law" = some (.ref fa))
  (d1:DefIn K "is_whole" sWhole) (d2:DefIn K "is_within" sWithin) (d3:DefIn K "is_word" sWord) (d4:DefIn K "is_row" sRow) (d5:DefIn K "is_state" sState) (d6:DefIn K "is_code" sCode) (d7:DefIn K "number_of" sNum) (d8:DefIn K "row_of" sRowOf) (d9:DefIn K "state_of" sStateOf) (d10:DefIn K "code_of" sCodeOf) (d11:DefIn K "read_code" sReadCode) (d12:DefIn K "_law_refused" sRefd) (d13:DefIn K "_law_branch_read" sBR) (d14:DefIn K "_law_read" sLR) (d15:DefIn K "_law_cell" sCell) (d16:DefIn K "_law_store" sStore) (d17:DefIn K "_law_take" sTake) (d18:DefIn K "_law_word" sWordN) (d19:DefIn K "_law_branch" sBranch) (d20:DefIn K "_law_code" sCodeS) (d21:DefIn K "_law_text_of" sTextOf) (d22:DefIn K "_law_same" sSameD) (d23:DefIn K "_law_odd" sOdd) (d24:DefIn K "_law_spoilt" sSpoilt) (d25:DefIn K "_law_otherwise" sOther) (dl:DefIn K "law" sLaw)
  (z1:PySem.W.nsIn K mainGlobals "len" = some none) (z2:PySem.W.nsIn K mainGlobals "range" = some none) (z3:PySem.W.nsIn K mainGlobals "isinstance" = some none) (z4:PySem.W.nsIn K mainGlobals "int" = some none) (z5:PySem.W.nsIn K mainGlobals "bool" = some none) (z6:PySem.W.nsIn K mainGlobals "list" = some none) (z7:PySem.W.nsIn K mainGlobals "str" = some none) (z8:PySem.W.nsIn K mainGlobals "tuple" = some none) (z9:PySem.W.nsIn K mainGlobals "all" = some none) (z10:PySem.W.nsIn K mainGlobals "max" = some none) (z11:PySem.W.nsIn K mainGlobals "min" = some none) (z12:PySem.W.nsIn K mainGlobals "zip" = some none) (z13:PySem.W.nsIn K mainGlobals "ValueError" = some none) (tx1:∃ tk,PySem.W.nsIn K mainGlobals "FIGURES" = some (some (.str figS tk))) {xB:Addr} (hB:PySem.W.nsIn K mainGlobals "BeatError" = some (some (.ref xB))) {xNoText:Addr} (h_NoText:PySem.W.nsIn K mainGlobals "NoText" = some (some (.ref xNoText))) (xz_NoText:PySem.W.ExCls K xNoText) (xm_NoText:PySem.W.exmOne K (.ref xNoText) (.ref xB)=some true) (xo_NoText:ExnOk K xNoText) (q_NoText_NoLetter:Cl0 K xNoText "NoLetter" (decide (0=4))) (q_NoText_NoCode:Cl0 K xNoText "NoCode" (decide (1=4))) (q_NoText_NoWindow:Cl0 K xNoText "NoWindow" (decide (2=4))) (q_NoText_NoMark:Cl0 K xNoText "NoMark" (decide (3=4))) (q_NoText_NoText:Cl0 K xNoText "NoText" (decide (4=4))) (q_NoText_NoName:Cl0 K xNoText "NoName" (decide (5=4))) (q_NoText_NoRow:Cl0 K xNoText "NoRow" (decide (6=4))) (q_NoText_NoWire:Cl0 K xNoText "NoWire" (decide (7=4))) (kv_NoText:PySem.W.kitOne K (.ref xNoText) (.type "ValueError")=some true) :
  ∃ fd:FuncData,(∀ (s:Shared) (v:Value),BindsTo s fd ⟨[v],[]⟩ [("script",v)])/\∀ base:Heap,K.In base->base.Ns mainGlobals mg->FnOk l.prog w K mg base CX0 8 fa fd ["script"] (spLaw K):=by
 obtain ⟨f,oc,od,an,osl,kV,dc,pm,cd,ct,h1,h2,h3,h4⟩:=dl
 have e:=hfa.symm.trans (PySem.W.mg_of X G h1)
 cases e
 have F:=fun_mk (st:=sLaw) h2 h3 h4
 refine ⟨PySem.W.fnOf "law" "law" (defArgs sLaw) (defBody sLaw) (defScope sLaw) .none kV dc pm an cd ct,fun s v=>.of_eq rfl,fun base _ _=>?_⟩
 have z_len:=PySem.W.mg_none_of X G z1
 have z_range:=PySem.W.mg_none_of X G z2
 have z_isinstance:=PySem.W.mg_none_of X G z3
 have z_int:=PySem.W.mg_none_of X G z4
 have z_bool:=PySem.W.mg_none_of X G z5
 have z_list:=PySem.W.mg_none_of X G z6
 have z_str:=PySem.W.mg_none_of X G z7
 have z_tuple:=PySem.W.mg_none_of X G z8
 have z_all:=PySem.W.mg_none_of X G z9
 have z_max:=PySem.W.mg_none_of X G z10
 have z_min:=PySem.W.mg_none_of X G z11
 have z_zip:=PySem.W.mg_none_of X G z12
 have z_ValueError:=PySem.W.mg_none_of X G z13
 have t_FIGURES:∃ tk,mg "FIGURES" = some (.str figS tk):=let ⟨tk,h⟩:=tx1;⟨tk,PySem.W.mg_of X G h⟩
 have m_BeatError:=PySem.W.mg_of X G hB
 have m_NoText:=PySem.W.mg_of X G h_NoText
 have kk_NoText:KindsOf K mg xNoText 4:=⟨xz_NoText,cl0_of X G q_NoText_NoLetter,cl0_of X G q_NoText_NoCode,cl0_of X G q_NoText_NoWindow,cl0_of X G q_NoText_NoMark,cl0_of X G q_NoText_NoText,cl0_of X G q_NoText_NoName,cl0_of X G q_NoText_NoRow,cl0_of X G q_NoText_NoWire,kv_NoText⟩
 have c_whole:=ok_whole (P:=l.prog) (w:=w) (base:=base) (fnX_1 d1 X G (fun _ _ _ _ _ _ _=>rfl)) z_isinstance z_int z_bool
 have c_within:=ok_within (P:=l.prog) (w:=w) (base:=base) (fnX_3 d2 X G (fun _ _ _ _ _ _ _ _ _=>rfl)) c_whole
 have c_word:=ok_word (P:=l.prog) (w:=w) (base:=base) (fnX_2 d3 X G (fun _ _ _ _ _ _ _ _=>rfl)) z_isinstance z_str z_len
 have c_row:=ok_row (P:=l.prog) (w:=w) (base:=base) (fnX_3 d4 X G (fun _ _ _ _ _ _ _ _ _=>rfl)) z_isinstance z_tuple z_len c_word c_within
 have c_state:=ok_state (P:=l.prog) (w:=w) (base:=base) (fnX_4 d5 X G (fun _ _ _ _ _ _ _ _ _ _=>rfl)) z_isinstance z_list z_all z_len c_row
 have c_code:=ok_code (P:=l.prog) (w:=w) (base:=base) (fnX_1 d6 X G (fun _ _ _ _ _ _ _=>rfl)) z_isinstance z_list z_all z_len z_tuple c_within c_state
 have c_num:=ok_num (P:=l.prog) (w:=w) (base:=base) (fnX_1 d7 X G (fun _ _ _ _ _ _ _=>rfl)) z_len t_FIGURES
 have c_rowOf:=ok_rowOf (P:=l.prog) (w:=w) (base:=base) (fnX_1 d8 X G (fun _ _ _ _ _ _ _=>rfl)) z_tuple c_num
 have c_stateOf:=ok_stateOf (P:=l.prog) (w:=w) (base:=base) (fnX_1 d9 X G (fun _ _ _ _ _ _ _=>rfl)) c_rowOf
 have c_codeOf:=ok_codeOf (P:=l.prog) (w:=w) (base:=base) (fnX_1 d10 X G (fun _ _ _ _ _ _ _=>rfl)) z_tuple c_num c_stateOf
 have c_readCode:=ok_readCode (P:=l.prog) (w:=w) (base:=base) (fnX_1 d11 X G (fun _ _ _ _ _ _ _=>rfl)) z_isinstance z_str c_codeOf c_code xo_NoText m_NoText
 have c_refd:=ok_refd (P:=l.prog) (w:=w) (base:=base) (fnX_1 d12 X G (fun _ _ _ _ _ _ _=>rfl)) z_isinstance z_ValueError m_BeatError xm_NoText kk_NoText c_readCode
 have c_br:=ok_br (P:=l.prog) (w:=w) (base:=base) (fnX_3 d13 X G (fun _ _ _ _ _ _ _ _ _=>rfl)) z_len z_int
 have c_lr:=ok_lr (P:=l.prog) (w:=w) (base:=base) (fnX_1 d14 X G (fun _ _ _ _ _ _ _=>rfl)) z_len z_int z_list c_br
 have c_cell:=ok_cell (P:=l.prog) (w:=w) (base:=base) (fnX_2 d15 X G (fun _ _ _ _ _ _ _ _=>rfl)) z_len
 have c_store:=ok_store (P:=l.prog) (w:=w) (base:=base) (fnX_1 d16 X G (fun _ _ _ _ _ _ _=>rfl))
 have c_take:=ok_take (P:=l.prog) (w:=w) (base:=base) (fnX_2 d17 X G (fun _ _ _ _ _ _ _ _=>rfl))
 have c_wordN:=ok_wordN (P:=l.prog) (w:=w) (base:=base) (fnX_2 d18 X G (fun _ _ _ _ _ _ _ _=>rfl)) z_range
 have c_branch:=ok_branch (P:=l.prog) (w:=w) (base:=base) (fnX_6 d19 X G (fun _ _ _ _ _ _ _ _ _ _ _ _=>rfl)) z_len c_take c_wordN
 have c_codeS:=ok_codeS (P:=l.prog) (w:=w) (base:=base) (fnX_2 d20 X G (fun _ _ _ _ _ _ _ _=>rfl)) z_range c_take c_wordN c_branch
 have c_textOf:=ok_textOf (P:=l.prog) (w:=w) (base:=base) (fnX_1 d21 X G (fun _ _ _ _ _ _ _=>rfl)) z_str
 have c_sameD:=ok_sameD (P:=l.prog) (w:=w) (base:=base) (fnX_2 d22 X G (fun _ _ _ _ _ _ _ _=>rfl)) z_isinstance z_str z_int z_bool z_list z_tuple z_len z_zip
 have c_odd:=ok_odd (P:=l.prog) (w:=w) (base:=base) (fnX_1 d23 X G (fun _ _ _ _ _ _ _=>rfl))
 have c_spoilt:=ok_spoilt (P:=l.prog) (w:=w) (base:=base) (fnX_2 d24 X G (fun _ _ _ _ _ _ _ _=>rfl)) z_range z_len z_int c_take
 have c_other:=ok_other (P:=l.prog) (w:=w) (base:=base) (fnX_2 d25 X G (fun _ _ _ _ _ _ _ _=>rfl)) z_len c_take
 exact ok_law F z_range z_len z_min z_max c_cell c_store c_codeS c_textOf c_take c_spoilt c_odd c_other c_lr c_refd c_readCode (c_sameD 5)
theorem walk {l:PySem.W.OpenLaw} {q:Program} {loose:List Str} {XP:(Str->Option Value)->Heap->Prop} {YP:World->Heap->Prop} {d:DefRec} {K:Params->PySem.W.Frag} (hn:l.most=some 63) (hdf:d.params.defaults=[])
  (hY:∀ (w:World) (h:Heap),YP w h->(K w.params).In h)
  (F:∀ (w:World) (mg:Str->Option Value) (fa:Addr) (h:Heap),(K w.params).In h->h.Ns mainGlobals mg->mg d.name=some (.ref fa) →
   ∃ fd:FuncData,(∀ (s:Shared) (u:Value),BindsTo s fd ⟨[u],[]⟩ [("script",u)])/\∀ base:Heap,(K w.params).In base->base.Ns mainGlobals mg->FnOk l.prog w (K w.params) mg base CX0 8 fa fd ["script"] (spLaw (K w.params))) :
  PySem.W.WalkO q loose XP YP l.row.toRowW d [] (fun f vs=>PySem.call f vs):=
 L2.walk_of (n:=63) (k:=8) (x:= "script") (CX:=fun _=>CX0) (sp:=fun w=>spLaw (K w.params)) hn (by decide) hdf ⟨rfl,by decide,by decide⟩ hY F (fun _ _ a ns hl _ hS=>⟨ns,hS,hl,fun _=>rfl⟩) fun _ _ _ _ _ z=>z
end K62
open PySem PySem.W PyProof.Rows
local macro_rules | `(tactic| walk_at "k_def")=>`(tactic| ((refine' L2.DefIn.mk ?a ?l ?c ?k);(case a=>k_is);(case l=>k_is);(case c=>k_is);(case k=>k_is)))
set_option maxRecDepth 100000 in
set_option maxHeartbeats 0 in
theorem PySem.Challenge.cw_ownbeat_k62_texts_of_no_code_holds : PySem.Challenge.rw_ownbeat_k62_texts_of_no_code.Holds := by
 w_on;o_law
 refine PySem.W.holds_open (q:=KH.V) (loose:=[]) (Xt:=(fun s=>xlAt KH.V [] s && recOk (RowW.records (OpenRow.toRowW KH.Rw.row)) s)) (N:=5814) (XP:=PySem.W.XL KH.V []) (Yf:=PySem.W.Hook.obs KH.hk) (Ya:=PySem.W.Hook.val KH.hk) (YP:=PySem.W.Hook.says KH.hk) ?hl (PySem.W.Hook.of KH.hk) (PySem.W.Hook.keeps KH.hk) (fun s e=>PySem.W.xl_of s (Bool.and_eq_true_iff.mp e).1) PySem.W.XL.keeps (by rfl) (by rfl) (by rfl) (fun s e=>PySem.W.recFacts_of (Bool.and_eq_true_iff.mp e).2) (by rfl) (by first | assumption | decide +kernel) (by decide +kernel) ⟨rfl,rfl,rfl,rfl,rfl,by decide +kernel⟩ ?hw ?hc
 (case hl=>exact KH.HL)
 (case hw=>w_witness2)
 delta KH.hk
 k_fill
 refine K62.walk (l:=PySem.Challenge.rw_ownbeat_k62_texts_of_no_code) rfl rfl (fun w h Y=>PySem.W.kIn_of Y) ?F
 case F=>
  intro w mg fa h KX G hmg
  refine' K62.all_mk KX G hmg ?d1 ?d2 ?d3 ?d4 ?d5 ?d6 ?d7 ?d8 ?d9 ?d10 ?d11 ?d12 ?d13 ?d14 ?d15 ?d16 ?d17 ?d18 ?d19 ?d20 ?d21 ?d22 ?d23 ?d24 ?d25 ?dl ?z1 ?z2 ?z3 ?z4 ?z5 ?z6 ?z7 ?z8 ?z9 ?z10 ?z11 ?z12 ?z13 ?tx1 ?hB ?h_NoText ?xz_NoText ?xm_NoText ?xo_NoText ?q_NoText_NoLetter ?q_NoText_NoCode ?q_NoText_NoWindow ?q_NoText_NoMark ?q_NoText_NoText ?q_NoText_NoName ?q_NoText_NoRow ?q_NoText_NoWire ?kv_NoText
  (case d1=>walk_at "k_def")
  (case d2=>walk_at "k_def")
  (case d3=>walk_at "k_def")
  (case d4=>walk_at "k_def")
  (case d5=>walk_at "k_def")
  (case d6=>walk_at "k_def")
  (case d7=>walk_at "k_def")
  (case d8=>walk_at "k_def")
  (case d9=>walk_at "k_def")
  (case d10=>walk_at "k_def")
  (case d11=>walk_at "k_def")
  (case d12=>walk_at "k_def")
  (case d13=>walk_at "k_def")
  (case d14=>walk_at "k_def")
  (case d15=>walk_at "k_def")
  (case d16=>walk_at "k_def")
  (case d17=>walk_at "k_def")
  (case d18=>walk_at "k_def")
  (case d19=>walk_at "k_def")
  (case d20=>walk_at "k_def")
  (case d21=>walk_at "k_def")
  (case d22=>walk_at "k_def")
  (case d23=>walk_at "k_def")
  (case d24=>walk_at "k_def")
  (case d25=>walk_at "k_def")
  (case dl=>walk_at "k_def")
  (case z1=>k_is)
  (case z2=>k_is)
  (case z3=>k_is)
  (case z4=>k_is)
  (case z5=>k_is)
  (case z6=>k_is)
  (case z7=>k_is)
  (case z8=>k_is)
  (case z9=>k_is)
  (case z10=>k_is)
  (case z11=>k_is)
  (case z12=>k_is)
  (case z13=>k_is)
  (case tx1=>((refine' L2.tx_mk ?hx ?ex);(case hx=>k_is);(case ex=>rfl)))
  (case hB=>k_is)
  (case h_NoText=>k_is)
  (case xz_NoText=>((refine' K62.xcls_mk ?a1 ?a2 ?a3 ?a4 ?a5 ?a6 ?a7 ?a8);(case a1=>k_is);(case a2=>k_is);(case a3=>k_is);(case a4=>kernel_rfl);(case a5=>k_is);(case a6=>k_is);(case a7=>k_is);(case a8=>k_is)))
  (case xm_NoText=>kernel_rfl)
  (case xo_NoText=>((refine' K62.exn_mk ?a1 ?a2 ?a3 ?a4 ?a5 ?a6 ?a7 ?a8);(case a1=>k_is);(case a2=>k_is);(case a3=>kernel_rfl);(case a4=>kernel_rfl);(case a5=>k_is);(case a6=>k_is);(case a7=>kernel_rfl);(case a8=>kernel_rfl)))
  (case q_NoText_NoLetter=>((refine' K62.cl0_mk ?a1 ?a2);(case a1=>k_is);(case a2=>kernel_rfl)))
  (case q_NoText_NoCode=>((refine' K62.cl0_mk ?a1 ?a2);(case a1=>k_is);(case a2=>kernel_rfl)))
  (case q_NoText_NoWindow=>((refine' K62.cl0_mk ?a1 ?a2);(case a1=>k_is);(case a2=>kernel_rfl)))
  (case q_NoText_NoMark=>((refine' K62.cl0_mk ?a1 ?a2);(case a1=>k_is);(case a2=>kernel_rfl)))
  (case q_NoText_NoText=>((refine' K62.cl0_mk ?a1 ?a2);(case a1=>k_is);(case a2=>kernel_rfl)))
  (case q_NoText_NoName=>((refine' K62.cl0_mk ?a1 ?a2);(case a1=>k_is);(case a2=>kernel_rfl)))
  (case q_NoText_NoRow=>((refine' K62.cl0_mk ?a1 ?a2);(case a1=>k_is);(case a2=>kernel_rfl)))
  (case q_NoText_NoWire=>((refine' K62.cl0_mk ?a1 ?a2);(case a1=>k_is);(case a2=>kernel_rfl)))
  (case kv_NoText=>kernel_rfl)
end
end
