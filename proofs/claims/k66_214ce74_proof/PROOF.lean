import PyProof.Rows.All
import Wide.All
import OpenK.AllK
import Wide.FinOn
import PyProof.EqAt
import PyProof.EqKinds
import PyProof.TupleCall
import Lean
import PyProof.CompFree
import PyProof.IsInstanceH
import PyProof.IsiPairs
import PyProof.ConsumeWalk
import PyProof.IsiNone
import KE.KIntText
import PyProof.Rows.EqDataRows
import PyProof.RangeIter
import PyProof.ZipIter
import PyProof.EnumMake
import PyProof.WalksEnum
import PyProof.Rows.ZipGen
import PyProof.Rows.SortWalk
import KE.KEqDict
import KE.KDictLaws
import PyProof.Rows.SumAny
import PyProof.Rows.FStr
import PyProof.ListRange
import PyProof.DictWalks
import PyProof.DictCopy
import KE.KDictOf
import PyProof.Rows.StrRev
import PyProof.ListStr
import KE.KRevSl
import KE.KLam
import PyProof.Rows.SetFrom
import PyProof.SetRoads
import KE.KNestM
import PyProof.StrLawsIdx
import PyProof.TupleKey
import PyProof.StrLoop
import PyProof.StrWalks
import PyProof.StrLawsChain
import PyProof.FitsReplace
import PyProof.MeetsStr2
import KE.KRevIter
import PyProof.DictUpdate
import PyProof.AttrMissHeap
import PyProof.StrLawsIn
import PyProof.StrLawsTight
import KE.KTryMore
import PyProof.ExcClass2
import PyProof.ExcInit
import PyProof.InstStoreFacts
import PyProof.ExcBaseAll.ValueError
import PyProof.RulesAs
import PyProof.NsDelKeeps
import OpenK.KRaise
import PyProof.ExcArgs
import PyProof.Rows.SeqMore2
import PyProof.StrBlock2
import PyProof.TupleIter
import PyProof.FactsAll.set
import PyProof.FactsAll.dict_keyiterator
import PyProof.Rows.SortStr
import PyProof.Rows.StrSplitMax
import PyProof.ToksMono
import PySem.Challenge.RW_ownbeat_k66_names_on_desks
import Open.Pieces
set_option Elab.async false
set_option linter.all false
set_option maxRecDepth 100000
set_option maxHeartbeats 4000000
section
namespace KH
open PySem PySem.W
abbrev Pw:Program:=PySem.Challenge.pw_ownbeat_k66_names_on_desks
abbrev Rw:OpenLaw:=PySem.Challenge.rw_ownbeat_k66_names_on_desks
abbrev tp (i:Nat):Stmt:=Pw.main.body.getD i (.Pass ⟨0,0,0,0⟩)
abbrev cm:Stmt->Nat->Stmt
 | .ClassDef _ _ _ body _ _ _ _ _ _ _,i=>body.getD i (.Pass ⟨0,0,0,0⟩)
 | s,_=>s
abbrev dA (s:Stmt):Arguments:=match s with
 | .FunctionDef _ a _ _ _ _ _ _ _ _=>a
 | _=>{ posonlyargs:=[],args:=[],vararg:=none,kwonlyargs:=[],kw_defaults:=[],kwarg:=none,defaults:=[] }
abbrev dB (s:Stmt):List Stmt:=match s with
 | .FunctionDef _ _ b _ _ _ _ _ _ _=>b
 | _=>[]
abbrev dS (s:Stmt):Scope:=match s with
 | .FunctionDef _ _ _ _ _ _ sc _ _ _=>sc
 | _=>{ kind:=.function,names:=[],isGenerator:=false,isCoroutine:=false }
abbrev en (P:Params) (k:Str) (t:Nat) (v:Value):DictEntry:=⟨PyData.keyHash P k,.str k t,v⟩
abbrev tu (l:List Value):Obj:=⟨.type "tuple",none,.seq l.toArray 0,#[]⟩
abbrev di (l:List DictEntry):Obj:=⟨.type "dict",none,.dict l.toArray 0,#[]⟩
abbrev co (n:Str) (t1:Nat) (q:Str) (t2 t3:Nat) (l c:Int) (a b:Nat) (x y:Value) (z:Nat) (d:Int) (t4:Nat):Obj:=⟨.type "code",none,.fields #[.str n t1,.str q t2,.str "/claim/cut.py" t3,.int l 0,.int c 0,.int 0 0,.int 0 0,.int 3 0,.ref a,.bool true,.int 181 0,.ref b,.none,x,y,.ref z,.int d 0,.int l 0,.str "/claim/cut.py" t4],#[]⟩
abbrev fu (n q:Str) (st:Stmt) (m:Str) (t c:Nat):Obj:=⟨.type "function",none,.func ⟨n,q,dA st,.stmts (dB st),dS st,3,[],.none,.none,.none,.str m t,none,.ref c,.none,0⟩,#[]⟩
abbrev cl (n:Str) (self ns a t1 t2:Nat):Obj:=⟨.type "type",none,.cls ⟨n,[.ref 24],[.ref self,.ref 24,.type "ValueError",.type "Exception",.type "BaseException",.type "object"],ns,n,true,[],[],false,none,false⟩,#[some (.ref a),none,some (.str n t1),some (.str n t2),some (.builtin "ValueError.__new__"),some (.bool true)]⟩
noncomputable def K (P:Params):Frag:=
 (nat_lit 2,⟨.none,none,.dict #[],#[]⟩) ::
 (nat_lit 3,⟨.type "dict",none,.dict #[en P "__name__" 165 (.str "law_ownbeat_k66_names_on_desks" 1061),en P "__doc__" 166 (.none),en P "__package__" 167 (.none),en P "__loader__" 168 (.builtin "__main__.__loader__#opaque"),en P "__spec__" 169 (.none),en P "__annotations__" 170 (.ref 6),en P "__builtins__" 171 (.ref 4),en P "__file__" 173 (.str "/claim/cut.py" 172),en P "__cached__" 174 (.none),en P "BeatError" 206 (.ref 24),en P "NoLetter" 222 (.ref 37),en P "NoCode" 238 (.ref 49),en P "NoWire" 263 (.ref 68),en P "NoWindow" 279 (.ref 80),en P "NoMark" 295 (.ref 92),en P "NoText" 311 (.ref 104),en P "NoName" 327 (.ref 116),en P "NoRow" 343 (.ref 128),en P "is_whole" 352 (.ref 137),en P "is_letter" 360 (.ref 144),en P "is_letter_list" 366 (.ref 149),en P "words_of" 372 (.ref 154),en P "all_signs" 378 (.ref 159),en P "texts_from" 392 (.ref 166),en P "state_texts" 400 (.ref 173),en P "reached" 407 (.ref 180),en P "every_state" 414 (.ref 187),en P "pair_graph" 425 (.ref 194),en P "pair_steps" 439 (.ref 201),en P "layers_of" 449 (.ref 208),en P "layer_behind" 461 (.ref 215),en P "comes_back" 469 (.ref 222),en P "longest_walk" 480 (.ref 229),en P "first_return" 490 (.ref 236),en P "is_code" 498 (.ref 241),en P "is_within" 507 (.ref 248),en P "is_state" 513 (.ref 253),en P "is_row" 522 (.ref 260),en P "is_word" 530 (.ref 267),en P "sent" 542 (.ref 274),en P "letters" 548 (.ref 279),en P "letter_of" 557 (.ref 286),en P "bits_of" 563 (.ref 291),en P "lean" 572 (.ref 298),en P "leaning_loop" 582 (.ref 305),en P "farthest_lean" 588 (.ref 310),en P "farthest_ends" 599 (.ref 317),en P "ends_behind" 613 (.ref 324),en P "leans_in" 623 (.ref 331),en P "LONGEST" 627 (.int 8 626),en P "marks" 633 (.ref 336),en P "standing" 647 (.ref 343),en P "tails_behind" 658 (.ref 350),en P "tail_steps" 671 (.ref 357),en P "given_words" 681 (.ref 364),en P "late" 690 (.ref 371),en P "first_pairs" 701 (.ref 378),en P "read" 707 (.ref 383),en P "guesses_behind" 721 (.ref 390),en P "shared_count" 727 (.ref 395),en P "settles" 738 (.ref 402),en P "backward_graph" 750 (.ref 409),en P "unlike_pairs" 759 (.ref 416),en P "SIGNS" 764 (.ref 417),en P "still" 771 (.ref 424),en P "put_behind" 782 (.ref 431),en P "paper_keys" 792 (.ref 438),en P "greatest_peak" 804 (.ref 445),en P "runs_over" 818 (.ref 452),en P "greatest_runs" 828 (.ref 459),en P "standing_loop" 841 (.ref 466),en P "standing_steps" 847 (.ref 471),en P "loop_of" 853 (.ref 476),en P "FIGURES" 857 (.str "0123456789" 856),en P "read_code" 865 (.ref 483),en P "code_of" 871 (.ref 488),en P "state_of" 877 (.ref 493),en P "row_of" 885 (.ref 500),en P "number_of" 892 (.ref 507),en P "WIDEST" 896 (.int 6 895),en P "graph_tells" 906 (.ref 514),en P "pairs_behind" 916 (.ref 521),en P "unlike_steps" 922 (.ref 526),en P "least_window" 932 (.ref 533),en P "SMALL_LETTERS" 936 (.str "abcdefghijklmnopqrstuvwxyz" 935),en P "LONGEST_NAME" 938 (.int 8 937),en P "LENGTHS" 947 (.ref 534),en P "NOTHING" 949 (.str "-" 948),en P "NONE" 951 (.str "none" 950),en P "Desk" 996 (.ref 565),en P "words_in" 1004 (.ref 576),en P "are_words" 1011 (.ref 583),en P "is_name" 1018 (.ref 590),en P "fits" 1026 (.ref 597),en P "is_signs" 1033 (.ref 604),en P "answer" 1041 (.ref 611),en P "number_text" 1048 (.ref 618),en P "numbers_text" 1054 (.ref 623),en P "answer_with" 1060 (.ref 628),en P "_law_cell" 1070 (.ref 635),en P "_law_store" 1078 (.ref 642),en P "_law_take" 1088 (.ref 649),en P "_law_refused" 1098 (.ref 656),en P "_law_class" 1106 (.ref 663),en P "_law_name_drawn" 1112 (.ref 668),en P "_law_gone" 1122 (.ref 675),en P "law" 1141 (.ref 682)] 107,#[]⟩) ::
 (nat_lit 15,tu [.type "ValueError"]) ::
 (nat_lit 22,tu []) ::
 (nat_lit 23,⟨.type "dict",none,.dict #[en P "__module__" 196 (.str "ownbeat.errors" 187),en P "__firstlineno__" 200 (.int 2 199),en P "__static_attributes__" 201 (.ref 22),en P "__weakref__" 203 (.ref 25),en P "__doc__" 204 (.none)] 3,#[]⟩) ::
 (nat_lit 24,⟨.type "type",none,.cls ⟨"BeatError",[.type "ValueError"],[.ref 24,.type "ValueError",.type "Exception",.type "BaseException",.type "object"],23,"BeatError",true,[],[.ref 37,.ref 49,.ref 68,.ref 80,.ref 92,.ref 104,.ref 116,.ref 128],false,none,false⟩,#[some (.ref 15),none,some (.str "BeatError" 189),some (.str "BeatError" 197),some (.builtin "ValueError.__new__"),some (.bool true)]⟩) ::
 (nat_lit 25,⟨.type "getset_descriptor",none,.fields #[.str "__weakref__" 202,.ref 24,.builtin "ExceptionGroup.__weakref__",.none],#[]⟩) ::
 (nat_lit 28,tu [.ref 24]) ::
 (nat_lit 35,tu []) ::
 (nat_lit 36,⟨.type "dict",none,.dict #[en P "__module__" 214 (.str "ownbeat.errors" 187),en P "__firstlineno__" 218 (.int 4 217),en P "__static_attributes__" 219 (.ref 35),en P "__doc__" 220 (.none)] 2,#[]⟩) ::
 (nat_lit 37,cl "NoLetter" 37 36 28 207 215) ::
 (nat_lit 40,tu [.ref 24]) ::
 (nat_lit 47,tu []) ::
 (nat_lit 48,⟨.type "dict",none,.dict #[en P "__module__" 230 (.str "ownbeat.errors" 187),en P "__firstlineno__" 234 (.int 6 233),en P "__static_attributes__" 235 (.ref 47),en P "__doc__" 236 (.none)] 2,#[]⟩) ::
 (nat_lit 49,cl "NoCode" 49 48 40 223 231) ::
 (nat_lit 52,tu [.ref 24]) ::
 (nat_lit 59,tu []) ::
 (nat_lit 61,tu [.str "self" 254,.str "at" 255]) ::
 (nat_lit 62,tu []) ::
 (nat_lit 64,co "__init__" 251 "NoWire.__init__" 252 253 10 2 59 60 (.ref 61) (.ref 62) 63 256 257) ::
 (nat_lit 65,fu "__init__" "NoWire.__init__" (cm (tp 4) 0) "ownbeat.errors" 187 64) ::
 (nat_lit 66,tu [.str "at" 259]) ::
 (nat_lit 67,⟨.type "dict",none,.dict #[en P "__module__" 246 (.str "ownbeat.errors" 187),en P "__firstlineno__" 250 (.int 8 249),en P "__init__" 258 (.ref 65),en P "__static_attributes__" 260 (.ref 66),en P "__doc__" 261 (.none)] 2,#[]⟩) ::
 (nat_lit 68,cl "NoWire" 68 67 52 239 247) ::
 (nat_lit 71,tu [.ref 24]) ::
 (nat_lit 78,tu []) ::
 (nat_lit 79,⟨.type "dict",none,.dict #[en P "__module__" 271 (.str "ownbeat.errors" 187),en P "__firstlineno__" 275 (.int 13 274),en P "__static_attributes__" 276 (.ref 78),en P "__doc__" 277 (.none)] 2,#[]⟩) ::
 (nat_lit 80,cl "NoWindow" 80 79 71 264 272) ::
 (nat_lit 83,tu [.ref 24]) ::
 (nat_lit 90,tu []) ::
 (nat_lit 91,⟨.type "dict",none,.dict #[en P "__module__" 287 (.str "ownbeat.errors" 187),en P "__firstlineno__" 291 (.int 15 290),en P "__static_attributes__" 292 (.ref 90),en P "__doc__" 293 (.none)] 2,#[]⟩) ::
 (nat_lit 92,cl "NoMark" 92 91 83 280 288) ::
 (nat_lit 95,tu [.ref 24]) ::
 (nat_lit 102,tu []) ::
 (nat_lit 103,⟨.type "dict",none,.dict #[en P "__module__" 303 (.str "ownbeat.errors" 187),en P "__firstlineno__" 307 (.int 17 306),en P "__static_attributes__" 308 (.ref 102),en P "__doc__" 309 (.none)] 2,#[]⟩) ::
 (nat_lit 104,cl "NoText" 104 103 95 296 304) ::
 (nat_lit 107,tu [.ref 24]) ::
 (nat_lit 114,tu []) ::
 (nat_lit 115,⟨.type "dict",none,.dict #[en P "__module__" 319 (.str "ownbeat.errors" 187),en P "__firstlineno__" 323 (.int 19 322),en P "__static_attributes__" 324 (.ref 114),en P "__doc__" 325 (.none)] 2,#[]⟩) ::
 (nat_lit 116,cl "NoName" 116 115 107 312 320) ::
 (nat_lit 119,tu [.ref 24]) ::
 (nat_lit 126,tu []) ::
 (nat_lit 127,⟨.type "dict",none,.dict #[en P "__module__" 335 (.str "ownbeat.errors" 187),en P "__firstlineno__" 339 (.int 21 338),en P "__static_attributes__" 340 (.ref 126),en P "__doc__" 341 (.none)] 2,#[]⟩) ::
 (nat_lit 128,cl "NoRow" 128 127 119 328 336) ::
 (nat_lit 131,tu []) ::
 (nat_lit 133,tu [.str "thing" 349]) ::
 (nat_lit 134,tu []) ::
 (nat_lit 136,co "is_whole" 346 "is_whole" 347 348 24 1 131 132 (.ref 133) (.ref 134) 135 350 351) ::
 (nat_lit 137,fu "is_whole" "is_whole" (tp 11) "ownbeat.walks" 344 136) ::
 (nat_lit 138,tu []) ::
 (nat_lit 140,tu [.str "k" 356,.str "thing" 357]) ::
 (nat_lit 141,tu []) ::
 (nat_lit 143,co "is_letter" 353 "is_letter" 354 355 26 2 138 139 (.ref 140) (.ref 141) 142 358 359) ::
 (nat_lit 144,fu "is_letter" "is_letter" (tp 12) "ownbeat.walks" 344 143) ::
 (nat_lit 145,tu []) ::
 (nat_lit 148,co "is_letter_list" 361 "is_letter_list" 362 363 28 2 145 146 (.none) (.none) 147 364 365) ::
 (nat_lit 149,fu "is_letter_list" "is_letter_list" (tp 13) "ownbeat.walks" 344 148) ::
 (nat_lit 150,tu []) ::
 (nat_lit 153,co "words_of" 367 "words_of" 368 369 30 2 150 151 (.none) (.none) 152 370 371) ::
 (nat_lit 154,fu "words_of" "words_of" (tp 14) "ownbeat.walks" 344 153) ::
 (nat_lit 155,tu []) ::
 (nat_lit 158,co "all_signs" 373 "all_signs" 374 375 32 1 155 156 (.none) (.none) 157 376 377) ::
 (nat_lit 159,fu "all_signs" "all_signs" (tp 15) "ownbeat.walks" 344 158) ::
 (nat_lit 160,tu []) ::
 (nat_lit 162,tu [.str "start" 382,.str "steps" 383,.str "texts" 384,.str "queue" 385,.str "place" 386,.str "node" 387,.str "letter" 388,.str "to" 389]) ::
 (nat_lit 163,tu []) ::
 (nat_lit 165,co "texts_from" 379 "texts_from" 380 381 37 2 160 161 (.ref 162) (.ref 163) 164 390 391) ::
 (nat_lit 166,fu "texts_from" "texts_from" (tp 16) "ownbeat.walks" 344 165) ::
 (nat_lit 167,tu []) ::
 (nat_lit 169,tu [.str "code" 396]) ::
 (nat_lit 170,tu [.str "code" 397]) ::
 (nat_lit 172,co "state_texts" 393 "state_texts" 394 395 49 1 167 168 (.ref 169) (.ref 170) 171 398 399) ::
 (nat_lit 173,fu "state_texts" "state_texts" (tp 17) "ownbeat.walks" 344 172) ::
 (nat_lit 174,tu []) ::
 (nat_lit 176,tu [.str "code" 404]) ::
 (nat_lit 177,tu []) ::
 (nat_lit 179,co "reached" 401 "reached" 402 403 51 1 174 175 (.ref 176) (.ref 177) 178 405 406) ::
 (nat_lit 180,fu "reached" "reached" (tp 18) "ownbeat.walks" 344 179) ::
 (nat_lit 181,tu []) ::
 (nat_lit 183,tu [.str "code" 411]) ::
 (nat_lit 184,tu []) ::
 (nat_lit 186,co "every_state" 408 "every_state" 409 410 53 1 181 182 (.ref 183) (.ref 184) 185 412 413) ::
 (nat_lit 187,fu "every_state" "every_state" (tp 19) "ownbeat.walks" 344 186) ::
 (nat_lit 188,tu []) ::
 (nat_lit 190,tu [.str "code" 418,.str "states" 419,.str "graph" 420,.str "one" 421,.str "other" 422]) ::
 (nat_lit 191,tu []) ::
 (nat_lit 193,co "pair_graph" 415 "pair_graph" 416 417 55 2 188 189 (.ref 190) (.ref 191) 192 423 424) ::
 (nat_lit 194,fu "pair_graph" "pair_graph" (tp 20) "ownbeat.walks" 344 193) ::
 (nat_lit 195,tu []) ::
 (nat_lit 197,tu [.str "code" 429,.str "one" 430,.str "other" 431,.str "steps" 432,.str "letter" 433,.str "row" 434,.str "another" 435,.str "beside" 436]) ::
 (nat_lit 198,tu []) ::
 (nat_lit 200,co "pair_steps" 426 "pair_steps" 427 428 61 3 195 196 (.ref 197) (.ref 198) 199 437 438) ::
 (nat_lit 201,fu "pair_steps" "pair_steps" (tp 21) "ownbeat.walks" 344 200) ::
 (nat_lit 202,tu []) ::
 (nat_lit 204,tu [.str "first" 443,.str "graph" 444,.str "layers" 445,.str "layer" 446]) ::
 (nat_lit 205,tu []) ::
 (nat_lit 207,co "layers_of" 440 "layers_of" 441 442 68 2 202 203 (.ref 204) (.ref 205) 206 447 448) ::
 (nat_lit 208,fu "layers_of" "layers_of" (tp 22) "ownbeat.walks" 344 207) ::
 (nat_lit 209,tu []) ::
 (nat_lit 211,tu [.str "layer" 453,.str "graph" 454,.str "behind" 455,.str "node" 456,.str "label" 457,.str "to" 458]) ::
 (nat_lit 212,tu []) ::
 (nat_lit 214,co "layer_behind" 450 "layer_behind" 451 452 75 2 209 210 (.ref 211) (.ref 212) 213 459 460) ::
 (nat_lit 215,fu "layer_behind" "layer_behind" (tp 23) "ownbeat.walks" 344 214) ::
 (nat_lit 216,tu []) ::
 (nat_lit 218,tu [.str "layers" 465,.str "graph" 466]) ::
 (nat_lit 219,tu []) ::
 (nat_lit 221,co "comes_back" 462 "comes_back" 463 464 82 2 216 217 (.ref 218) (.ref 219) 220 467 468) ::
 (nat_lit 222,fu "comes_back" "comes_back" (tp 24) "ownbeat.walks" 344 221) ::
 (nat_lit 223,tu []) ::
 (nat_lit 225,tu [.str "layers" 473,.str "node" 474,.str "walk" 475,.str "layer" 476,.str "ahead" 477]) ::
 (nat_lit 226,tu []) ::
 (nat_lit 228,co "longest_walk" 470 "longest_walk" 471 472 84 1 223 224 (.ref 225) (.ref 226) 227 478 479) ::
 (nat_lit 229,fu "longest_walk" "longest_walk" (tp 25) "ownbeat.walks" 344 228) ::
 (nat_lit 230,tu []) ::
 (nat_lit 232,tu [.str "walk" 484,.str "places" 485,.str "place" 486,.str "step" 487]) ::
 (nat_lit 233,tu []) ::
 (nat_lit 235,co "first_return" 481 "first_return" 482 483 92 1 230 231 (.ref 232) (.ref 233) 234 488 489) ::
 (nat_lit 236,fu "first_return" "first_return" (tp 26) "ownbeat.walks" 344 235) ::
 (nat_lit 237,tu []) ::
 (nat_lit 240,co "is_code" 493 "is_code" 494 495 100 1 237 238 (.none) (.none) 239 496 497) ::
 (nat_lit 241,fu "is_code" "is_code" (tp 28) "ownbeat.codes" 491 240) ::
 (nat_lit 242,tu []) ::
 (nat_lit 244,tu [.str "thing" 502,.str "least" 503,.str "greatest" 504]) ::
 (nat_lit 245,tu []) ::
 (nat_lit 247,co "is_within" 499 "is_within" 500 501 111 3 242 243 (.ref 244) (.ref 245) 246 505 506) ::
 (nat_lit 248,fu "is_within" "is_within" (tp 29) "ownbeat.codes" 491 247) ::
 (nat_lit 249,tu []) ::
 (nat_lit 252,co "is_state" 508 "is_state" 509 510 113 4 249 250 (.none) (.none) 251 511 512) ::
 (nat_lit 253,fu "is_state" "is_state" (tp 30) "ownbeat.codes" 491 252) ::
 (nat_lit 254,tu []) ::
 (nat_lit 256,tu [.str "row" 517,.str "n" 518,.str "count" 519]) ::
 (nat_lit 257,tu []) ::
 (nat_lit 259,co "is_row" 514 "is_row" 515 516 117 3 254 255 (.ref 256) (.ref 257) 258 520 521) ::
 (nat_lit 260,fu "is_row" "is_row" (tp 31) "ownbeat.codes" 491 259) ::
 (nat_lit 261,tu []) ::
 (nat_lit 263,tu [.str "thing" 526,.str "n" 527]) ::
 (nat_lit 264,tu []) ::
 (nat_lit 266,co "is_word" 523 "is_word" 524 525 121 2 261 262 (.ref 263) (.ref 264) 265 528 529) ::
 (nat_lit 267,fu "is_word" "is_word" (tp 32) "ownbeat.codes" 491 266) ::
 (nat_lit 268,tu []) ::
 (nat_lit 270,tu [.str "code" 534,.str "state" 535,.str "text" 536,.str "words" 537,.str "letter" 538,.str "row" 539]) ::
 (nat_lit 271,tu []) ::
 (nat_lit 273,co "sent" 531 "sent" 532 533 123 3 268 269 (.ref 270) (.ref 271) 272 540 541) ::
 (nat_lit 274,fu "sent" "sent" (tp 33) "ownbeat.codes" 491 273) ::
 (nat_lit 275,tu []) ::
 (nat_lit 278,co "letters" 543 "letters" 544 545 132 2 275 276 (.none) (.none) 277 546 547) ::
 (nat_lit 279,fu "letters" "letters" (tp 34) "ownbeat.codes" 491 278) ::
 (nat_lit 280,tu []) ::
 (nat_lit 282,tu [.str "bits" 552,.str "letter" 553,.str "bit" 554]) ::
 (nat_lit 283,tu []) ::
 (nat_lit 285,co "letter_of" 549 "letter_of" 550 551 140 1 280 281 (.ref 282) (.ref 283) 284 555 556) ::
 (nat_lit 286,fu "letter_of" "letter_of" (tp 35) "ownbeat.codes" 491 285) ::
 (nat_lit 287,tu []) ::
 (nat_lit 290,co "bits_of" 558 "bits_of" 559 560 145 2 287 288 (.none) (.none) 289 561 562) ::
 (nat_lit 291,fu "bits_of" "bits_of" (tp 36) "ownbeat.codes" 491 290) ::
 (nat_lit 292,tu []) ::
 (nat_lit 294,tu [.str "code" 569]) ::
 (nat_lit 295,tu []) ::
 (nat_lit 297,co "lean" 566 "lean" 567 568 153 1 292 293 (.ref 294) (.ref 295) 296 570 571) ::
 (nat_lit 298,fu "lean" "lean" (tp 38) "ownbeat.leaning" 564 297) ::
 (nat_lit 299,tu []) ::
 (nat_lit 301,tu [.str "code" 576,.str "state" 577,.str "turn" 578,.str "end" 579]) ::
 (nat_lit 302,tu []) ::
 (nat_lit 304,co "leaning_loop" 573 "leaning_loop" 574 575 157 1 299 300 (.ref 301) (.ref 302) 303 580 581) ::
 (nat_lit 305,fu "leaning_loop" "leaning_loop" (tp 39) "ownbeat.leaning" 564 304) ::
 (nat_lit 306,tu []) ::
 (nat_lit 309,co "farthest_lean" 583 "farthest_lean" 584 585 164 2 306 307 (.none) (.none) 308 586 587) ::
 (nat_lit 310,fu "farthest_lean" "farthest_lean" (tp 40) "ownbeat.leaning" 564 309) ::
 (nat_lit 311,tu []) ::
 (nat_lit 313,tu [.str "code" 592,.str "start" 593,.str "turn" 594,.str "ends" 595,.str "count" 596]) ::
 (nat_lit 314,tu []) ::
 (nat_lit 316,co "farthest_ends" 589 "farthest_ends" 590 591 175 3 311 312 (.ref 313) (.ref 314) 315 597 598) ::
 (nat_lit 317,fu "farthest_ends" "farthest_ends" (tp 41) "ownbeat.leaning" 564 316) ::
 (nat_lit 318,tu []) ::
 (nat_lit 320,tu [.str "code" 603,.str "ends" 604,.str "turn" 605,.str "behind" 606,.str "state" 607,.str "letter" 608,.str "row" 609,.str "far" 610]) ::
 (nat_lit 321,tu []) ::
 (nat_lit 323,co "ends_behind" 600 "ends_behind" 601 602 180 3 318 319 (.ref 320) (.ref 321) 322 611 612) ::
 (nat_lit 324,fu "ends_behind" "ends_behind" (tp 42) "ownbeat.leaning" 564 323) ::
 (nat_lit 325,tu []) ::
 (nat_lit 327,tu [.str "word" 617,.str "more" 618,.str "leans" 619,.str "sign" 620]) ::
 (nat_lit 328,tu []) ::
 (nat_lit 330,co "leans_in" 614 "leans_in" 615 616 188 1 325 326 (.ref 327) (.ref 328) 329 621 622) ::
 (nat_lit 331,fu "leans_in" "leans_in" (tp 43) "ownbeat.leaning" 564 330) ::
 (nat_lit 332,tu []) ::
 (nat_lit 335,co "marks" 628 "marks" 629 630 197 2 332 333 (.none) (.none) 334 631 632) ::
 (nat_lit 336,fu "marks" "marks" (tp 46) "ownbeat.marks" 624 335) ::
 (nat_lit 337,tu []) ::
 (nat_lit 339,tu [.str "code" 637,.str "length" 638,.str "found" 639,.str "tail" 640,.str "state" 641,.str "row" 642,.str "signs" 643,.str "place" 644]) ::
 (nat_lit 340,tu []) ::
 (nat_lit 342,co "standing" 634 "standing" 635 636 202 2 337 338 (.ref 339) (.ref 340) 341 645 646) ::
 (nat_lit 343,fu "standing" "standing" (tp 47) "ownbeat.marks" 624 342) ::
 (nat_lit 344,tu []) ::
 (nat_lit 346,tu [.str "code" 651,.str "start" 652,.str "keep" 653]) ::
 (nat_lit 347,tu [.str "code" 654,.str "keep" 655]) ::
 (nat_lit 349,co "tails_behind" 648 "tails_behind" 649 650 210 3 344 345 (.ref 346) (.ref 347) 348 656 657) ::
 (nat_lit 350,fu "tails_behind" "tails_behind" (tp 48) "ownbeat.marks" 624 349) ::
 (nat_lit 351,tu []) ::
 (nat_lit 353,tu [.str "code" 662,.str "node" 663,.str "keep" 664,.str "steps" 665,.str "letter" 666,.str "row" 667,.str "signs" 668]) ::
 (nat_lit 354,tu []) ::
 (nat_lit 356,co "tail_steps" 659 "tail_steps" 660 661 212 3 351 352 (.ref 353) (.ref 354) 355 669 670) ::
 (nat_lit 357,fu "tail_steps" "tail_steps" (tp 49) "ownbeat.marks" 624 356) ::
 (nat_lit 358,tu []) ::
 (nat_lit 360,tu [.str "code" 677,.str "wire" 678]) ::
 (nat_lit 361,tu []) ::
 (nat_lit 363,co "given_words" 674 "given_words" 675 676 219 2 358 359 (.ref 360) (.ref 361) 362 679 680) ::
 (nat_lit 364,fu "given_words" "given_words" (tp 51) "ownbeat.reading" 672 363) ::
 (nat_lit 365,tu []) ::
 (nat_lit 367,tu [.str "code" 685,.str "graph" 686,.str "layers" 687]) ::
 (nat_lit 368,tu []) ::
 (nat_lit 370,co "late" 682 "late" 683 684 223 1 365 366 (.ref 367) (.ref 368) 369 688 689) ::
 (nat_lit 371,fu "late" "late" (tp 52) "ownbeat.reading" 672 370) ::
 (nat_lit 372,tu []) ::
 (nat_lit 374,tu [.str "code" 694,.str "pairs" 695,.str "state" 696,.str "label" 697,.str "pair" 698]) ::
 (nat_lit 375,tu []) ::
 (nat_lit 377,co "first_pairs" 691 "first_pairs" 692 693 227 1 372 373 (.ref 374) (.ref 375) 376 699 700) ::
 (nat_lit 378,fu "first_pairs" "first_pairs" (tp 53) "ownbeat.reading" 672 377) ::
 (nat_lit 379,tu []) ::
 (nat_lit 382,co "read" 702 "read" 703 704 234 2 379 380 (.none) (.none) 381 705 706) ::
 (nat_lit 383,fu "read" "read" (tp 54) "ownbeat.reading" 672 382) ::
 (nat_lit 384,tu []) ::
 (nat_lit 386,tu [.str "code" 711,.str "guesses" 712,.str "word" 713,.str "behind" 714,.str "state" 715,.str "tail" 716,.str "letter" 717,.str "row" 718]) ::
 (nat_lit 387,tu []) ::
 (nat_lit 389,co "guesses_behind" 708 "guesses_behind" 709 710 247 3 384 385 (.ref 386) (.ref 387) 388 719 720) ::
 (nat_lit 390,fu "guesses_behind" "guesses_behind" (tp 55) "ownbeat.reading" 672 389) ::
 (nat_lit 391,tu []) ::
 (nat_lit 394,co "shared_count" 722 "shared_count" 723 724 254 1 391 392 (.none) (.none) 393 725 726) ::
 (nat_lit 395,fu "shared_count" "shared_count" (tp 56) "ownbeat.reading" 672 394) ::
 (nat_lit 396,tu []) ::
 (nat_lit 398,tu [.str "code" 733,.str "graph" 734,.str "layers" 735]) ::
 (nat_lit 399,tu []) ::
 (nat_lit 401,co "settles" 730 "settles" 731 732 260 1 396 397 (.ref 398) (.ref 399) 400 736 737) ::
 (nat_lit 402,fu "settles" "settles" (tp 58) "ownbeat.settling" 728 401) ::
 (nat_lit 403,tu []) ::
 (nat_lit 405,tu [.str "code" 742,.str "forward" 743,.str "graph" 744,.str "pair" 745,.str "label" 746,.str "to" 747]) ::
 (nat_lit 406,tu []) ::
 (nat_lit 408,co "backward_graph" 739 "backward_graph" 740 741 264 1 403 404 (.ref 405) (.ref 406) 407 748 749) ::
 (nat_lit 409,fu "backward_graph" "backward_graph" (tp 59) "ownbeat.settling" 728 408) ::
 (nat_lit 410,tu []) ::
 (nat_lit 412,tu [.str "graph" 754,.str "pairs" 755,.str "pair" 756]) ::
 (nat_lit 413,tu []) ::
 (nat_lit 415,co "unlike_pairs" 751 "unlike_pairs" 752 753 273 1 410 411 (.ref 412) (.ref 413) 414 757 758) ::
 (nat_lit 416,fu "unlike_pairs" "unlike_pairs" (tp 60) "ownbeat.settling" 728 415) ::
 (nat_lit 417,tu [.str "0" 762,.str "1" 763]) ::
 (nat_lit 418,tu []) ::
 (nat_lit 420,tu [.str "code" 768]) ::
 (nat_lit 421,tu []) ::
 (nat_lit 423,co "still" 765 "still" 766 767 281 1 418 419 (.ref 420) (.ref 421) 422 769 770) ::
 (nat_lit 424,fu "still" "still" (tp 63) "ownbeat.stillness" 760 423) ::
 (nat_lit 425,tu []) ::
 (nat_lit 427,tu [.str "sign" 775,.str "count" 776,.str "word" 777,.str "peak" 778,.str "one" 779]) ::
 (nat_lit 428,tu []) ::
 (nat_lit 430,co "put_behind" 772 "put_behind" 773 774 285 3 425 426 (.ref 427) (.ref 428) 429 780 781) ::
 (nat_lit 431,fu "put_behind" "put_behind" (tp 64) "ownbeat.stillness" 760 430) ::
 (nat_lit 432,tu []) ::
 (nat_lit 434,tu [.str "code" 786,.str "keys" 787,.str "state" 788,.str "sign" 789]) ::
 (nat_lit 435,tu []) ::
 (nat_lit 437,co "paper_keys" 783 "paper_keys" 784 785 292 1 432 433 (.ref 434) (.ref 435) 436 790 791) ::
 (nat_lit 438,fu "paper_keys" "paper_keys" (tp 65) "ownbeat.stillness" 760 437) ::
 (nat_lit 439,tu []) ::
 (nat_lit 441,tu [.str "code" 796,.str "runs" 797,.str "peak" 798,.str "state" 799,.str "sign" 800,.str "row" 801]) ::
 (nat_lit 442,tu []) ::
 (nat_lit 444,co "greatest_peak" 793 "greatest_peak" 794 795 298 2 439 440 (.ref 441) (.ref 442) 443 802 803) ::
 (nat_lit 445,fu "greatest_peak" "greatest_peak" (tp 66) "ownbeat.stillness" 760 444) ::
 (nat_lit 446,tu []) ::
 (nat_lit 448,tu [.str "code" 808,.str "runs" 809,.str "over" 810,.str "state" 811,.str "sign" 812,.str "row" 813,.str "run" 814,.str "key" 815]) ::
 (nat_lit 449,tu []) ::
 (nat_lit 451,co "runs_over" 805 "runs_over" 806 807 304 2 446 447 (.ref 448) (.ref 449) 450 816 817) ::
 (nat_lit 452,fu "runs_over" "runs_over" (tp 67) "ownbeat.stillness" 760 451) ::
 (nat_lit 453,tu []) ::
 (nat_lit 455,tu [.str "code" 822,.str "runs" 823,.str "key" 824,.str "over" 825]) ::
 (nat_lit 456,tu []) ::
 (nat_lit 458,co "greatest_runs" 819 "greatest_runs" 820 821 313 1 453 454 (.ref 455) (.ref 456) 457 826 827) ::
 (nat_lit 459,fu "greatest_runs" "greatest_runs" (tp 68) "ownbeat.stillness" 760 458) ::
 (nat_lit 460,tu []) ::
 (nat_lit 462,tu [.str "code" 832,.str "states" 833,.str "sign" 834,.str "graph" 835,.str "state" 836,.str "first" 837,.str "layers" 838]) ::
 (nat_lit 463,tu []) ::
 (nat_lit 465,co "standing_loop" 829 "standing_loop" 830 831 322 1 460 461 (.ref 462) (.ref 463) 464 839 840) ::
 (nat_lit 466,fu "standing_loop" "standing_loop" (tp 69) "ownbeat.stillness" 760 465) ::
 (nat_lit 467,tu []) ::
 (nat_lit 470,co "standing_steps" 842 "standing_steps" 843 844 335 3 467 468 (.none) (.none) 469 845 846) ::
 (nat_lit 471,fu "standing_steps" "standing_steps" (tp 70) "ownbeat.stillness" 760 470) ::
 (nat_lit 472,tu []) ::
 (nat_lit 475,co "loop_of" 848 "loop_of" 849 850 337 1 472 473 (.none) (.none) 474 851 852) ::
 (nat_lit 476,fu "loop_of" "loop_of" (tp 71) "ownbeat.stillness" 760 475) ::
 (nat_lit 477,tu []) ::
 (nat_lit 479,tu [.str "text" 861,.str "code" 862]) ::
 (nat_lit 480,tu []) ::
 (nat_lit 482,co "read_code" 858 "read_code" 859 860 342 1 477 478 (.ref 479) (.ref 480) 481 863 864) ::
 (nat_lit 483,fu "read_code" "read_code" (tp 74) "ownbeat.texts" 854 482) ::
 (nat_lit 484,tu []) ::
 (nat_lit 487,co "code_of" 866 "code_of" 867 868 349 1 484 485 (.none) (.none) 486 869 870) ::
 (nat_lit 488,fu "code_of" "code_of" (tp 75) "ownbeat.texts" 854 487) ::
 (nat_lit 489,tu []) ::
 (nat_lit 492,co "state_of" 872 "state_of" 873 874 352 1 489 490 (.none) (.none) 491 875 876) ::
 (nat_lit 493,fu "state_of" "state_of" (tp 76) "ownbeat.texts" 854 492) ::
 (nat_lit 494,tu []) ::
 (nat_lit 496,tu [.str "row" 881,.str "pieces" 882]) ::
 (nat_lit 497,tu []) ::
 (nat_lit 499,co "row_of" 878 "row_of" 879 880 354 1 494 495 (.ref 496) (.ref 497) 498 883 884) ::
 (nat_lit 500,fu "row_of" "row_of" (tp 77) "ownbeat.texts" 854 499) ::
 (nat_lit 501,tu []) ::
 (nat_lit 503,tu [.str "part" 889]) ::
 (nat_lit 504,tu []) ::
 (nat_lit 506,co "number_of" 886 "number_of" 887 888 357 1 501 502 (.ref 503) (.ref 504) 505 890 891) ::
 (nat_lit 507,fu "number_of" "number_of" (tp 78) "ownbeat.texts" 854 506) ::
 (nat_lit 508,tu []) ::
 (nat_lit 510,tu [.str "graph" 900,.str "back" 901,.str "ahead" 902,.str "pairs" 903]) ::
 (nat_lit 511,tu []) ::
 (nat_lit 513,co "graph_tells" 897 "graph_tells" 898 899 361 3 508 509 (.ref 510) (.ref 511) 512 904 905) ::
 (nat_lit 514,fu "graph_tells" "graph_tells" (tp 81) "ownbeat.windows" 893 513) ::
 (nat_lit 515,tu []) ::
 (nat_lit 517,tu [.str "pairs" 910,.str "graph" 911,.str "count" 912,.str "place" 913]) ::
 (nat_lit 518,tu []) ::
 (nat_lit 520,co "pairs_behind" 907 "pairs_behind" 908 909 365 3 515 516 (.ref 517) (.ref 518) 519 914 915) ::
 (nat_lit 521,fu "pairs_behind" "pairs_behind" (tp 82) "ownbeat.windows" 893 520) ::
 (nat_lit 522,tu []) ::
 (nat_lit 525,co "unlike_steps" 917 "unlike_steps" 918 919 369 1 522 523 (.none) (.none) 524 920 921) ::
 (nat_lit 526,fu "unlike_steps" "unlike_steps" (tp 83) "ownbeat.windows" 893 525) ::
 (nat_lit 527,tu []) ::
 (nat_lit 529,tu [.str "code" 926,.str "graph" 927,.str "both" 928,.str "back" 929]) ::
 (nat_lit 530,tu []) ::
 (nat_lit 532,co "least_window" 923 "least_window" 924 925 374 1 527 528 (.ref 529) (.ref 530) 531 930 931) ::
 (nat_lit 533,fu "least_window" "least_window" (tp 84) "ownbeat.windows" 893 532) ::
 (nat_lit 534,tu [.str "1" 939,.str "2" 940,.str "3" 941,.str "4" 942,.str "5" 943,.str "6" 944,.str "7" 945,.str "8" 946]) ::
 (nat_lit 542,tu []) ::
 (nat_lit 544,tu [.str "self" 967]) ::
 (nat_lit 545,tu []) ::
 (nat_lit 547,co "__init__" 964 "Desk.__init__" 965 966 389 1 542 543 (.ref 544) (.ref 545) 546 968 969) ::
 (nat_lit 548,fu "__init__" "Desk.__init__" (cm (tp 91) 0) "ownbeat.desk" 933 547) ::
 (nat_lit 549,tu []) ::
 (nat_lit 551,tu [.str "self" 974,.str "row" 975,.str "words" 976,.str "name" 977]) ::
 (nat_lit 552,tu []) ::
 (nat_lit 554,co "say" 971 "Desk.say" 972 973 392 2 549 550 (.ref 551) (.ref 552) 553 978 979) ::
 (nat_lit 555,fu "say" "Desk.say" (cm (tp 91) 1) "ownbeat.desk" 933 554) ::
 (nat_lit 556,tu []) ::
 (nat_lit 558,tu [.str "self" 984]) ::
 (nat_lit 559,tu []) ::
 (nat_lit 561,co "names" 981 "Desk.names" 982 983 404 1 556 557 (.ref 558) (.ref 559) 560 985 986) ::
 (nat_lit 562,fu "names" "Desk.names" (cm (tp 91) 2) "ownbeat.desk" 933 561) ::
 (nat_lit 563,tu [.str "codes" 988]) ::
 (nat_lit 564,⟨.type "dict",none,.dict #[en P "__module__" 959 (.str "ownbeat.desk" 933),en P "__firstlineno__" 963 (.int 387 962),en P "__init__" 970 (.ref 548),en P "say" 980 (.ref 555),en P "names" 987 (.ref 562),en P "__static_attributes__" 989 (.ref 563),en P "__dict__" 991 (.ref 566),en P "__weakref__" 993 (.ref 567),en P "__doc__" 994 (.none)] 4,#[]⟩) ::
 (nat_lit 565,⟨.type "type",none,.cls ⟨"Desk",[.type "object"],[.ref 565,.type "object"],564,"Desk",true,[],[],false,none,false⟩,#[none,none,some (.str "Desk" 952),some (.str "Desk" 960),some (.builtin "object.__new__"),some (.bool true)]⟩) ::
 (nat_lit 566,⟨.type "getset_descriptor",none,.fields #[.str "__dict__" 990,.ref 565,.builtin "function.__dict__",.builtin "function.__dict__#set"],#[]⟩) ::
 (nat_lit 567,⟨.type "getset_descriptor",none,.fields #[.str "__weakref__" 992,.ref 565,.builtin "ExceptionGroup.__weakref__",.none],#[]⟩) ::
 (nat_lit 570,tu []) ::
 (nat_lit 572,tu [.str "row" 1000,.str "words" 1001]) ::
 (nat_lit 573,tu []) ::
 (nat_lit 575,co "words_in" 997 "words_in" 998 999 406 1 570 571 (.ref 572) (.ref 573) 574 1002 1003) ::
 (nat_lit 576,fu "words_in" "words_in" (tp 92) "ownbeat.desk" 933 575) ::
 (nat_lit 577,tu []) ::
 (nat_lit 579,tu [.str "words" 1008]) ::
 (nat_lit 580,tu []) ::
 (nat_lit 582,co "are_words" 1005 "are_words" 1006 1007 415 1 577 578 (.ref 579) (.ref 580) 581 1009 1010) ::
 (nat_lit 583,fu "are_words" "are_words" (tp 93) "ownbeat.desk" 933 582) ::
 (nat_lit 584,tu []) ::
 (nat_lit 586,tu [.str "word" 1015]) ::
 (nat_lit 587,tu []) ::
 (nat_lit 589,co "is_name" 1012 "is_name" 1013 1014 421 1 584 585 (.ref 586) (.ref 587) 588 1016 1017) ::
 (nat_lit 590,fu "is_name" "is_name" (tp 94) "ownbeat.desk" 933 589) ::
 (nat_lit 591,tu []) ::
 (nat_lit 593,tu [.str "verb" 1022,.str "word" 1023]) ::
 (nat_lit 594,tu []) ::
 (nat_lit 596,co "fits" 1019 "fits" 1020 1021 423 2 591 592 (.ref 593) (.ref 594) 595 1024 1025) ::
 (nat_lit 597,fu "fits" "fits" (tp 95) "ownbeat.desk" 933 596) ::
 (nat_lit 598,tu []) ::
 (nat_lit 600,tu [.str "word" 1030]) ::
 (nat_lit 601,tu []) ::
 (nat_lit 603,co "is_signs" 1027 "is_signs" 1028 1029 429 1 598 599 (.ref 600) (.ref 601) 602 1031 1032) ::
 (nat_lit 604,fu "is_signs" "is_signs" (tp 96) "ownbeat.desk" 933 603) ::
 (nat_lit 605,tu []) ::
 (nat_lit 607,tu [.str "code" 1037,.str "verb" 1038]) ::
 (nat_lit 608,tu []) ::
 (nat_lit 610,co "answer" 1034 "answer" 1035 1036 431 2 605 606 (.ref 607) (.ref 608) 609 1039 1040) ::
 (nat_lit 611,fu "answer" "answer" (tp 97) "ownbeat.desk" 933 610) ::
 (nat_lit 612,tu []) ::
 (nat_lit 614,tu [.str "number" 1045]) ::
 (nat_lit 615,tu []) ::
 (nat_lit 617,co "number_text" 1042 "number_text" 1043 1044 441 1 612 613 (.ref 614) (.ref 615) 616 1046 1047) ::
 (nat_lit 618,fu "number_text" "number_text" (tp 98) "ownbeat.desk" 933 617) ::
 (nat_lit 619,tu []) ::
 (nat_lit 622,co "numbers_text" 1049 "numbers_text" 1050 1051 443 1 619 620 (.none) (.none) 621 1052 1053) ::
 (nat_lit 623,fu "numbers_text" "numbers_text" (tp 99) "ownbeat.desk" 933 622) ::
 (nat_lit 624,tu []) ::
 (nat_lit 627,co "answer_with" 1055 "answer_with" 1056 1057 445 3 624 625 (.none) (.none) 626 1058 1059) ::
 (nat_lit 628,fu "answer_with" "answer_with" (tp 100) "ownbeat.desk" 933 627) ::
 (nat_lit 629,tu []) ::
 (nat_lit 631,tu [.str "script" 1066,.str "k" 1067]) ::
 (nat_lit 632,tu []) ::
 (nat_lit 634,co "_law_cell" 1063 "_law_cell" 1064 1065 456 2 629 630 (.ref 631) (.ref 632) 633 1068 1069) ::
 (nat_lit 635,fu "_law_cell" "_law_cell" (tp 102) "law_ownbeat_k66_names_on_desks" 1061 634) ::
 (nat_lit 636,tu []) ::
 (nat_lit 638,tu [.str "cell" 1074,.str "great" 1075]) ::
 (nat_lit 639,tu []) ::
 (nat_lit 641,co "_law_store" 1071 "_law_store" 1072 1073 460 1 636 637 (.ref 638) (.ref 639) 640 1076 1077) ::
 (nat_lit 642,fu "_law_store" "_law_store" (tp 103) "law_ownbeat_k66_names_on_desks" 1061 641) ::
 (nat_lit 643,tu []) ::
 (nat_lit 645,tu [.str "store" 1082,.str "many" 1083,.str "told" 1084,.str "one" 1085]) ::
 (nat_lit 646,tu []) ::
 (nat_lit 648,co "_law_take" 1079 "_law_take" 1080 1081 465 2 643 644 (.ref 645) (.ref 646) 647 1086 1087) ::
 (nat_lit 649,fu "_law_take" "_law_take" (tp 104) "law_ownbeat_k66_names_on_desks" 1061 648) ::
 (nat_lit 650,tu []) ::
 (nat_lit 652,tu [.str "desk" 1092,.str "row" 1093,.str "word" 1094,.str "e" 1095]) ::
 (nat_lit 653,tu []) ::
 (nat_lit 655,co "_law_refused" 1089 "_law_refused" 1090 1091 475 2 650 651 (.ref 652) (.ref 653) 654 1096 1097) ::
 (nat_lit 656,fu "_law_refused" "_law_refused" (tp 105) "law_ownbeat_k66_names_on_desks" 1061 655) ::
 (nat_lit 657,tu []) ::
 (nat_lit 659,tu [.str "e" 1102,.str "word" 1103]) ::
 (nat_lit 660,tu []) ::
 (nat_lit 662,co "_law_class" 1099 "_law_class" 1100 1101 482 1 657 658 (.ref 659) (.ref 660) 661 1104 1105) ::
 (nat_lit 663,fu "_law_class" "_law_class" (tp 106) "law_ownbeat_k66_names_on_desks" 1061 662) ::
 (nat_lit 664,tu []) ::
 (nat_lit 667,co "_law_name_drawn" 1107 "_law_name_drawn" 1108 1109 501 1 664 665 (.none) (.none) 666 1110 1111) ::
 (nat_lit 668,fu "_law_name_drawn" "_law_name_drawn" (tp 107) "law_ownbeat_k66_names_on_desks" 1061 667) ::
 (nat_lit 669,tu []) ::
 (nat_lit 671,tu [.str "store" 1116,.str "desk" 1117,.str "name" 1118,.str "row" 1119]) ::
 (nat_lit 672,tu []) ::
 (nat_lit 674,co "_law_gone" 1113 "_law_gone" 1114 1115 506 3 669 670 (.ref 671) (.ref 672) 673 1120 1121) ::
 (nat_lit 675,fu "_law_gone" "_law_gone" (tp 108) "law_ownbeat_k66_names_on_desks" 1061 674) ::
 (nat_lit 676,tu []) ::
 (nat_lit 678,tu [.str "script" 1126,.str "desks" 1127,.str "wires" 1128,.str "at" 1129,.str "store" 1130,.str "which" 1131,.str "name" 1132,.str "desk" 1133,.str "kind" 1134,.str "text" 1135,.str "wire" 1136,.str "one" 1137,.str "other" 1138]) ::
 (nat_lit 679,tu []) ::
 (nat_lit 681,co "law" 1123 "law" 1124 1125 510 1 676 677 (.ref 678) (.ref 679) 680 1139 1140) ::
 (nat_lit 682,fu "law" "law" (tp 109) "law_ownbeat_k66_names_on_desks" 1061 681) :: []
def V:Program:=view Pw [1,2,3,4,5,6,7,8,9,11,12,13,14,15,16,17,18,19,20,21,22,23,24,25,26,28,29,30,31,32,33,34,35,36,38,39,40,41,42,43,45,46,47,48,49,51,52,53,54,55,56,58,59,60,62,63,64,65,66,67,68,69,70,71,73,74,75,76,77,78,80,81,82,83,84,86,87,88,89,90,91,92,93,94,95,96,97,98,99,100,102,103,104,105,106,107,108,109]
noncomputable abbrev hk:Hook:=kmHook K [2,3,15,22,23,24,25,28,35,36,37,40,47,48,49,52,59,61,62,64,65,66,67,68,71,78,79,80,83,90,91,92,95,102,103,104,107,114,115,116,119,126,127,128,131,133,134,136,137,138,140,141,143,144,145,148,149,150,153,154,155,158,159,160,162,163,165,166,167,169,170,172,173,174,176,177,179,180,181,183,184,186,187,188,190,191,193,194,195,197,198,200,201,202,204,205,207,208,209,211,212,214,215,216,218,219,221,222,223,225,226,228,229,230,232,233,235,236,237,240,241,242,244,245,247,248,249,252,253,254,256,257,259,260,261,263,264,266,267,268,270,271,273,274,275,278,279,280,282,283,285,286,287,290,291,292,294,295,297,298,299,301,302,304,305,306,309,310,311,313,314,316,317,318,320,321,323,324,325,327,328,330,331,332,335,336,337,339,340,342,343,344,346,347,349,350,351,353,354,356,357,358,360,361,363,364,365,367,368,370,371,372,374,375,377,378,379,382,383,384,386,387,389,390,391,394,395,396,398,399,401,402,403,405,406,408,409,410,412,413,415,416,417,418,420,421,423,424,425,427,428,430,431,432,434,435,437,438,439,441,442,444,445,446,448,449,451,452,453,455,456,458,459,460,462,463,465,466,467,470,471,472,475,476,477,479,480,482,483,484,487,488,489,492,493,494,496,497,499,500,501,503,504,506,507,508,510,511,513,514,515,517,518,520,521,522,525,526,527,529,530,532,533,534,542,544,545,547,548,549,551,552,554,555,556,558,559,561,562,563,564,565,566,567,570,572,573,575,576,577,579,580,582,583,584,586,587,589,590,591,593,594,596,597,598,600,601,603,604,605,607,608,610,611,612,614,615,617,618,619,622,623,624,627,628,629,631,632,634,635,636,638,639,641,642,643,645,646,648,649,650,652,653,655,656,657,659,660,662,663,664,667,668,669,671,672,674,675,676,678,679,681,682] (fun _=>by kernel_rfl) [345,168]
def insL:BT->Nat->List Obj->BT
 | t,_,[]=>t
 | t,n,x :: xs=>insL (t.ins n x) (n+1) xs
def setL:BT->List (Nat×Obj)->BT
 | t,[]=>t
 | t,(i,x) :: r=>setL (t.set i fun _=>x) r
def lf:Life:={ registered:=[],finalised:=[],alive:=[],known:=0,ids:=[],orphanDicts:=[],counting:=false,cnt:=#[],zero:=[],soft:=0,below:=false,collecting:=false,loading:=false,debug:=0,thresholds:=[2000,10,10],woke:=false,asked:=0,gcEnabled:=true,old:=[],middle:=[],young:=0,intoMiddle:=false }
noncomputable def T0 (P:Params):BT:=insL .nil 0 [boot_o_0 P,boot_o_1 P,boot_o_2 P,boot_o_3 P,boot_o_4 P,boot_o_5 P,boot_o_6 P,boot_o_7 P,boot_o_8 P,boot_o_9 P,boot_o_10 P]
def ev:Env:={ scope:=Pw.main.scope,locals:=mainNs,globals:=mainNs,cells:=[],code:=.ref 13,frame:=some 14 }
abbrev cd:Code:=.body (behindTheImports Pw) ev
abbrev fr:List Frame:=[topFrame ⟨0,0,0,0⟩]
abbrev an:Option Value:=some (.ref 6)
noncomputable def T1 (P:Params):BT:=insL (setL (T0 P) []) 11 [tu [],
 ⟨.none,none,.fields #[],#[]⟩,
 ⟨.type "code",none,.fields #[.str "<module>" 182,.str "<module>" 183,.str "/claim/cut.py" 184,.int 1 0,.int 0 0,.int 0 0,.int 0 0,.int 0 0,.ref 11,.bool false,.int 181 0,.ref 12,.none,.none,.none,.none,.int 185 0,.int 1 0,.str "/claim/cut.py" 186],#[]⟩,
 ⟨.type "frame",none,.plain,#[some (.ref 13),some (.ref 3),some (.ref 3),none,some (.str "__main__" 164),none,some (.ref 0)]⟩]
noncomputable def T2 (P:Params):BT:=insL (setL (T1 P) []) 15 []
theorem zero (w:World):boot_heap w.params=absHeap (T0 w.params) (nat_lit 11) lf:=by kernel_rfl
theorem pre:∀ (w:World) (os:OsState),topGo treeTable Pw w (nat_lit 11) an (nat_lit 12) ⟨boot_heap w.params,#[],boot_drawn,boot_toks,os⟩ (topStub Pw)=some (SharedT.abs ⟨T1 w.params,nat_lit 15,lf,#[],⟨0,0,0,0⟩,nat_lit 187,os⟩,⟨denote treeTable cd,cd,⟨0,0,0,0⟩,fr⟩):=by
 intro w os
 rw [Fast.te14364793385576792824]
 kernel_rfl
theorem blk:∀ (w:World) (os:OsState),segRun treeTable Pw w (nat_lit 11) an 1 (nat_lit 1) (SharedT.abs ⟨T1 w.params,nat_lit 15,lf,#[],⟨0,0,0,0⟩,nat_lit 187,os⟩) (blockOf (behindTheImports Pw) ev cd ⟨0,0,0,0⟩ fr)=some (.next,SharedT.abs ⟨T2 w.params,nat_lit 15,lf,#[],⟨0,0,0,0⟩,nat_lit 187,os⟩,cd,⟨0,0,0,0⟩):=by
 intro w os
 rw [Fast.te14364793385576792824]
 kernel_rfl
noncomputable def T3 (P:Params):BT:=insL (setL (T2 P) [(3,⟨.type "dict",none,.dict #[en P "__name__" 165 (.str "ownbeat.errors" 187),en P "__doc__" 166 (.none),en P "__package__" 167 (.none),en P "__loader__" 168 (.builtin "__main__.__loader__#opaque"),en P "__spec__" 169 (.none),en P "__annotations__" 170 (.ref 6),en P "__builtins__" 171 (.ref 4),en P "__file__" 173 (.str "/claim/cut.py" 172),en P "__cached__" 174 (.none),en P "BeatError" 206 (.ref 24)] 10,#[]⟩),
 (12,⟨.none,none,.fields #[.int 2 0,.int 0 0,.ref 20],#[]⟩)]) 15 [tu [.type "ValueError"],
 ⟨.type "builtin_function_or_method",none,.fields #[.builtin "type.__prepare__",.type "type"],#[]⟩,
 ⟨.type "dict",none,.dict #[en P "__module__" 196 (.str "ownbeat.errors" 187),en P "__qualname__" 198 (.str "BeatError" 197),en P "__firstlineno__" 200 (.int 2 199),en P "__static_attributes__" 201 (.ref 22)] 4,#[]⟩,
 tu [],
 ⟨.none,none,.fields #[],#[]⟩,
 ⟨.type "code",none,.fields #[.str "BeatError" 191,.str "BeatError" 192,.str "/claim/cut.py" 193,.int 2 0,.int 0 0,.int 0 0,.int 0 0,.int 0 0,.ref 18,.bool false,.int 181 0,.ref 19,.none,.none,.none,.none,.int 194 0,.int 2 0,.str "/claim/cut.py" 195],#[]⟩,
 ⟨.type "frame",none,.plain,#[some (.ref 20),some (.ref 3),some (.ref 17),none,some (.str "ownbeat.errors" 187),none,some (.ref 0)]⟩,
 tu [],
 ⟨.type "dict",none,.dict #[en P "__module__" 196 (.str "ownbeat.errors" 187),en P "__firstlineno__" 200 (.int 2 199),en P "__static_attributes__" 201 (.ref 22),en P "__weakref__" 203 (.ref 25),en P "__doc__" 204 (.none)] 3,#[]⟩,
 ⟨.type "type",none,.cls ⟨"BeatError",[.type "ValueError"],[.ref 24,.type "ValueError",.type "Exception",.type "BaseException",.type "object"],23,"BeatError",true,[],[],false,none,false⟩,#[some (.ref 15),none,some (.str "BeatError" 189),some (.str "BeatError" 197),some (.builtin "ValueError.__new__"),some (.bool true)]⟩,
 ⟨.type "getset_descriptor",none,.fields #[.str "__weakref__" 202,.ref 24,.builtin "ExceptionGroup.__weakref__",.none],#[]⟩,
 ⟨.type "super",none,.fields #[.ref 24,.ref 24,.ref 24],#[]⟩,
 ⟨.type "builtin_function_or_method",none,.fields #[.builtin "object.__init_subclass__",.ref 24],#[]⟩]
def S2:List Stmt:=[tp 0,tp 1]
theorem g2:∀ (w:World) (os:OsState),segRunT treeTable Pw w (nat_lit 11) an 1 (nat_lit 196) ⟨T2 w.params,nat_lit 15,lf,#[],⟨0,0,0,0⟩,nat_lit 187,os⟩ (piecesOf S2 ev cd ⟨0,0,0,0⟩ fr)=some (.next,⟨T3 w.params,nat_lit 28,lf,#[],⟨0,0,0,0⟩,nat_lit 207,os⟩,cd,⟨2,0,3,8⟩):=by
 intro w os
 rw [Fast.te14364793385576792824]
 kernel_rfl
noncomputable def T4 (P:Params):BT:=insL (setL (T3 P) [(3,⟨.type "dict",none,.dict #[en P "__name__" 165 (.str "ownbeat.errors" 187),en P "__doc__" 166 (.none),en P "__package__" 167 (.none),en P "__loader__" 168 (.builtin "__main__.__loader__#opaque"),en P "__spec__" 169 (.none),en P "__annotations__" 170 (.ref 6),en P "__builtins__" 171 (.ref 4),en P "__file__" 173 (.str "/claim/cut.py" 172),en P "__cached__" 174 (.none),en P "BeatError" 206 (.ref 24),en P "NoLetter" 222 (.ref 37)] 11,#[]⟩),
 (12,⟨.none,none,.fields #[.int 2 0,.int 0 0,.ref 20,.int 4 0,.int 0 0,.ref 33],#[]⟩),
 (24,⟨.type "type",none,.cls ⟨"BeatError",[.type "ValueError"],[.ref 24,.type "ValueError",.type "Exception",.type "BaseException",.type "object"],23,"BeatError",true,[],[.ref 37],false,none,false⟩,#[some (.ref 15),none,some (.str "BeatError" 189),some (.str "BeatError" 197),some (.builtin "ValueError.__new__"),some (.bool true)]⟩)]) 28 [tu [.ref 24],
 ⟨.type "builtin_function_or_method",none,.fields #[.builtin "type.__prepare__",.type "type"],#[]⟩,
 ⟨.type "dict",none,.dict #[en P "__module__" 214 (.str "ownbeat.errors" 187),en P "__qualname__" 216 (.str "NoLetter" 215),en P "__firstlineno__" 218 (.int 4 217),en P "__static_attributes__" 219 (.ref 35)] 4,#[]⟩,
 tu [],
 ⟨.none,none,.fields #[],#[]⟩,
 ⟨.type "code",none,.fields #[.str "NoLetter" 209,.str "NoLetter" 210,.str "/claim/cut.py" 211,.int 4 0,.int 0 0,.int 0 0,.int 0 0,.int 0 0,.ref 31,.bool false,.int 181 0,.ref 32,.none,.none,.none,.none,.int 212 0,.int 4 0,.str "/claim/cut.py" 213],#[]⟩,
 ⟨.type "frame",none,.plain,#[some (.ref 33),some (.ref 3),some (.ref 30),none,some (.str "ownbeat.errors" 187),none,some (.ref 0)]⟩,
 tu [],
 ⟨.type "dict",none,.dict #[en P "__module__" 214 (.str "ownbeat.errors" 187),en P "__firstlineno__" 218 (.int 4 217),en P "__static_attributes__" 219 (.ref 35),en P "__doc__" 220 (.none)] 2,#[]⟩,
 cl "NoLetter" 37 36 28 207 215,
 ⟨.type "super",none,.fields #[.ref 37,.ref 37,.ref 37],#[]⟩,
 ⟨.type "builtin_function_or_method",none,.fields #[.builtin "object.__init_subclass__",.ref 37],#[]⟩]
def S3:List Stmt:=[tp 2]
theorem g3:∀ (w:World) (os:OsState),segRunT treeTable Pw w (nat_lit 11) an 1 (nat_lit 214) ⟨T3 w.params,nat_lit 28,lf,#[],⟨0,0,0,0⟩,nat_lit 207,os⟩ (piecesOf S3 ev cd ⟨2,0,3,8⟩ fr)=some (.next,⟨T4 w.params,nat_lit 40,lf,#[],⟨0,0,0,0⟩,nat_lit 223,os⟩,cd,⟨4,0,5,8⟩):=by
 intro w os
 rw [Fast.te14364793385576792824]
 kernel_rfl
noncomputable def T5 (P:Params):BT:=insL (setL (T4 P) [(3,⟨.type "dict",none,.dict #[en P "__name__" 165 (.str "ownbeat.errors" 187),en P "__doc__" 166 (.none),en P "__package__" 167 (.none),en P "__loader__" 168 (.builtin "__main__.__loader__#opaque"),en P "__spec__" 169 (.none),en P "__annotations__" 170 (.ref 6),en P "__builtins__" 171 (.ref 4),en P "__file__" 173 (.str "/claim/cut.py" 172),en P "__cached__" 174 (.none),en P "BeatError" 206 (.ref 24),en P "NoLetter" 222 (.ref 37),en P "NoCode" 238 (.ref 49)] 12,#[]⟩),
 (12,⟨.none,none,.fields #[.int 2 0,.int 0 0,.ref 20,.int 4 0,.int 0 0,.ref 33,.int 6 0,.int 0 0,.ref 45],#[]⟩),
 (24,⟨.type "type",none,.cls ⟨"BeatError",[.type "ValueError"],[.ref 24,.type "ValueError",.type "Exception",.type "BaseException",.type "object"],23,"BeatError",true,[],[.ref 37,.ref 49],false,none,false⟩,#[some (.ref 15),none,some (.str "BeatError" 189),some (.str "BeatError" 197),some (.builtin "ValueError.__new__"),some (.bool true)]⟩)]) 40 [tu [.ref 24],
 ⟨.type "builtin_function_or_method",none,.fields #[.builtin "type.__prepare__",.type "type"],#[]⟩,
 ⟨.type "dict",none,.dict #[en P "__module__" 230 (.str "ownbeat.errors" 187),en P "__qualname__" 232 (.str "NoCode" 231),en P "__firstlineno__" 234 (.int 6 233),en P "__static_attributes__" 235 (.ref 47)] 4,#[]⟩,
 tu [],
 ⟨.none,none,.fields #[],#[]⟩,
 ⟨.type "code",none,.fields #[.str "NoCode" 225,.str "NoCode" 226,.str "/claim/cut.py" 227,.int 6 0,.int 0 0,.int 0 0,.int 0 0,.int 0 0,.ref 43,.bool false,.int 181 0,.ref 44,.none,.none,.none,.none,.int 228 0,.int 6 0,.str "/claim/cut.py" 229],#[]⟩,
 ⟨.type "frame",none,.plain,#[some (.ref 45),some (.ref 3),some (.ref 42),none,some (.str "ownbeat.errors" 187),none,some (.ref 0)]⟩,
 tu [],
 ⟨.type "dict",none,.dict #[en P "__module__" 230 (.str "ownbeat.errors" 187),en P "__firstlineno__" 234 (.int 6 233),en P "__static_attributes__" 235 (.ref 47),en P "__doc__" 236 (.none)] 2,#[]⟩,
 cl "NoCode" 49 48 40 223 231,
 ⟨.type "super",none,.fields #[.ref 49,.ref 49,.ref 49],#[]⟩,
 ⟨.type "builtin_function_or_method",none,.fields #[.builtin "object.__init_subclass__",.ref 49],#[]⟩]
def S4:List Stmt:=[tp 3]
theorem g4:∀ (w:World) (os:OsState),segRunT treeTable Pw w (nat_lit 11) an 1 (nat_lit 214) ⟨T4 w.params,nat_lit 40,lf,#[],⟨0,0,0,0⟩,nat_lit 223,os⟩ (piecesOf S4 ev cd ⟨4,0,5,8⟩ fr)=some (.next,⟨T5 w.params,nat_lit 52,lf,#[],⟨0,0,0,0⟩,nat_lit 239,os⟩,cd,⟨6,0,7,8⟩):=by
 intro w os
 rw [Fast.te14364793385576792824]
 kernel_rfl
noncomputable def T6 (P:Params):BT:=insL (setL (T5 P) [(3,⟨.type "dict",none,.dict #[en P "__name__" 165 (.str "ownbeat.errors" 187),en P "__doc__" 166 (.none),en P "__package__" 167 (.none),en P "__loader__" 168 (.builtin "__main__.__loader__#opaque"),en P "__spec__" 169 (.none),en P "__annotations__" 170 (.ref 6),en P "__builtins__" 171 (.ref 4),en P "__file__" 173 (.str "/claim/cut.py" 172),en P "__cached__" 174 (.none),en P "BeatError" 206 (.ref 24),en P "NoLetter" 222 (.ref 37),en P "NoCode" 238 (.ref 49),en P "NoWire" 263 (.ref 68)] 13,#[]⟩),
 (12,⟨.none,none,.fields #[.int 2 0,.int 0 0,.ref 20,.int 4 0,.int 0 0,.ref 33,.int 6 0,.int 0 0,.ref 45,.int 8 0,.int 0 0,.ref 57],#[]⟩),
 (24,⟨.type "type",none,.cls ⟨"BeatError",[.type "ValueError"],[.ref 24,.type "ValueError",.type "Exception",.type "BaseException",.type "object"],23,"BeatError",true,[],[.ref 37,.ref 49,.ref 68],false,none,false⟩,#[some (.ref 15),none,some (.str "BeatError" 189),some (.str "BeatError" 197),some (.builtin "ValueError.__new__"),some (.bool true)]⟩)]) 52 [tu [.ref 24],
 ⟨.type "builtin_function_or_method",none,.fields #[.builtin "type.__prepare__",.type "type"],#[]⟩,
 ⟨.type "dict",none,.dict #[en P "__module__" 246 (.str "ownbeat.errors" 187),en P "__qualname__" 248 (.str "NoWire" 247),en P "__firstlineno__" 250 (.int 8 249),en P "__init__" 258 (.ref 65),en P "__static_attributes__" 260 (.ref 66)] 5,#[]⟩,
 tu [],
 ⟨.none,none,.fields #[.int 10 0,.int 4 0,.ref 64],#[]⟩,
 ⟨.type "code",none,.fields #[.str "NoWire" 241,.str "NoWire" 242,.str "/claim/cut.py" 243,.int 8 0,.int 0 0,.int 0 0,.int 0 0,.int 0 0,.ref 55,.bool false,.int 181 0,.ref 56,.none,.none,.none,.none,.int 244 0,.int 8 0,.str "/claim/cut.py" 245],#[]⟩,
 ⟨.type "frame",none,.plain,#[some (.ref 57),some (.ref 3),some (.ref 54),none,some (.str "ownbeat.errors" 187),none,some (.ref 0)]⟩,
 tu [],
 ⟨.none,none,.fields #[],#[]⟩,
 tu [.str "self" 254,.str "at" 255],
 tu [],
 ⟨.none,none,.func ⟨"__init__","NoWire.__init__",dA (cm (tp 4) 0),.stmts (dB (cm (tp 4) 0)),dS (cm (tp 4) 0),0,[],.none,.none,.none,.none,none,.none,.none,0⟩,#[]⟩,
 co "__init__" 251 "NoWire.__init__" 252 253 10 2 59 60 (.ref 61) (.ref 62) 63 256 257,
 fu "__init__" "NoWire.__init__" (cm (tp 4) 0) "ownbeat.errors" 187 64,
 tu [.str "at" 259],
 ⟨.type "dict",none,.dict #[en P "__module__" 246 (.str "ownbeat.errors" 187),en P "__firstlineno__" 250 (.int 8 249),en P "__init__" 258 (.ref 65),en P "__static_attributes__" 260 (.ref 66),en P "__doc__" 261 (.none)] 2,#[]⟩,
 cl "NoWire" 68 67 52 239 247,
 ⟨.type "super",none,.fields #[.ref 68,.ref 68,.ref 68],#[]⟩,
 ⟨.type "builtin_function_or_method",none,.fields #[.builtin "object.__init_subclass__",.ref 68],#[]⟩]
def S5:List Stmt:=[tp 4]
theorem g5:∀ (w:World) (os:OsState),segRunT treeTable Pw w (nat_lit 11) an 1 (nat_lit 246) ⟨T5 w.params,nat_lit 52,lf,#[],⟨0,0,0,0⟩,nat_lit 239,os⟩ (piecesOf S5 ev cd ⟨6,0,7,8⟩ fr)=some (.next,⟨T6 w.params,nat_lit 71,lf,#[],⟨0,0,0,0⟩,nat_lit 264,os⟩,cd,⟨8,0,12,20⟩):=by
 intro w os
 rw [Fast.te14364793385576792824]
 kernel_rfl
noncomputable def T7 (P:Params):BT:=insL (setL (T6 P) [(3,⟨.type "dict",none,.dict #[en P "__name__" 165 (.str "ownbeat.errors" 187),en P "__doc__" 166 (.none),en P "__package__" 167 (.none),en P "__loader__" 168 (.builtin "__main__.__loader__#opaque"),en P "__spec__" 169 (.none),en P "__annotations__" 170 (.ref 6),en P "__builtins__" 171 (.ref 4),en P "__file__" 173 (.str "/claim/cut.py" 172),en P "__cached__" 174 (.none),en P "BeatError" 206 (.ref 24),en P "NoLetter" 222 (.ref 37),en P "NoCode" 238 (.ref 49),en P "NoWire" 263 (.ref 68),en P "NoWindow" 279 (.ref 80)] 14,#[]⟩),
 (12,⟨.none,none,.fields #[.int 2 0,.int 0 0,.ref 20,.int 4 0,.int 0 0,.ref 33,.int 6 0,.int 0 0,.ref 45,.int 8 0,.int 0 0,.ref 57,.int 13 0,.int 0 0,.ref 76],#[]⟩),
 (24,⟨.type "type",none,.cls ⟨"BeatError",[.type "ValueError"],[.ref 24,.type "ValueError",.type "Exception",.type "BaseException",.type "object"],23,"BeatError",true,[],[.ref 37,.ref 49,.ref 68,.ref 80],false,none,false⟩,#[some (.ref 15),none,some (.str "BeatError" 189),some (.str "BeatError" 197),some (.builtin "ValueError.__new__"),some (.bool true)]⟩)]) 71 [tu [.ref 24],
 ⟨.type "builtin_function_or_method",none,.fields #[.builtin "type.__prepare__",.type "type"],#[]⟩,
 ⟨.type "dict",none,.dict #[en P "__module__" 271 (.str "ownbeat.errors" 187),en P "__qualname__" 273 (.str "NoWindow" 272),en P "__firstlineno__" 275 (.int 13 274),en P "__static_attributes__" 276 (.ref 78)] 4,#[]⟩,
 tu [],
 ⟨.none,none,.fields #[],#[]⟩,
 ⟨.type "code",none,.fields #[.str "NoWindow" 266,.str "NoWindow" 267,.str "/claim/cut.py" 268,.int 13 0,.int 0 0,.int 0 0,.int 0 0,.int 0 0,.ref 74,.bool false,.int 181 0,.ref 75,.none,.none,.none,.none,.int 269 0,.int 13 0,.str "/claim/cut.py" 270],#[]⟩,
 ⟨.type "frame",none,.plain,#[some (.ref 76),some (.ref 3),some (.ref 73),none,some (.str "ownbeat.errors" 187),none,some (.ref 0)]⟩,
 tu [],
 ⟨.type "dict",none,.dict #[en P "__module__" 271 (.str "ownbeat.errors" 187),en P "__firstlineno__" 275 (.int 13 274),en P "__static_attributes__" 276 (.ref 78),en P "__doc__" 277 (.none)] 2,#[]⟩,
 cl "NoWindow" 80 79 71 264 272,
 ⟨.type "super",none,.fields #[.ref 80,.ref 80,.ref 80],#[]⟩,
 ⟨.type "builtin_function_or_method",none,.fields #[.builtin "object.__init_subclass__",.ref 80],#[]⟩]
def S6:List Stmt:=[tp 5]
theorem g6:∀ (w:World) (os:OsState),segRunT treeTable Pw w (nat_lit 11) an 1 (nat_lit 214) ⟨T6 w.params,nat_lit 71,lf,#[],⟨0,0,0,0⟩,nat_lit 264,os⟩ (piecesOf S6 ev cd ⟨8,0,12,20⟩ fr)=some (.next,⟨T7 w.params,nat_lit 83,lf,#[],⟨0,0,0,0⟩,nat_lit 280,os⟩,cd,⟨13,0,14,8⟩):=by
 intro w os
 rw [Fast.te14364793385576792824]
 kernel_rfl
noncomputable def T8 (P:Params):BT:=insL (setL (T7 P) [(3,⟨.type "dict",none,.dict #[en P "__name__" 165 (.str "ownbeat.errors" 187),en P "__doc__" 166 (.none),en P "__package__" 167 (.none),en P "__loader__" 168 (.builtin "__main__.__loader__#opaque"),en P "__spec__" 169 (.none),en P "__annotations__" 170 (.ref 6),en P "__builtins__" 171 (.ref 4),en P "__file__" 173 (.str "/claim/cut.py" 172),en P "__cached__" 174 (.none),en P "BeatError" 206 (.ref 24),en P "NoLetter" 222 (.ref 37),en P "NoCode" 238 (.ref 49),en P "NoWire" 263 (.ref 68),en P "NoWindow" 279 (.ref 80),en P "NoMark" 295 (.ref 92)] 15,#[]⟩),
 (12,⟨.none,none,.fields #[.int 2 0,.int 0 0,.ref 20,.int 4 0,.int 0 0,.ref 33,.int 6 0,.int 0 0,.ref 45,.int 8 0,.int 0 0,.ref 57,.int 13 0,.int 0 0,.ref 76,.int 15 0,.int 0 0,.ref 88],#[]⟩),
 (24,⟨.type "type",none,.cls ⟨"BeatError",[.type "ValueError"],[.ref 24,.type "ValueError",.type "Exception",.type "BaseException",.type "object"],23,"BeatError",true,[],[.ref 37,.ref 49,.ref 68,.ref 80,.ref 92],false,none,false⟩,#[some (.ref 15),none,some (.str "BeatError" 189),some (.str "BeatError" 197),some (.builtin "ValueError.__new__"),some (.bool true)]⟩)]) 83 [tu [.ref 24],
 ⟨.type "builtin_function_or_method",none,.fields #[.builtin "type.__prepare__",.type "type"],#[]⟩,
 ⟨.type "dict",none,.dict #[en P "__module__" 287 (.str "ownbeat.errors" 187),en P "__qualname__" 289 (.str "NoMark" 288),en P "__firstlineno__" 291 (.int 15 290),en P "__static_attributes__" 292 (.ref 90)] 4,#[]⟩,
 tu [],
 ⟨.none,none,.fields #[],#[]⟩,
 ⟨.type "code",none,.fields #[.str "NoMark" 282,.str "NoMark" 283,.str "/claim/cut.py" 284,.int 15 0,.int 0 0,.int 0 0,.int 0 0,.int 0 0,.ref 86,.bool false,.int 181 0,.ref 87,.none,.none,.none,.none,.int 285 0,.int 15 0,.str "/claim/cut.py" 286],#[]⟩,
 ⟨.type "frame",none,.plain,#[some (.ref 88),some (.ref 3),some (.ref 85),none,some (.str "ownbeat.errors" 187),none,some (.ref 0)]⟩,
 tu [],
 ⟨.type "dict",none,.dict #[en P "__module__" 287 (.str "ownbeat.errors" 187),en P "__firstlineno__" 291 (.int 15 290),en P "__static_attributes__" 292 (.ref 90),en P "__doc__" 293 (.none)] 2,#[]⟩,
 cl "NoMark" 92 91 83 280 288,
 ⟨.type "super",none,.fields #[.ref 92,.ref 92,.ref 92],#[]⟩,
 ⟨.type "builtin_function_or_method",none,.fields #[.builtin "object.__init_subclass__",.ref 92],#[]⟩]
def S7:List Stmt:=[tp 6]
theorem g7:∀ (w:World) (os:OsState),segRunT treeTable Pw w (nat_lit 11) an 1 (nat_lit 214) ⟨T7 w.params,nat_lit 83,lf,#[],⟨0,0,0,0⟩,nat_lit 280,os⟩ (piecesOf S7 ev cd ⟨13,0,14,8⟩ fr)=some (.next,⟨T8 w.params,nat_lit 95,lf,#[],⟨0,0,0,0⟩,nat_lit 296,os⟩,cd,⟨15,0,16,8⟩):=by
 intro w os
 rw [Fast.te14364793385576792824]
 kernel_rfl
noncomputable def T9 (P:Params):BT:=insL (setL (T8 P) [(3,⟨.type "dict",none,.dict #[en P "__name__" 165 (.str "ownbeat.errors" 187),en P "__doc__" 166 (.none),en P "__package__" 167 (.none),en P "__loader__" 168 (.builtin "__main__.__loader__#opaque"),en P "__spec__" 169 (.none),en P "__annotations__" 170 (.ref 6),en P "__builtins__" 171 (.ref 4),en P "__file__" 173 (.str "/claim/cut.py" 172),en P "__cached__" 174 (.none),en P "BeatError" 206 (.ref 24),en P "NoLetter" 222 (.ref 37),en P "NoCode" 238 (.ref 49),en P "NoWire" 263 (.ref 68),en P "NoWindow" 279 (.ref 80),en P "NoMark" 295 (.ref 92),en P "NoText" 311 (.ref 104)] 16,#[]⟩),
 (12,⟨.none,none,.fields #[.int 2 0,.int 0 0,.ref 20,.int 4 0,.int 0 0,.ref 33,.int 6 0,.int 0 0,.ref 45,.int 8 0,.int 0 0,.ref 57,.int 13 0,.int 0 0,.ref 76,.int 15 0,.int 0 0,.ref 88,.int 17 0,.int 0 0,.ref 100],#[]⟩),
 (24,⟨.type "type",none,.cls ⟨"BeatError",[.type "ValueError"],[.ref 24,.type "ValueError",.type "Exception",.type "BaseException",.type "object"],23,"BeatError",true,[],[.ref 37,.ref 49,.ref 68,.ref 80,.ref 92,.ref 104],false,none,false⟩,#[some (.ref 15),none,some (.str "BeatError" 189),some (.str "BeatError" 197),some (.builtin "ValueError.__new__"),some (.bool true)]⟩)]) 95 [tu [.ref 24],
 ⟨.type "builtin_function_or_method",none,.fields #[.builtin "type.__prepare__",.type "type"],#[]⟩,
 ⟨.type "dict",none,.dict #[en P "__module__" 303 (.str "ownbeat.errors" 187),en P "__qualname__" 305 (.str "NoText" 304),en P "__firstlineno__" 307 (.int 17 306),en P "__static_attributes__" 308 (.ref 102)] 4,#[]⟩,
 tu [],
 ⟨.none,none,.fields #[],#[]⟩,
 ⟨.type "code",none,.fields #[.str "NoText" 298,.str "NoText" 299,.str "/claim/cut.py" 300,.int 17 0,.int 0 0,.int 0 0,.int 0 0,.int 0 0,.ref 98,.bool false,.int 181 0,.ref 99,.none,.none,.none,.none,.int 301 0,.int 17 0,.str "/claim/cut.py" 302],#[]⟩,
 ⟨.type "frame",none,.plain,#[some (.ref 100),some (.ref 3),some (.ref 97),none,some (.str "ownbeat.errors" 187),none,some (.ref 0)]⟩,
 tu [],
 ⟨.type "dict",none,.dict #[en P "__module__" 303 (.str "ownbeat.errors" 187),en P "__firstlineno__" 307 (.int 17 306),en P "__static_attributes__" 308 (.ref 102),en P "__doc__" 309 (.none)] 2,#[]⟩,
 cl "NoText" 104 103 95 296 304,
 ⟨.type "super",none,.fields #[.ref 104,.ref 104,.ref 104],#[]⟩,
 ⟨.type "builtin_function_or_method",none,.fields #[.builtin "object.__init_subclass__",.ref 104],#[]⟩]
def S8:List Stmt:=[tp 7]
theorem g8:∀ (w:World) (os:OsState),segRunT treeTable Pw w (nat_lit 11) an 1 (nat_lit 214) ⟨T8 w.params,nat_lit 95,lf,#[],⟨0,0,0,0⟩,nat_lit 296,os⟩ (piecesOf S8 ev cd ⟨15,0,16,8⟩ fr)=some (.next,⟨T9 w.params,nat_lit 107,lf,#[],⟨0,0,0,0⟩,nat_lit 312,os⟩,cd,⟨17,0,18,8⟩):=by
 intro w os
 rw [Fast.te14364793385576792824]
 kernel_rfl
noncomputable def T10 (P:Params):BT:=insL (setL (T9 P) [(3,⟨.type "dict",none,.dict #[en P "__name__" 165 (.str "ownbeat.errors" 187),en P "__doc__" 166 (.none),en P "__package__" 167 (.none),en P "__loader__" 168 (.builtin "__main__.__loader__#opaque"),en P "__spec__" 169 (.none),en P "__annotations__" 170 (.ref 6),en P "__builtins__" 171 (.ref 4),en P "__file__" 173 (.str "/claim/cut.py" 172),en P "__cached__" 174 (.none),en P "BeatError" 206 (.ref 24),en P "NoLetter" 222 (.ref 37),en P "NoCode" 238 (.ref 49),en P "NoWire" 263 (.ref 68),en P "NoWindow" 279 (.ref 80),en P "NoMark" 295 (.ref 92),en P "NoText" 311 (.ref 104),en P "NoName" 327 (.ref 116)] 17,#[]⟩),
 (12,⟨.none,none,.fields #[.int 2 0,.int 0 0,.ref 20,.int 4 0,.int 0 0,.ref 33,.int 6 0,.int 0 0,.ref 45,.int 8 0,.int 0 0,.ref 57,.int 13 0,.int 0 0,.ref 76,.int 15 0,.int 0 0,.ref 88,.int 17 0,.int 0 0,.ref 100,.int 19 0,.int 0 0,.ref 112],#[]⟩),
 (24,⟨.type "type",none,.cls ⟨"BeatError",[.type "ValueError"],[.ref 24,.type "ValueError",.type "Exception",.type "BaseException",.type "object"],23,"BeatError",true,[],[.ref 37,.ref 49,.ref 68,.ref 80,.ref 92,.ref 104,.ref 116],false,none,false⟩,#[some (.ref 15),none,some (.str "BeatError" 189),some (.str "BeatError" 197),some (.builtin "ValueError.__new__"),some (.bool true)]⟩)]) 107 [tu [.ref 24],
 ⟨.type "builtin_function_or_method",none,.fields #[.builtin "type.__prepare__",.type "type"],#[]⟩,
 ⟨.type "dict",none,.dict #[en P "__module__" 319 (.str "ownbeat.errors" 187),en P "__qualname__" 321 (.str "NoName" 320),en P "__firstlineno__" 323 (.int 19 322),en P "__static_attributes__" 324 (.ref 114)] 4,#[]⟩,
 tu [],
 ⟨.none,none,.fields #[],#[]⟩,
 ⟨.type "code",none,.fields #[.str "NoName" 314,.str "NoName" 315,.str "/claim/cut.py" 316,.int 19 0,.int 0 0,.int 0 0,.int 0 0,.int 0 0,.ref 110,.bool false,.int 181 0,.ref 111,.none,.none,.none,.none,.int 317 0,.int 19 0,.str "/claim/cut.py" 318],#[]⟩,
 ⟨.type "frame",none,.plain,#[some (.ref 112),some (.ref 3),some (.ref 109),none,some (.str "ownbeat.errors" 187),none,some (.ref 0)]⟩,
 tu [],
 ⟨.type "dict",none,.dict #[en P "__module__" 319 (.str "ownbeat.errors" 187),en P "__firstlineno__" 323 (.int 19 322),en P "__static_attributes__" 324 (.ref 114),en P "__doc__" 325 (.none)] 2,#[]⟩,
 cl "NoName" 116 115 107 312 320,
 ⟨.type "super",none,.fields #[.ref 116,.ref 116,.ref 116],#[]⟩,
 ⟨.type "builtin_function_or_method",none,.fields #[.builtin "object.__init_subclass__",.ref 116],#[]⟩]
def S9:List Stmt:=[tp 8]
theorem g9:∀ (w:World) (os:OsState),segRunT treeTable Pw w (nat_lit 11) an 1 (nat_lit 214) ⟨T9 w.params,nat_lit 107,lf,#[],⟨0,0,0,0⟩,nat_lit 312,os⟩ (piecesOf S9 ev cd ⟨17,0,18,8⟩ fr)=some (.next,⟨T10 w.params,nat_lit 119,lf,#[],⟨0,0,0,0⟩,nat_lit 328,os⟩,cd,⟨19,0,20,8⟩):=by
 intro w os
 rw [Fast.te14364793385576792824]
 kernel_rfl
noncomputable def T11 (P:Params):BT:=insL (setL (T10 P) [(3,⟨.type "dict",none,.dict #[en P "__name__" 165 (.str "ownbeat.walks" 344),en P "__doc__" 166 (.none),en P "__package__" 167 (.none),en P "__loader__" 168 (.builtin "__main__.__loader__#opaque"),en P "__spec__" 169 (.none),en P "__annotations__" 170 (.ref 6),en P "__builtins__" 171 (.ref 4),en P "__file__" 173 (.str "/claim/cut.py" 172),en P "__cached__" 174 (.none),en P "BeatError" 206 (.ref 24),en P "NoLetter" 222 (.ref 37),en P "NoCode" 238 (.ref 49),en P "NoWire" 263 (.ref 68),en P "NoWindow" 279 (.ref 80),en P "NoMark" 295 (.ref 92),en P "NoText" 311 (.ref 104),en P "NoName" 327 (.ref 116),en P "NoRow" 343 (.ref 128),en P "is_whole" 352 (.ref 137),en P "is_letter" 360 (.ref 144)] 20,#[]⟩),
 (12,⟨.none,none,.fields #[.int 2 0,.int 0 0,.ref 20,.int 4 0,.int 0 0,.ref 33,.int 6 0,.int 0 0,.ref 45,.int 8 0,.int 0 0,.ref 57,.int 13 0,.int 0 0,.ref 76,.int 15 0,.int 0 0,.ref 88,.int 17 0,.int 0 0,.ref 100,.int 19 0,.int 0 0,.ref 112,.int 21 0,.int 0 0,.ref 124,.int 24 0,.int 0 0,.ref 136,.int 26 0,.int 0 0,.ref 143],#[]⟩),
 (24,⟨.type "type",none,.cls ⟨"BeatError",[.type "ValueError"],[.ref 24,.type "ValueError",.type "Exception",.type "BaseException",.type "object"],23,"BeatError",true,[],[.ref 37,.ref 49,.ref 68,.ref 80,.ref 92,.ref 104,.ref 116,.ref 128],false,none,false⟩,#[some (.ref 15),none,some (.str "BeatError" 189),some (.str "BeatError" 197),some (.builtin "ValueError.__new__"),some (.bool true)]⟩)]) 119 [tu [.ref 24],
 ⟨.type "builtin_function_or_method",none,.fields #[.builtin "type.__prepare__",.type "type"],#[]⟩,
 ⟨.type "dict",none,.dict #[en P "__module__" 335 (.str "ownbeat.errors" 187),en P "__qualname__" 337 (.str "NoRow" 336),en P "__firstlineno__" 339 (.int 21 338),en P "__static_attributes__" 340 (.ref 126)] 4,#[]⟩,
 tu [],
 ⟨.none,none,.fields #[],#[]⟩,
 ⟨.type "code",none,.fields #[.str "NoRow" 330,.str "NoRow" 331,.str "/claim/cut.py" 332,.int 21 0,.int 0 0,.int 0 0,.int 0 0,.int 0 0,.ref 122,.bool false,.int 181 0,.ref 123,.none,.none,.none,.none,.int 333 0,.int 21 0,.str "/claim/cut.py" 334],#[]⟩,
 ⟨.type "frame",none,.plain,#[some (.ref 124),some (.ref 3),some (.ref 121),none,some (.str "ownbeat.errors" 187),none,some (.ref 0)]⟩,
 tu [],
 ⟨.type "dict",none,.dict #[en P "__module__" 335 (.str "ownbeat.errors" 187),en P "__firstlineno__" 339 (.int 21 338),en P "__static_attributes__" 340 (.ref 126),en P "__doc__" 341 (.none)] 2,#[]⟩,
 cl "NoRow" 128 127 119 328 336,
 ⟨.type "super",none,.fields #[.ref 128,.ref 128,.ref 128],#[]⟩,
 ⟨.type "builtin_function_or_method",none,.fields #[.builtin "object.__init_subclass__",.ref 128],#[]⟩,
 tu [],
 ⟨.none,none,.fields #[],#[]⟩,
 tu [.str "thing" 349],
 tu [],
 ⟨.none,none,.func ⟨"is_whole","is_whole",dA (tp 11),.stmts (dB (tp 11)),dS (tp 11),0,[],.none,.none,.none,.none,none,.none,.none,0⟩,#[]⟩,
 co "is_whole" 346 "is_whole" 347 348 24 1 131 132 (.ref 133) (.ref 134) 135 350 351,
 fu "is_whole" "is_whole" (tp 11) "ownbeat.walks" 344 136,
 tu [],
 ⟨.none,none,.fields #[],#[]⟩,
 tu [.str "k" 356,.str "thing" 357],
 tu [],
 ⟨.none,none,.func ⟨"is_letter","is_letter",dA (tp 12),.stmts (dB (tp 12)),dS (tp 12),0,[],.none,.none,.none,.none,none,.none,.none,0⟩,#[]⟩,
 co "is_letter" 353 "is_letter" 354 355 26 2 138 139 (.ref 140) (.ref 141) 142 358 359,
 fu "is_letter" "is_letter" (tp 12) "ownbeat.walks" 344 143]
def S10:List Stmt:=[tp 9,tp 10,tp 11,tp 12]
theorem g10:∀ (w:World) (os:OsState),segRunT treeTable Pw w (nat_lit 11) an 1 (nat_lit 282) ⟨T10 w.params,nat_lit 119,lf,#[],⟨0,0,0,0⟩,nat_lit 328,os⟩ (piecesOf S10 ev cd ⟨19,0,20,8⟩ fr)=some (.next,⟨T11 w.params,nat_lit 145,lf,#[],⟨0,0,0,0⟩,nat_lit 361,os⟩,cd,⟨26,0,27,71⟩):=by
 intro w os
 rw [Fast.te14364793385576792824]
 kernel_rfl
noncomputable def T12 (P:Params):BT:=insL (setL (T11 P) [(3,⟨.type "dict",none,.dict #[en P "__name__" 165 (.str "ownbeat.walks" 344),en P "__doc__" 166 (.none),en P "__package__" 167 (.none),en P "__loader__" 168 (.builtin "__main__.__loader__#opaque"),en P "__spec__" 169 (.none),en P "__annotations__" 170 (.ref 6),en P "__builtins__" 171 (.ref 4),en P "__file__" 173 (.str "/claim/cut.py" 172),en P "__cached__" 174 (.none),en P "BeatError" 206 (.ref 24),en P "NoLetter" 222 (.ref 37),en P "NoCode" 238 (.ref 49),en P "NoWire" 263 (.ref 68),en P "NoWindow" 279 (.ref 80),en P "NoMark" 295 (.ref 92),en P "NoText" 311 (.ref 104),en P "NoName" 327 (.ref 116),en P "NoRow" 343 (.ref 128),en P "is_whole" 352 (.ref 137),en P "is_letter" 360 (.ref 144),en P "is_letter_list" 366 (.ref 149),en P "words_of" 372 (.ref 154),en P "all_signs" 378 (.ref 159),en P "texts_from" 392 (.ref 166),en P "state_texts" 400 (.ref 173),en P "reached" 407 (.ref 180),en P "every_state" 414 (.ref 187),en P "pair_graph" 425 (.ref 194),en P "pair_steps" 439 (.ref 201)] 29,#[]⟩),
 (12,⟨.none,none,.fields #[.int 2 0,.int 0 0,.ref 20,.int 4 0,.int 0 0,.ref 33,.int 6 0,.int 0 0,.ref 45,.int 8 0,.int 0 0,.ref 57,.int 13 0,.int 0 0,.ref 76,.int 15 0,.int 0 0,.ref 88,.int 17 0,.int 0 0,.ref 100,.int 19 0,.int 0 0,.ref 112,.int 21 0,.int 0 0,.ref 124,.int 24 0,.int 0 0,.ref 136,.int 26 0,.int 0 0,.ref 143,.int 28 0,.int 0 0,.ref 148,.int 30 0,.int 0 0,.ref 153,.int 32 0,.int 0 0,.ref 158,.int 37 0,.int 0 0,.ref 165,.int 49 0,.int 0 0,.ref 172,.int 51 0,.int 0 0,.ref 179,.int 53 0,.int 0 0,.ref 186,.int 55 0,.int 0 0,.ref 193,.int 61 0,.int 0 0,.ref 200],#[]⟩)]) 145 [tu [],
 ⟨.none,none,.fields #[],#[]⟩,
 ⟨.none,none,.func ⟨"is_letter_list","is_letter_list",dA (tp 13),.stmts (dB (tp 13)),dS (tp 13),0,[],.none,.none,.none,.none,none,.none,.none,0⟩,#[]⟩,
 co "is_letter_list" 361 "is_letter_list" 362 363 28 2 145 146 (.none) (.none) 147 364 365,
 fu "is_letter_list" "is_letter_list" (tp 13) "ownbeat.walks" 344 148,
 tu [],
 ⟨.none,none,.fields #[],#[]⟩,
 ⟨.none,none,.func ⟨"words_of","words_of",dA (tp 14),.stmts (dB (tp 14)),dS (tp 14),0,[],.none,.none,.none,.none,none,.none,.none,0⟩,#[]⟩,
 co "words_of" 367 "words_of" 368 369 30 2 150 151 (.none) (.none) 152 370 371,
 fu "words_of" "words_of" (tp 14) "ownbeat.walks" 344 153,
 tu [],
 ⟨.none,none,.fields #[],#[]⟩,
 ⟨.none,none,.func ⟨"all_signs","all_signs",dA (tp 15),.stmts (dB (tp 15)),dS (tp 15),0,[],.none,.none,.none,.none,none,.none,.none,0⟩,#[]⟩,
 co "all_signs" 373 "all_signs" 374 375 32 1 155 156 (.none) (.none) 157 376 377,
 fu "all_signs" "all_signs" (tp 15) "ownbeat.walks" 344 158,
 tu [],
 ⟨.none,none,.fields #[],#[]⟩,
 tu [.str "start" 382,.str "steps" 383,.str "texts" 384,.str "queue" 385,.str "place" 386,.str "node" 387,.str "letter" 388,.str "to" 389],
 tu [],
 ⟨.none,none,.func ⟨"texts_from","texts_from",dA (tp 16),.stmts (dB (tp 16)),dS (tp 16),0,[],.none,.none,.none,.none,none,.none,.none,0⟩,#[]⟩,
 co "texts_from" 379 "texts_from" 380 381 37 2 160 161 (.ref 162) (.ref 163) 164 390 391,
 fu "texts_from" "texts_from" (tp 16) "ownbeat.walks" 344 165,
 tu [],
 ⟨.none,none,.fields #[],#[]⟩,
 tu [.str "code" 396],
 tu [.str "code" 397],
 ⟨.none,none,.func ⟨"state_texts","state_texts",dA (tp 17),.stmts (dB (tp 17)),dS (tp 17),0,[],.none,.none,.none,.none,none,.none,.none,0⟩,#[]⟩,
 co "state_texts" 393 "state_texts" 394 395 49 1 167 168 (.ref 169) (.ref 170) 171 398 399,
 fu "state_texts" "state_texts" (tp 17) "ownbeat.walks" 344 172,
 tu [],
 ⟨.none,none,.fields #[],#[]⟩,
 tu [.str "code" 404],
 tu [],
 ⟨.none,none,.func ⟨"reached","reached",dA (tp 18),.stmts (dB (tp 18)),dS (tp 18),0,[],.none,.none,.none,.none,none,.none,.none,0⟩,#[]⟩,
 co "reached" 401 "reached" 402 403 51 1 174 175 (.ref 176) (.ref 177) 178 405 406,
 fu "reached" "reached" (tp 18) "ownbeat.walks" 344 179,
 tu [],
 ⟨.none,none,.fields #[],#[]⟩,
 tu [.str "code" 411],
 tu [],
 ⟨.none,none,.func ⟨"every_state","every_state",dA (tp 19),.stmts (dB (tp 19)),dS (tp 19),0,[],.none,.none,.none,.none,none,.none,.none,0⟩,#[]⟩,
 co "every_state" 408 "every_state" 409 410 53 1 181 182 (.ref 183) (.ref 184) 185 412 413,
 fu "every_state" "every_state" (tp 19) "ownbeat.walks" 344 186,
 tu [],
 ⟨.none,none,.fields #[],#[]⟩,
 tu [.str "code" 418,.str "states" 419,.str "graph" 420,.str "one" 421,.str "other" 422],
 tu [],
 ⟨.none,none,.func ⟨"pair_graph","pair_graph",dA (tp 20),.stmts (dB (tp 20)),dS (tp 20),0,[],.none,.none,.none,.none,none,.none,.none,0⟩,#[]⟩,
 co "pair_graph" 415 "pair_graph" 416 417 55 2 188 189 (.ref 190) (.ref 191) 192 423 424,
 fu "pair_graph" "pair_graph" (tp 20) "ownbeat.walks" 344 193,
 tu [],
 ⟨.none,none,.fields #[],#[]⟩,
 tu [.str "code" 429,.str "one" 430,.str "other" 431,.str "steps" 432,.str "letter" 433,.str "row" 434,.str "another" 435,.str "beside" 436],
 tu [],
 ⟨.none,none,.func ⟨"pair_steps","pair_steps",dA (tp 21),.stmts (dB (tp 21)),dS (tp 21),0,[],.none,.none,.none,.none,none,.none,.none,0⟩,#[]⟩,
 co "pair_steps" 426 "pair_steps" 427 428 61 3 195 196 (.ref 197) (.ref 198) 199 437 438,
 fu "pair_steps" "pair_steps" (tp 21) "ownbeat.walks" 344 200]
def S11:List Stmt:=[tp 13,tp 14,tp 15,tp 16,tp 17,tp 18,tp 19,tp 20,tp 21]
theorem g11:∀ (w:World) (os:OsState),segRunT treeTable Pw w (nat_lit 11) an 1 (nat_lit 272) ⟨T11 w.params,nat_lit 145,lf,#[],⟨0,0,0,0⟩,nat_lit 361,os⟩ (piecesOf S11 ev cd ⟨26,0,27,71⟩ fr)=some (.next,⟨T12 w.params,nat_lit 202,lf,#[],⟨0,0,0,0⟩,nat_lit 440,os⟩,cd,⟨61,0,67,16⟩):=by
 intro w os
 rw [Fast.te14364793385576792824]
 kernel_rfl
noncomputable def T13 (P:Params):BT:=insL (setL (T12 P) [(3,⟨.type "dict",none,.dict #[en P "__name__" 165 (.str "ownbeat.codes" 491),en P "__doc__" 166 (.none),en P "__package__" 167 (.none),en P "__loader__" 168 (.builtin "__main__.__loader__#opaque"),en P "__spec__" 169 (.none),en P "__annotations__" 170 (.ref 6),en P "__builtins__" 171 (.ref 4),en P "__file__" 173 (.str "/claim/cut.py" 172),en P "__cached__" 174 (.none),en P "BeatError" 206 (.ref 24),en P "NoLetter" 222 (.ref 37),en P "NoCode" 238 (.ref 49),en P "NoWire" 263 (.ref 68),en P "NoWindow" 279 (.ref 80),en P "NoMark" 295 (.ref 92),en P "NoText" 311 (.ref 104),en P "NoName" 327 (.ref 116),en P "NoRow" 343 (.ref 128),en P "is_whole" 352 (.ref 137),en P "is_letter" 360 (.ref 144),en P "is_letter_list" 366 (.ref 149),en P "words_of" 372 (.ref 154),en P "all_signs" 378 (.ref 159),en P "texts_from" 392 (.ref 166),en P "state_texts" 400 (.ref 173),en P "reached" 407 (.ref 180),en P "every_state" 414 (.ref 187),en P "pair_graph" 425 (.ref 194),en P "pair_steps" 439 (.ref 201),en P "layers_of" 449 (.ref 208),en P "layer_behind" 461 (.ref 215),en P "comes_back" 469 (.ref 222),en P "longest_walk" 480 (.ref 229),en P "first_return" 490 (.ref 236),en P "is_code" 498 (.ref 241),en P "is_within" 507 (.ref 248),en P "is_state" 513 (.ref 253),en P "is_row" 522 (.ref 260)] 38,#[]⟩),
 (12,⟨.none,none,.fields #[.int 2 0,.int 0 0,.ref 20,.int 4 0,.int 0 0,.ref 33,.int 6 0,.int 0 0,.ref 45,.int 8 0,.int 0 0,.ref 57,.int 13 0,.int 0 0,.ref 76,.int 15 0,.int 0 0,.ref 88,.int 17 0,.int 0 0,.ref 100,.int 19 0,.int 0 0,.ref 112,.int 21 0,.int 0 0,.ref 124,.int 24 0,.int 0 0,.ref 136,.int 26 0,.int 0 0,.ref 143,.int 28 0,.int 0 0,.ref 148,.int 30 0,.int 0 0,.ref 153,.int 32 0,.int 0 0,.ref 158,.int 37 0,.int 0 0,.ref 165,.int 49 0,.int 0 0,.ref 172,.int 51 0,.int 0 0,.ref 179,.int 53 0,.int 0 0,.ref 186,.int 55 0,.int 0 0,.ref 193,.int 61 0,.int 0 0,.ref 200,.int 68 0,.int 0 0,.ref 207,.int 75 0,.int 0 0,.ref 214,.int 82 0,.int 0 0,.ref 221,.int 84 0,.int 0 0,.ref 228,.int 92 0,.int 0 0,.ref 235,.int 100 0,.int 0 0,.ref 240,.int 111 0,.int 0 0,.ref 247,.int 113 0,.int 0 0,.ref 252,.int 117 0,.int 0 0,.ref 259],#[]⟩)]) 202 [tu [],
 ⟨.none,none,.fields #[],#[]⟩,
 tu [.str "first" 443,.str "graph" 444,.str "layers" 445,.str "layer" 446],
 tu [],
 ⟨.none,none,.func ⟨"layers_of","layers_of",dA (tp 22),.stmts (dB (tp 22)),dS (tp 22),0,[],.none,.none,.none,.none,none,.none,.none,0⟩,#[]⟩,
 co "layers_of" 440 "layers_of" 441 442 68 2 202 203 (.ref 204) (.ref 205) 206 447 448,
 fu "layers_of" "layers_of" (tp 22) "ownbeat.walks" 344 207,
 tu [],
 ⟨.none,none,.fields #[],#[]⟩,
 tu [.str "layer" 453,.str "graph" 454,.str "behind" 455,.str "node" 456,.str "label" 457,.str "to" 458],
 tu [],
 ⟨.none,none,.func ⟨"layer_behind","layer_behind",dA (tp 23),.stmts (dB (tp 23)),dS (tp 23),0,[],.none,.none,.none,.none,none,.none,.none,0⟩,#[]⟩,
 co "layer_behind" 450 "layer_behind" 451 452 75 2 209 210 (.ref 211) (.ref 212) 213 459 460,
 fu "layer_behind" "layer_behind" (tp 23) "ownbeat.walks" 344 214,
 tu [],
 ⟨.none,none,.fields #[],#[]⟩,
 tu [.str "layers" 465,.str "graph" 466],
 tu [],
 ⟨.none,none,.func ⟨"comes_back","comes_back",dA (tp 24),.stmts (dB (tp 24)),dS (tp 24),0,[],.none,.none,.none,.none,none,.none,.none,0⟩,#[]⟩,
 co "comes_back" 462 "comes_back" 463 464 82 2 216 217 (.ref 218) (.ref 219) 220 467 468,
 fu "comes_back" "comes_back" (tp 24) "ownbeat.walks" 344 221,
 tu [],
 ⟨.none,none,.fields #[],#[]⟩,
 tu [.str "layers" 473,.str "node" 474,.str "walk" 475,.str "layer" 476,.str "ahead" 477],
 tu [],
 ⟨.none,none,.func ⟨"longest_walk","longest_walk",dA (tp 25),.stmts (dB (tp 25)),dS (tp 25),0,[],.none,.none,.none,.none,none,.none,.none,0⟩,#[]⟩,
 co "longest_walk" 470 "longest_walk" 471 472 84 1 223 224 (.ref 225) (.ref 226) 227 478 479,
 fu "longest_walk" "longest_walk" (tp 25) "ownbeat.walks" 344 228,
 tu [],
 ⟨.none,none,.fields #[],#[]⟩,
 tu [.str "walk" 484,.str "places" 485,.str "place" 486,.str "step" 487],
 tu [],
 ⟨.none,none,.func ⟨"first_return","first_return",dA (tp 26),.stmts (dB (tp 26)),dS (tp 26),0,[],.none,.none,.none,.none,none,.none,.none,0⟩,#[]⟩,
 co "first_return" 481 "first_return" 482 483 92 1 230 231 (.ref 232) (.ref 233) 234 488 489,
 fu "first_return" "first_return" (tp 26) "ownbeat.walks" 344 235,
 tu [],
 ⟨.none,none,.fields #[],#[]⟩,
 ⟨.none,none,.func ⟨"is_code","is_code",dA (tp 28),.stmts (dB (tp 28)),dS (tp 28),0,[],.none,.none,.none,.none,none,.none,.none,0⟩,#[]⟩,
 co "is_code" 493 "is_code" 494 495 100 1 237 238 (.none) (.none) 239 496 497,
 fu "is_code" "is_code" (tp 28) "ownbeat.codes" 491 240,
 tu [],
 ⟨.none,none,.fields #[],#[]⟩,
 tu [.str "thing" 502,.str "least" 503,.str "greatest" 504],
 tu [],
 ⟨.none,none,.func ⟨"is_within","is_within",dA (tp 29),.stmts (dB (tp 29)),dS (tp 29),0,[],.none,.none,.none,.none,none,.none,.none,0⟩,#[]⟩,
 co "is_within" 499 "is_within" 500 501 111 3 242 243 (.ref 244) (.ref 245) 246 505 506,
 fu "is_within" "is_within" (tp 29) "ownbeat.codes" 491 247,
 tu [],
 ⟨.none,none,.fields #[],#[]⟩,
 ⟨.none,none,.func ⟨"is_state","is_state",dA (tp 30),.stmts (dB (tp 30)),dS (tp 30),0,[],.none,.none,.none,.none,none,.none,.none,0⟩,#[]⟩,
 co "is_state" 508 "is_state" 509 510 113 4 249 250 (.none) (.none) 251 511 512,
 fu "is_state" "is_state" (tp 30) "ownbeat.codes" 491 252,
 tu [],
 ⟨.none,none,.fields #[],#[]⟩,
 tu [.str "row" 517,.str "n" 518,.str "count" 519],
 tu [],
 ⟨.none,none,.func ⟨"is_row","is_row",dA (tp 31),.stmts (dB (tp 31)),dS (tp 31),0,[],.none,.none,.none,.none,none,.none,.none,0⟩,#[]⟩,
 co "is_row" 514 "is_row" 515 516 117 3 254 255 (.ref 256) (.ref 257) 258 520 521,
 fu "is_row" "is_row" (tp 31) "ownbeat.codes" 491 259]
def S12:List Stmt:=[tp 22,tp 23,tp 24,tp 25,tp 26,tp 27,tp 28,tp 29,tp 30,tp 31]
theorem g12:∀ (w:World) (os:OsState),segRunT treeTable Pw w (nat_lit 11) an 1 (nat_lit 285) ⟨T12 w.params,nat_lit 202,lf,#[],⟨0,0,0,0⟩,nat_lit 440,os⟩ (piecesOf S12 ev cd ⟨61,0,67,16⟩ fr)=some (.next,⟨T13 w.params,nat_lit 261,lf,#[],⟨0,0,0,0⟩,nat_lit 523,os⟩,cd,⟨117,0,120,65⟩):=by
 intro w os
 rw [Fast.te14364793385576792824]
 kernel_rfl
noncomputable def T14 (P:Params):BT:=insL (setL (T13 P) [(3,⟨.type "dict",none,.dict #[en P "__name__" 165 (.str "ownbeat.leaning" 564),en P "__doc__" 166 (.none),en P "__package__" 167 (.none),en P "__loader__" 168 (.builtin "__main__.__loader__#opaque"),en P "__spec__" 169 (.none),en P "__annotations__" 170 (.ref 6),en P "__builtins__" 171 (.ref 4),en P "__file__" 173 (.str "/claim/cut.py" 172),en P "__cached__" 174 (.none),en P "BeatError" 206 (.ref 24),en P "NoLetter" 222 (.ref 37),en P "NoCode" 238 (.ref 49),en P "NoWire" 263 (.ref 68),en P "NoWindow" 279 (.ref 80),en P "NoMark" 295 (.ref 92),en P "NoText" 311 (.ref 104),en P "NoName" 327 (.ref 116),en P "NoRow" 343 (.ref 128),en P "is_whole" 352 (.ref 137),en P "is_letter" 360 (.ref 144),en P "is_letter_list" 366 (.ref 149),en P "words_of" 372 (.ref 154),en P "all_signs" 378 (.ref 159),en P "texts_from" 392 (.ref 166),en P "state_texts" 400 (.ref 173),en P "reached" 407 (.ref 180),en P "every_state" 414 (.ref 187),en P "pair_graph" 425 (.ref 194),en P "pair_steps" 439 (.ref 201),en P "layers_of" 449 (.ref 208),en P "layer_behind" 461 (.ref 215),en P "comes_back" 469 (.ref 222),en P "longest_walk" 480 (.ref 229),en P "first_return" 490 (.ref 236),en P "is_code" 498 (.ref 241),en P "is_within" 507 (.ref 248),en P "is_state" 513 (.ref 253),en P "is_row" 522 (.ref 260),en P "is_word" 530 (.ref 267),en P "sent" 542 (.ref 274),en P "letters" 548 (.ref 279),en P "letter_of" 557 (.ref 286),en P "bits_of" 563 (.ref 291),en P "lean" 572 (.ref 298),en P "leaning_loop" 582 (.ref 305),en P "farthest_lean" 588 (.ref 310),en P "farthest_ends" 599 (.ref 317)] 47,#[]⟩),
 (12,⟨.none,none,.fields #[.int 2 0,.int 0 0,.ref 20,.int 4 0,.int 0 0,.ref 33,.int 6 0,.int 0 0,.ref 45,.int 8 0,.int 0 0,.ref 57,.int 13 0,.int 0 0,.ref 76,.int 15 0,.int 0 0,.ref 88,.int 17 0,.int 0 0,.ref 100,.int 19 0,.int 0 0,.ref 112,.int 21 0,.int 0 0,.ref 124,.int 24 0,.int 0 0,.ref 136,.int 26 0,.int 0 0,.ref 143,.int 28 0,.int 0 0,.ref 148,.int 30 0,.int 0 0,.ref 153,.int 32 0,.int 0 0,.ref 158,.int 37 0,.int 0 0,.ref 165,.int 49 0,.int 0 0,.ref 172,.int 51 0,.int 0 0,.ref 179,.int 53 0,.int 0 0,.ref 186,.int 55 0,.int 0 0,.ref 193,.int 61 0,.int 0 0,.ref 200,.int 68 0,.int 0 0,.ref 207,.int 75 0,.int 0 0,.ref 214,.int 82 0,.int 0 0,.ref 221,.int 84 0,.int 0 0,.ref 228,.int 92 0,.int 0 0,.ref 235,.int 100 0,.int 0 0,.ref 240,.int 111 0,.int 0 0,.ref 247,.int 113 0,.int 0 0,.ref 252,.int 117 0,.int 0 0,.ref 259,.int 121 0,.int 0 0,.ref 266,.int 123 0,.int 0 0,.ref 273,.int 132 0,.int 0 0,.ref 278,.int 140 0,.int 0 0,.ref 285,.int 145 0,.int 0 0,.ref 290,.int 153 0,.int 0 0,.ref 297,.int 157 0,.int 0 0,.ref 304,.int 164 0,.int 0 0,.ref 309,.int 175 0,.int 0 0,.ref 316],#[]⟩)]) 261 [tu [],
 ⟨.none,none,.fields #[],#[]⟩,
 tu [.str "thing" 526,.str "n" 527],
 tu [],
 ⟨.none,none,.func ⟨"is_word","is_word",dA (tp 32),.stmts (dB (tp 32)),dS (tp 32),0,[],.none,.none,.none,.none,none,.none,.none,0⟩,#[]⟩,
 co "is_word" 523 "is_word" 524 525 121 2 261 262 (.ref 263) (.ref 264) 265 528 529,
 fu "is_word" "is_word" (tp 32) "ownbeat.codes" 491 266,
 tu [],
 ⟨.none,none,.fields #[],#[]⟩,
 tu [.str "code" 534,.str "state" 535,.str "text" 536,.str "words" 537,.str "letter" 538,.str "row" 539],
 tu [],
 ⟨.none,none,.func ⟨"sent","sent",dA (tp 33),.stmts (dB (tp 33)),dS (tp 33),0,[],.none,.none,.none,.none,none,.none,.none,0⟩,#[]⟩,
 co "sent" 531 "sent" 532 533 123 3 268 269 (.ref 270) (.ref 271) 272 540 541,
 fu "sent" "sent" (tp 33) "ownbeat.codes" 491 273,
 tu [],
 ⟨.none,none,.fields #[],#[]⟩,
 ⟨.none,none,.func ⟨"letters","letters",dA (tp 34),.stmts (dB (tp 34)),dS (tp 34),0,[],.none,.none,.none,.none,none,.none,.none,0⟩,#[]⟩,
 co "letters" 543 "letters" 544 545 132 2 275 276 (.none) (.none) 277 546 547,
 fu "letters" "letters" (tp 34) "ownbeat.codes" 491 278,
 tu [],
 ⟨.none,none,.fields #[],#[]⟩,
 tu [.str "bits" 552,.str "letter" 553,.str "bit" 554],
 tu [],
 ⟨.none,none,.func ⟨"letter_of","letter_of",dA (tp 35),.stmts (dB (tp 35)),dS (tp 35),0,[],.none,.none,.none,.none,none,.none,.none,0⟩,#[]⟩,
 co "letter_of" 549 "letter_of" 550 551 140 1 280 281 (.ref 282) (.ref 283) 284 555 556,
 fu "letter_of" "letter_of" (tp 35) "ownbeat.codes" 491 285,
 tu [],
 ⟨.none,none,.fields #[],#[]⟩,
 ⟨.none,none,.func ⟨"bits_of","bits_of",dA (tp 36),.stmts (dB (tp 36)),dS (tp 36),0,[],.none,.none,.none,.none,none,.none,.none,0⟩,#[]⟩,
 co "bits_of" 558 "bits_of" 559 560 145 2 287 288 (.none) (.none) 289 561 562,
 fu "bits_of" "bits_of" (tp 36) "ownbeat.codes" 491 290,
 tu [],
 ⟨.none,none,.fields #[],#[]⟩,
 tu [.str "code" 569],
 tu [],
 ⟨.none,none,.func ⟨"lean","lean",dA (tp 38),.stmts (dB (tp 38)),dS (tp 38),0,[],.none,.none,.none,.none,none,.none,.none,0⟩,#[]⟩,
 co "lean" 566 "lean" 567 568 153 1 292 293 (.ref 294) (.ref 295) 296 570 571,
 fu "lean" "lean" (tp 38) "ownbeat.leaning" 564 297,
 tu [],
 ⟨.none,none,.fields #[],#[]⟩,
 tu [.str "code" 576,.str "state" 577,.str "turn" 578,.str "end" 579],
 tu [],
 ⟨.none,none,.func ⟨"leaning_loop","leaning_loop",dA (tp 39),.stmts (dB (tp 39)),dS (tp 39),0,[],.none,.none,.none,.none,none,.none,.none,0⟩,#[]⟩,
 co "leaning_loop" 573 "leaning_loop" 574 575 157 1 299 300 (.ref 301) (.ref 302) 303 580 581,
 fu "leaning_loop" "leaning_loop" (tp 39) "ownbeat.leaning" 564 304,
 tu [],
 ⟨.none,none,.fields #[],#[]⟩,
 ⟨.none,none,.func ⟨"farthest_lean","farthest_lean",dA (tp 40),.stmts (dB (tp 40)),dS (tp 40),0,[],.none,.none,.none,.none,none,.none,.none,0⟩,#[]⟩,
 co "farthest_lean" 583 "farthest_lean" 584 585 164 2 306 307 (.none) (.none) 308 586 587,
 fu "farthest_lean" "farthest_lean" (tp 40) "ownbeat.leaning" 564 309,
 tu [],
 ⟨.none,none,.fields #[],#[]⟩,
 tu [.str "code" 592,.str "start" 593,.str "turn" 594,.str "ends" 595,.str "count" 596],
 tu [],
 ⟨.none,none,.func ⟨"farthest_ends","farthest_ends",dA (tp 41),.stmts (dB (tp 41)),dS (tp 41),0,[],.none,.none,.none,.none,none,.none,.none,0⟩,#[]⟩,
 co "farthest_ends" 589 "farthest_ends" 590 591 175 3 311 312 (.ref 313) (.ref 314) 315 597 598,
 fu "farthest_ends" "farthest_ends" (tp 41) "ownbeat.leaning" 564 316]
def S13:List Stmt:=[tp 32,tp 33,tp 34,tp 35,tp 36,tp 37,tp 38,tp 39,tp 40,tp 41]
theorem g13:∀ (w:World) (os:OsState),segRunT treeTable Pw w (nat_lit 11) an 1 (nat_lit 277) ⟨T13 w.params,nat_lit 261,lf,#[],⟨0,0,0,0⟩,nat_lit 523,os⟩ (piecesOf S13 ev cd ⟨117,0,120,65⟩ fr)=some (.next,⟨T14 w.params,nat_lit 318,lf,#[],⟨0,0,0,0⟩,nat_lit 600,os⟩,cd,⟨175,0,179,15⟩):=by
 intro w os
 rw [Fast.te14364793385576792824]
 kernel_rfl
noncomputable def T15 (P:Params):BT:=insL (setL (T14 P) [(3,⟨.type "dict",none,.dict #[en P "__name__" 165 (.str "ownbeat.reading" 672),en P "__doc__" 166 (.none),en P "__package__" 167 (.none),en P "__loader__" 168 (.builtin "__main__.__loader__#opaque"),en P "__spec__" 169 (.none),en P "__annotations__" 170 (.ref 6),en P "__builtins__" 171 (.ref 4),en P "__file__" 173 (.str "/claim/cut.py" 172),en P "__cached__" 174 (.none),en P "BeatError" 206 (.ref 24),en P "NoLetter" 222 (.ref 37),en P "NoCode" 238 (.ref 49),en P "NoWire" 263 (.ref 68),en P "NoWindow" 279 (.ref 80),en P "NoMark" 295 (.ref 92),en P "NoText" 311 (.ref 104),en P "NoName" 327 (.ref 116),en P "NoRow" 343 (.ref 128),en P "is_whole" 352 (.ref 137),en P "is_letter" 360 (.ref 144),en P "is_letter_list" 366 (.ref 149),en P "words_of" 372 (.ref 154),en P "all_signs" 378 (.ref 159),en P "texts_from" 392 (.ref 166),en P "state_texts" 400 (.ref 173),en P "reached" 407 (.ref 180),en P "every_state" 414 (.ref 187),en P "pair_graph" 425 (.ref 194),en P "pair_steps" 439 (.ref 201),en P "layers_of" 449 (.ref 208),en P "layer_behind" 461 (.ref 215),en P "comes_back" 469 (.ref 222),en P "longest_walk" 480 (.ref 229),en P "first_return" 490 (.ref 236),en P "is_code" 498 (.ref 241),en P "is_within" 507 (.ref 248),en P "is_state" 513 (.ref 253),en P "is_row" 522 (.ref 260),en P "is_word" 530 (.ref 267),en P "sent" 542 (.ref 274),en P "letters" 548 (.ref 279),en P "letter_of" 557 (.ref 286),en P "bits_of" 563 (.ref 291),en P "lean" 572 (.ref 298),en P "leaning_loop" 582 (.ref 305),en P "farthest_lean" 588 (.ref 310),en P "farthest_ends" 599 (.ref 317),en P "ends_behind" 613 (.ref 324),en P "leans_in" 623 (.ref 331),en P "LONGEST" 627 (.int 8 626),en P "marks" 633 (.ref 336),en P "standing" 647 (.ref 343),en P "tails_behind" 658 (.ref 350),en P "tail_steps" 671 (.ref 357),en P "given_words" 681 (.ref 364),en P "late" 690 (.ref 371)] 56,#[]⟩),
 (12,⟨.none,none,.fields #[.int 2 0,.int 0 0,.ref 20,.int 4 0,.int 0 0,.ref 33,.int 6 0,.int 0 0,.ref 45,.int 8 0,.int 0 0,.ref 57,.int 13 0,.int 0 0,.ref 76,.int 15 0,.int 0 0,.ref 88,.int 17 0,.int 0 0,.ref 100,.int 19 0,.int 0 0,.ref 112,.int 21 0,.int 0 0,.ref 124,.int 24 0,.int 0 0,.ref 136,.int 26 0,.int 0 0,.ref 143,.int 28 0,.int 0 0,.ref 148,.int 30 0,.int 0 0,.ref 153,.int 32 0,.int 0 0,.ref 158,.int 37 0,.int 0 0,.ref 165,.int 49 0,.int 0 0,.ref 172,.int 51 0,.int 0 0,.ref 179,.int 53 0,.int 0 0,.ref 186,.int 55 0,.int 0 0,.ref 193,.int 61 0,.int 0 0,.ref 200,.int 68 0,.int 0 0,.ref 207,.int 75 0,.int 0 0,.ref 214,.int 82 0,.int 0 0,.ref 221,.int 84 0,.int 0 0,.ref 228,.int 92 0,.int 0 0,.ref 235,.int 100 0,.int 0 0,.ref 240,.int 111 0,.int 0 0,.ref 247,.int 113 0,.int 0 0,.ref 252,.int 117 0,.int 0 0,.ref 259,.int 121 0,.int 0 0,.ref 266,.int 123 0,.int 0 0,.ref 273,.int 132 0,.int 0 0,.ref 278,.int 140 0,.int 0 0,.ref 285,.int 145 0,.int 0 0,.ref 290,.int 153 0,.int 0 0,.ref 297,.int 157 0,.int 0 0,.ref 304,.int 164 0,.int 0 0,.ref 309,.int 175 0,.int 0 0,.ref 316,.int 180 0,.int 0 0,.ref 323,.int 188 0,.int 0 0,.ref 330,.int 197 0,.int 0 0,.ref 335,.int 202 0,.int 0 0,.ref 342,.int 210 0,.int 0 0,.ref 349,.int 212 0,.int 0 0,.ref 356,.int 219 0,.int 0 0,.ref 363,.int 223 0,.int 0 0,.ref 370],#[]⟩)]) 318 [tu [],
 ⟨.none,none,.fields #[],#[]⟩,
 tu [.str "code" 603,.str "ends" 604,.str "turn" 605,.str "behind" 606,.str "state" 607,.str "letter" 608,.str "row" 609,.str "far" 610],
 tu [],
 ⟨.none,none,.func ⟨"ends_behind","ends_behind",dA (tp 42),.stmts (dB (tp 42)),dS (tp 42),0,[],.none,.none,.none,.none,none,.none,.none,0⟩,#[]⟩,
 co "ends_behind" 600 "ends_behind" 601 602 180 3 318 319 (.ref 320) (.ref 321) 322 611 612,
 fu "ends_behind" "ends_behind" (tp 42) "ownbeat.leaning" 564 323,
 tu [],
 ⟨.none,none,.fields #[],#[]⟩,
 tu [.str "word" 617,.str "more" 618,.str "leans" 619,.str "sign" 620],
 tu [],
 ⟨.none,none,.func ⟨"leans_in","leans_in",dA (tp 43),.stmts (dB (tp 43)),dS (tp 43),0,[],.none,.none,.none,.none,none,.none,.none,0⟩,#[]⟩,
 co "leans_in" 614 "leans_in" 615 616 188 1 325 326 (.ref 327) (.ref 328) 329 621 622,
 fu "leans_in" "leans_in" (tp 43) "ownbeat.leaning" 564 330,
 tu [],
 ⟨.none,none,.fields #[],#[]⟩,
 ⟨.none,none,.func ⟨"marks","marks",dA (tp 46),.stmts (dB (tp 46)),dS (tp 46),0,[],.none,.none,.none,.none,none,.none,.none,0⟩,#[]⟩,
 co "marks" 628 "marks" 629 630 197 2 332 333 (.none) (.none) 334 631 632,
 fu "marks" "marks" (tp 46) "ownbeat.marks" 624 335,
 tu [],
 ⟨.none,none,.fields #[],#[]⟩,
 tu [.str "code" 637,.str "length" 638,.str "found" 639,.str "tail" 640,.str "state" 641,.str "row" 642,.str "signs" 643,.str "place" 644],
 tu [],
 ⟨.none,none,.func ⟨"standing","standing",dA (tp 47),.stmts (dB (tp 47)),dS (tp 47),0,[],.none,.none,.none,.none,none,.none,.none,0⟩,#[]⟩,
 co "standing" 634 "standing" 635 636 202 2 337 338 (.ref 339) (.ref 340) 341 645 646,
 fu "standing" "standing" (tp 47) "ownbeat.marks" 624 342,
 tu [],
 ⟨.none,none,.fields #[],#[]⟩,
 tu [.str "code" 651,.str "start" 652,.str "keep" 653],
 tu [.str "code" 654,.str "keep" 655],
 ⟨.none,none,.func ⟨"tails_behind","tails_behind",dA (tp 48),.stmts (dB (tp 48)),dS (tp 48),0,[],.none,.none,.none,.none,none,.none,.none,0⟩,#[]⟩,
 co "tails_behind" 648 "tails_behind" 649 650 210 3 344 345 (.ref 346) (.ref 347) 348 656 657,
 fu "tails_behind" "tails_behind" (tp 48) "ownbeat.marks" 624 349,
 tu [],
 ⟨.none,none,.fields #[],#[]⟩,
 tu [.str "code" 662,.str "node" 663,.str "keep" 664,.str "steps" 665,.str "letter" 666,.str "row" 667,.str "signs" 668],
 tu [],
 ⟨.none,none,.func ⟨"tail_steps","tail_steps",dA (tp 49),.stmts (dB (tp 49)),dS (tp 49),0,[],.none,.none,.none,.none,none,.none,.none,0⟩,#[]⟩,
 co "tail_steps" 659 "tail_steps" 660 661 212 3 351 352 (.ref 353) (.ref 354) 355 669 670,
 fu "tail_steps" "tail_steps" (tp 49) "ownbeat.marks" 624 356,
 tu [],
 ⟨.none,none,.fields #[],#[]⟩,
 tu [.str "code" 677,.str "wire" 678],
 tu [],
 ⟨.none,none,.func ⟨"given_words","given_words",dA (tp 51),.stmts (dB (tp 51)),dS (tp 51),0,[],.none,.none,.none,.none,none,.none,.none,0⟩,#[]⟩,
 co "given_words" 674 "given_words" 675 676 219 2 358 359 (.ref 360) (.ref 361) 362 679 680,
 fu "given_words" "given_words" (tp 51) "ownbeat.reading" 672 363,
 tu [],
 ⟨.none,none,.fields #[],#[]⟩,
 tu [.str "code" 685,.str "graph" 686,.str "layers" 687],
 tu [],
 ⟨.none,none,.func ⟨"late","late",dA (tp 52),.stmts (dB (tp 52)),dS (tp 52),0,[],.none,.none,.none,.none,none,.none,.none,0⟩,#[]⟩,
 co "late" 682 "late" 683 684 223 1 365 366 (.ref 367) (.ref 368) 369 688 689,
 fu "late" "late" (tp 52) "ownbeat.reading" 672 370]
def S14:List Stmt:=[tp 42,tp 43,tp 44,tp 45,tp 46,tp 47,tp 48,tp 49,tp 50,tp 51,tp 52]
theorem g14:∀ (w:World) (os:OsState),segRunT treeTable Pw w (nat_lit 11) an 1 (nat_lit 287) ⟨T14 w.params,nat_lit 318,lf,#[],⟨0,0,0,0⟩,nat_lit 600,os⟩ (piecesOf S14 ev cd ⟨175,0,179,15⟩ fr)=some (.next,⟨T15 w.params,nat_lit 372,lf,#[],⟨0,0,0,0⟩,nat_lit 691,os⟩,cd,⟨223,0,226,61⟩):=by
 intro w os
 rw [Fast.te14364793385576792824]
 kernel_rfl
noncomputable def T16 (P:Params):BT:=insL (setL (T15 P) [(3,⟨.type "dict",none,.dict #[en P "__name__" 165 (.str "ownbeat.stillness" 760),en P "__doc__" 166 (.none),en P "__package__" 167 (.none),en P "__loader__" 168 (.builtin "__main__.__loader__#opaque"),en P "__spec__" 169 (.none),en P "__annotations__" 170 (.ref 6),en P "__builtins__" 171 (.ref 4),en P "__file__" 173 (.str "/claim/cut.py" 172),en P "__cached__" 174 (.none),en P "BeatError" 206 (.ref 24),en P "NoLetter" 222 (.ref 37),en P "NoCode" 238 (.ref 49),en P "NoWire" 263 (.ref 68),en P "NoWindow" 279 (.ref 80),en P "NoMark" 295 (.ref 92),en P "NoText" 311 (.ref 104),en P "NoName" 327 (.ref 116),en P "NoRow" 343 (.ref 128),en P "is_whole" 352 (.ref 137),en P "is_letter" 360 (.ref 144),en P "is_letter_list" 366 (.ref 149),en P "words_of" 372 (.ref 154),en P "all_signs" 378 (.ref 159),en P "texts_from" 392 (.ref 166),en P "state_texts" 400 (.ref 173),en P "reached" 407 (.ref 180),en P "every_state" 414 (.ref 187),en P "pair_graph" 425 (.ref 194),en P "pair_steps" 439 (.ref 201),en P "layers_of" 449 (.ref 208),en P "layer_behind" 461 (.ref 215),en P "comes_back" 469 (.ref 222),en P "longest_walk" 480 (.ref 229),en P "first_return" 490 (.ref 236),en P "is_code" 498 (.ref 241),en P "is_within" 507 (.ref 248),en P "is_state" 513 (.ref 253),en P "is_row" 522 (.ref 260),en P "is_word" 530 (.ref 267),en P "sent" 542 (.ref 274),en P "letters" 548 (.ref 279),en P "letter_of" 557 (.ref 286),en P "bits_of" 563 (.ref 291),en P "lean" 572 (.ref 298),en P "leaning_loop" 582 (.ref 305),en P "farthest_lean" 588 (.ref 310),en P "farthest_ends" 599 (.ref 317),en P "ends_behind" 613 (.ref 324),en P "leans_in" 623 (.ref 331),en P "LONGEST" 627 (.int 8 626),en P "marks" 633 (.ref 336),en P "standing" 647 (.ref 343),en P "tails_behind" 658 (.ref 350),en P "tail_steps" 671 (.ref 357),en P "given_words" 681 (.ref 364),en P "late" 690 (.ref 371),en P "first_pairs" 701 (.ref 378),en P "read" 707 (.ref 383),en P "guesses_behind" 721 (.ref 390),en P "shared_count" 727 (.ref 395),en P "settles" 738 (.ref 402),en P "backward_graph" 750 (.ref 409),en P "unlike_pairs" 759 (.ref 416),en P "SIGNS" 764 (.ref 417),en P "still" 771 (.ref 424)] 65,#[]⟩),
 (12,⟨.none,none,.fields #[.int 2 0,.int 0 0,.ref 20,.int 4 0,.int 0 0,.ref 33,.int 6 0,.int 0 0,.ref 45,.int 8 0,.int 0 0,.ref 57,.int 13 0,.int 0 0,.ref 76,.int 15 0,.int 0 0,.ref 88,.int 17 0,.int 0 0,.ref 100,.int 19 0,.int 0 0,.ref 112,.int 21 0,.int 0 0,.ref 124,.int 24 0,.int 0 0,.ref 136,.int 26 0,.int 0 0,.ref 143,.int 28 0,.int 0 0,.ref 148,.int 30 0,.int 0 0,.ref 153,.int 32 0,.int 0 0,.ref 158,.int 37 0,.int 0 0,.ref 165,.int 49 0,.int 0 0,.ref 172,.int 51 0,.int 0 0,.ref 179,.int 53 0,.int 0 0,.ref 186,.int 55 0,.int 0 0,.ref 193,.int 61 0,.int 0 0,.ref 200,.int 68 0,.int 0 0,.ref 207,.int 75 0,.int 0 0,.ref 214,.int 82 0,.int 0 0,.ref 221,.int 84 0,.int 0 0,.ref 228,.int 92 0,.int 0 0,.ref 235,.int 100 0,.int 0 0,.ref 240,.int 111 0,.int 0 0,.ref 247,.int 113 0,.int 0 0,.ref 252,.int 117 0,.int 0 0,.ref 259,.int 121 0,.int 0 0,.ref 266,.int 123 0,.int 0 0,.ref 273,.int 132 0,.int 0 0,.ref 278,.int 140 0,.int 0 0,.ref 285,.int 145 0,.int 0 0,.ref 290,.int 153 0,.int 0 0,.ref 297,.int 157 0,.int 0 0,.ref 304,.int 164 0,.int 0 0,.ref 309,.int 175 0,.int 0 0,.ref 316,.int 180 0,.int 0 0,.ref 323,.int 188 0,.int 0 0,.ref 330,.int 197 0,.int 0 0,.ref 335,.int 202 0,.int 0 0,.ref 342,.int 210 0,.int 0 0,.ref 349,.int 212 0,.int 0 0,.ref 356,.int 219 0,.int 0 0,.ref 363,.int 223 0,.int 0 0,.ref 370,.int 227 0,.int 0 0,.ref 377,.int 234 0,.int 0 0,.ref 382,.int 247 0,.int 0 0,.ref 389,.int 254 0,.int 0 0,.ref 394,.int 260 0,.int 0 0,.ref 401,.int 264 0,.int 0 0,.ref 408,.int 273 0,.int 0 0,.ref 415,.int 281 0,.int 0 0,.ref 423],#[]⟩)]) 372 [tu [],
 ⟨.none,none,.fields #[],#[]⟩,
 tu [.str "code" 694,.str "pairs" 695,.str "state" 696,.str "label" 697,.str "pair" 698],
 tu [],
 ⟨.none,none,.func ⟨"first_pairs","first_pairs",dA (tp 53),.stmts (dB (tp 53)),dS (tp 53),0,[],.none,.none,.none,.none,none,.none,.none,0⟩,#[]⟩,
 co "first_pairs" 691 "first_pairs" 692 693 227 1 372 373 (.ref 374) (.ref 375) 376 699 700,
 fu "first_pairs" "first_pairs" (tp 53) "ownbeat.reading" 672 377,
 tu [],
 ⟨.none,none,.fields #[],#[]⟩,
 ⟨.none,none,.func ⟨"read","read",dA (tp 54),.stmts (dB (tp 54)),dS (tp 54),0,[],.none,.none,.none,.none,none,.none,.none,0⟩,#[]⟩,
 co "read" 702 "read" 703 704 234 2 379 380 (.none) (.none) 381 705 706,
 fu "read" "read" (tp 54) "ownbeat.reading" 672 382,
 tu [],
 ⟨.none,none,.fields #[],#[]⟩,
 tu [.str "code" 711,.str "guesses" 712,.str "word" 713,.str "behind" 714,.str "state" 715,.str "tail" 716,.str "letter" 717,.str "row" 718],
 tu [],
 ⟨.none,none,.func ⟨"guesses_behind","guesses_behind",dA (tp 55),.stmts (dB (tp 55)),dS (tp 55),0,[],.none,.none,.none,.none,none,.none,.none,0⟩,#[]⟩,
 co "guesses_behind" 708 "guesses_behind" 709 710 247 3 384 385 (.ref 386) (.ref 387) 388 719 720,
 fu "guesses_behind" "guesses_behind" (tp 55) "ownbeat.reading" 672 389,
 tu [],
 ⟨.none,none,.fields #[],#[]⟩,
 ⟨.none,none,.func ⟨"shared_count","shared_count",dA (tp 56),.stmts (dB (tp 56)),dS (tp 56),0,[],.none,.none,.none,.none,none,.none,.none,0⟩,#[]⟩,
 co "shared_count" 722 "shared_count" 723 724 254 1 391 392 (.none) (.none) 393 725 726,
 fu "shared_count" "shared_count" (tp 56) "ownbeat.reading" 672 394,
 tu [],
 ⟨.none,none,.fields #[],#[]⟩,
 tu [.str "code" 733,.str "graph" 734,.str "layers" 735],
 tu [],
 ⟨.none,none,.func ⟨"settles","settles",dA (tp 58),.stmts (dB (tp 58)),dS (tp 58),0,[],.none,.none,.none,.none,none,.none,.none,0⟩,#[]⟩,
 co "settles" 730 "settles" 731 732 260 1 396 397 (.ref 398) (.ref 399) 400 736 737,
 fu "settles" "settles" (tp 58) "ownbeat.settling" 728 401,
 tu [],
 ⟨.none,none,.fields #[],#[]⟩,
 tu [.str "code" 742,.str "forward" 743,.str "graph" 744,.str "pair" 745,.str "label" 746,.str "to" 747],
 tu [],
 ⟨.none,none,.func ⟨"backward_graph","backward_graph",dA (tp 59),.stmts (dB (tp 59)),dS (tp 59),0,[],.none,.none,.none,.none,none,.none,.none,0⟩,#[]⟩,
 co "backward_graph" 739 "backward_graph" 740 741 264 1 403 404 (.ref 405) (.ref 406) 407 748 749,
 fu "backward_graph" "backward_graph" (tp 59) "ownbeat.settling" 728 408,
 tu [],
 ⟨.none,none,.fields #[],#[]⟩,
 tu [.str "graph" 754,.str "pairs" 755,.str "pair" 756],
 tu [],
 ⟨.none,none,.func ⟨"unlike_pairs","unlike_pairs",dA (tp 60),.stmts (dB (tp 60)),dS (tp 60),0,[],.none,.none,.none,.none,none,.none,.none,0⟩,#[]⟩,
 co "unlike_pairs" 751 "unlike_pairs" 752 753 273 1 410 411 (.ref 412) (.ref 413) 414 757 758,
 fu "unlike_pairs" "unlike_pairs" (tp 60) "ownbeat.settling" 728 415,
 tu [.str "0" 762,.str "1" 763],
 tu [],
 ⟨.none,none,.fields #[],#[]⟩,
 tu [.str "code" 768],
 tu [],
 ⟨.none,none,.func ⟨"still","still",dA (tp 63),.stmts (dB (tp 63)),dS (tp 63),0,[],.none,.none,.none,.none,none,.none,.none,0⟩,#[]⟩,
 co "still" 765 "still" 766 767 281 1 418 419 (.ref 420) (.ref 421) 422 769 770,
 fu "still" "still" (tp 63) "ownbeat.stillness" 760 423]
def S15:List Stmt:=[tp 53,tp 54,tp 55,tp 56,tp 57,tp 58,tp 59,tp 60,tp 61,tp 62,tp 63]
theorem g15:∀ (w:World) (os:OsState),segRunT treeTable Pw w (nat_lit 11) an 1 (nat_lit 277) ⟨T15 w.params,nat_lit 372,lf,#[],⟨0,0,0,0⟩,nat_lit 691,os⟩ (piecesOf S15 ev cd ⟨223,0,226,61⟩ fr)=some (.next,⟨T16 w.params,nat_lit 425,lf,#[],⟨0,0,0,0⟩,nat_lit 772,os⟩,cd,⟨281,0,284,51⟩):=by
 intro w os
 rw [Fast.te14364793385576792824]
 kernel_rfl
noncomputable def T17 (P:Params):BT:=insL (setL (T16 P) [(3,⟨.type "dict",none,.dict #[en P "__name__" 165 (.str "ownbeat.texts" 854),en P "__doc__" 166 (.none),en P "__package__" 167 (.none),en P "__loader__" 168 (.builtin "__main__.__loader__#opaque"),en P "__spec__" 169 (.none),en P "__annotations__" 170 (.ref 6),en P "__builtins__" 171 (.ref 4),en P "__file__" 173 (.str "/claim/cut.py" 172),en P "__cached__" 174 (.none),en P "BeatError" 206 (.ref 24),en P "NoLetter" 222 (.ref 37),en P "NoCode" 238 (.ref 49),en P "NoWire" 263 (.ref 68),en P "NoWindow" 279 (.ref 80),en P "NoMark" 295 (.ref 92),en P "NoText" 311 (.ref 104),en P "NoName" 327 (.ref 116),en P "NoRow" 343 (.ref 128),en P "is_whole" 352 (.ref 137),en P "is_letter" 360 (.ref 144),en P "is_letter_list" 366 (.ref 149),en P "words_of" 372 (.ref 154),en P "all_signs" 378 (.ref 159),en P "texts_from" 392 (.ref 166),en P "state_texts" 400 (.ref 173),en P "reached" 407 (.ref 180),en P "every_state" 414 (.ref 187),en P "pair_graph" 425 (.ref 194),en P "pair_steps" 439 (.ref 201),en P "layers_of" 449 (.ref 208),en P "layer_behind" 461 (.ref 215),en P "comes_back" 469 (.ref 222),en P "longest_walk" 480 (.ref 229),en P "first_return" 490 (.ref 236),en P "is_code" 498 (.ref 241),en P "is_within" 507 (.ref 248),en P "is_state" 513 (.ref 253),en P "is_row" 522 (.ref 260),en P "is_word" 530 (.ref 267),en P "sent" 542 (.ref 274),en P "letters" 548 (.ref 279),en P "letter_of" 557 (.ref 286),en P "bits_of" 563 (.ref 291),en P "lean" 572 (.ref 298),en P "leaning_loop" 582 (.ref 305),en P "farthest_lean" 588 (.ref 310),en P "farthest_ends" 599 (.ref 317),en P "ends_behind" 613 (.ref 324),en P "leans_in" 623 (.ref 331),en P "LONGEST" 627 (.int 8 626),en P "marks" 633 (.ref 336),en P "standing" 647 (.ref 343),en P "tails_behind" 658 (.ref 350),en P "tail_steps" 671 (.ref 357),en P "given_words" 681 (.ref 364),en P "late" 690 (.ref 371),en P "first_pairs" 701 (.ref 378),en P "read" 707 (.ref 383),en P "guesses_behind" 721 (.ref 390),en P "shared_count" 727 (.ref 395),en P "settles" 738 (.ref 402),en P "backward_graph" 750 (.ref 409),en P "unlike_pairs" 759 (.ref 416),en P "SIGNS" 764 (.ref 417),en P "still" 771 (.ref 424),en P "put_behind" 782 (.ref 431),en P "paper_keys" 792 (.ref 438),en P "greatest_peak" 804 (.ref 445),en P "runs_over" 818 (.ref 452),en P "greatest_runs" 828 (.ref 459),en P "standing_loop" 841 (.ref 466),en P "standing_steps" 847 (.ref 471),en P "loop_of" 853 (.ref 476),en P "FIGURES" 857 (.str "0123456789" 856)] 74,#[]⟩),
 (12,⟨.none,none,.fields #[.int 2 0,.int 0 0,.ref 20,.int 4 0,.int 0 0,.ref 33,.int 6 0,.int 0 0,.ref 45,.int 8 0,.int 0 0,.ref 57,.int 13 0,.int 0 0,.ref 76,.int 15 0,.int 0 0,.ref 88,.int 17 0,.int 0 0,.ref 100,.int 19 0,.int 0 0,.ref 112,.int 21 0,.int 0 0,.ref 124,.int 24 0,.int 0 0,.ref 136,.int 26 0,.int 0 0,.ref 143,.int 28 0,.int 0 0,.ref 148,.int 30 0,.int 0 0,.ref 153,.int 32 0,.int 0 0,.ref 158,.int 37 0,.int 0 0,.ref 165,.int 49 0,.int 0 0,.ref 172,.int 51 0,.int 0 0,.ref 179,.int 53 0,.int 0 0,.ref 186,.int 55 0,.int 0 0,.ref 193,.int 61 0,.int 0 0,.ref 200,.int 68 0,.int 0 0,.ref 207,.int 75 0,.int 0 0,.ref 214,.int 82 0,.int 0 0,.ref 221,.int 84 0,.int 0 0,.ref 228,.int 92 0,.int 0 0,.ref 235,.int 100 0,.int 0 0,.ref 240,.int 111 0,.int 0 0,.ref 247,.int 113 0,.int 0 0,.ref 252,.int 117 0,.int 0 0,.ref 259,.int 121 0,.int 0 0,.ref 266,.int 123 0,.int 0 0,.ref 273,.int 132 0,.int 0 0,.ref 278,.int 140 0,.int 0 0,.ref 285,.int 145 0,.int 0 0,.ref 290,.int 153 0,.int 0 0,.ref 297,.int 157 0,.int 0 0,.ref 304,.int 164 0,.int 0 0,.ref 309,.int 175 0,.int 0 0,.ref 316,.int 180 0,.int 0 0,.ref 323,.int 188 0,.int 0 0,.ref 330,.int 197 0,.int 0 0,.ref 335,.int 202 0,.int 0 0,.ref 342,.int 210 0,.int 0 0,.ref 349,.int 212 0,.int 0 0,.ref 356,.int 219 0,.int 0 0,.ref 363,.int 223 0,.int 0 0,.ref 370,.int 227 0,.int 0 0,.ref 377,.int 234 0,.int 0 0,.ref 382,.int 247 0,.int 0 0,.ref 389,.int 254 0,.int 0 0,.ref 394,.int 260 0,.int 0 0,.ref 401,.int 264 0,.int 0 0,.ref 408,.int 273 0,.int 0 0,.ref 415,.int 281 0,.int 0 0,.ref 423,.int 285 0,.int 0 0,.ref 430,.int 292 0,.int 0 0,.ref 437,.int 298 0,.int 0 0,.ref 444,.int 304 0,.int 0 0,.ref 451,.int 313 0,.int 0 0,.ref 458,.int 322 0,.int 0 0,.ref 465,.int 335 0,.int 0 0,.ref 470,.int 337 0,.int 0 0,.ref 475],#[]⟩)]) 425 [tu [],
 ⟨.none,none,.fields #[],#[]⟩,
 tu [.str "sign" 775,.str "count" 776,.str "word" 777,.str "peak" 778,.str "one" 779],
 tu [],
 ⟨.none,none,.func ⟨"put_behind","put_behind",dA (tp 64),.stmts (dB (tp 64)),dS (tp 64),0,[],.none,.none,.none,.none,none,.none,.none,0⟩,#[]⟩,
 co "put_behind" 772 "put_behind" 773 774 285 3 425 426 (.ref 427) (.ref 428) 429 780 781,
 fu "put_behind" "put_behind" (tp 64) "ownbeat.stillness" 760 430,
 tu [],
 ⟨.none,none,.fields #[],#[]⟩,
 tu [.str "code" 786,.str "keys" 787,.str "state" 788,.str "sign" 789],
 tu [],
 ⟨.none,none,.func ⟨"paper_keys","paper_keys",dA (tp 65),.stmts (dB (tp 65)),dS (tp 65),0,[],.none,.none,.none,.none,none,.none,.none,0⟩,#[]⟩,
 co "paper_keys" 783 "paper_keys" 784 785 292 1 432 433 (.ref 434) (.ref 435) 436 790 791,
 fu "paper_keys" "paper_keys" (tp 65) "ownbeat.stillness" 760 437,
 tu [],
 ⟨.none,none,.fields #[],#[]⟩,
 tu [.str "code" 796,.str "runs" 797,.str "peak" 798,.str "state" 799,.str "sign" 800,.str "row" 801],
 tu [],
 ⟨.none,none,.func ⟨"greatest_peak","greatest_peak",dA (tp 66),.stmts (dB (tp 66)),dS (tp 66),0,[],.none,.none,.none,.none,none,.none,.none,0⟩,#[]⟩,
 co "greatest_peak" 793 "greatest_peak" 794 795 298 2 439 440 (.ref 441) (.ref 442) 443 802 803,
 fu "greatest_peak" "greatest_peak" (tp 66) "ownbeat.stillness" 760 444,
 tu [],
 ⟨.none,none,.fields #[],#[]⟩,
 tu [.str "code" 808,.str "runs" 809,.str "over" 810,.str "state" 811,.str "sign" 812,.str "row" 813,.str "run" 814,.str "key" 815],
 tu [],
 ⟨.none,none,.func ⟨"runs_over","runs_over",dA (tp 67),.stmts (dB (tp 67)),dS (tp 67),0,[],.none,.none,.none,.none,none,.none,.none,0⟩,#[]⟩,
 co "runs_over" 805 "runs_over" 806 807 304 2 446 447 (.ref 448) (.ref 449) 450 816 817,
 fu "runs_over" "runs_over" (tp 67) "ownbeat.stillness" 760 451,
 tu [],
 ⟨.none,none,.fields #[],#[]⟩,
 tu [.str "code" 822,.str "runs" 823,.str "key" 824,.str "over" 825],
 tu [],
 ⟨.none,none,.func ⟨"greatest_runs","greatest_runs",dA (tp 68),.stmts (dB (tp 68)),dS (tp 68),0,[],.none,.none,.none,.none,none,.none,.none,0⟩,#[]⟩,
 co "greatest_runs" 819 "greatest_runs" 820 821 313 1 453 454 (.ref 455) (.ref 456) 457 826 827,
 fu "greatest_runs" "greatest_runs" (tp 68) "ownbeat.stillness" 760 458,
 tu [],
 ⟨.none,none,.fields #[],#[]⟩,
 tu [.str "code" 832,.str "states" 833,.str "sign" 834,.str "graph" 835,.str "state" 836,.str "first" 837,.str "layers" 838],
 tu [],
 ⟨.none,none,.func ⟨"standing_loop","standing_loop",dA (tp 69),.stmts (dB (tp 69)),dS (tp 69),0,[],.none,.none,.none,.none,none,.none,.none,0⟩,#[]⟩,
 co "standing_loop" 829 "standing_loop" 830 831 322 1 460 461 (.ref 462) (.ref 463) 464 839 840,
 fu "standing_loop" "standing_loop" (tp 69) "ownbeat.stillness" 760 465,
 tu [],
 ⟨.none,none,.fields #[],#[]⟩,
 ⟨.none,none,.func ⟨"standing_steps","standing_steps",dA (tp 70),.stmts (dB (tp 70)),dS (tp 70),0,[],.none,.none,.none,.none,none,.none,.none,0⟩,#[]⟩,
 co "standing_steps" 842 "standing_steps" 843 844 335 3 467 468 (.none) (.none) 469 845 846,
 fu "standing_steps" "standing_steps" (tp 70) "ownbeat.stillness" 760 470,
 tu [],
 ⟨.none,none,.fields #[],#[]⟩,
 ⟨.none,none,.func ⟨"loop_of","loop_of",dA (tp 71),.stmts (dB (tp 71)),dS (tp 71),0,[],.none,.none,.none,.none,none,.none,.none,0⟩,#[]⟩,
 co "loop_of" 848 "loop_of" 849 850 337 1 472 473 (.none) (.none) 474 851 852,
 fu "loop_of" "loop_of" (tp 71) "ownbeat.stillness" 760 475]
def S16:List Stmt:=[tp 64,tp 65,tp 66,tp 67,tp 68,tp 69,tp 70,tp 71,tp 72,tp 73]
theorem g16:∀ (w:World) (os:OsState),segRunT treeTable Pw w (nat_lit 11) an 1 (nat_lit 273) ⟨T16 w.params,nat_lit 425,lf,#[],⟨0,0,0,0⟩,nat_lit 772,os⟩ (piecesOf S16 ev cd ⟨281,0,284,51⟩ fr)=some (.next,⟨T17 w.params,nat_lit 477,lf,#[],⟨0,0,0,0⟩,nat_lit 858,os⟩,cd,⟨341,0,341,7⟩):=by
 intro w os
 rw [Fast.te14364793385576792824]
 kernel_rfl
noncomputable def T18 (P:Params):BT:=insL (setL (T17 P) [(3,⟨.type "dict",none,.dict #[en P "__name__" 165 (.str "ownbeat.desk" 933),en P "__doc__" 166 (.none),en P "__package__" 167 (.none),en P "__loader__" 168 (.builtin "__main__.__loader__#opaque"),en P "__spec__" 169 (.none),en P "__annotations__" 170 (.ref 6),en P "__builtins__" 171 (.ref 4),en P "__file__" 173 (.str "/claim/cut.py" 172),en P "__cached__" 174 (.none),en P "BeatError" 206 (.ref 24),en P "NoLetter" 222 (.ref 37),en P "NoCode" 238 (.ref 49),en P "NoWire" 263 (.ref 68),en P "NoWindow" 279 (.ref 80),en P "NoMark" 295 (.ref 92),en P "NoText" 311 (.ref 104),en P "NoName" 327 (.ref 116),en P "NoRow" 343 (.ref 128),en P "is_whole" 352 (.ref 137),en P "is_letter" 360 (.ref 144),en P "is_letter_list" 366 (.ref 149),en P "words_of" 372 (.ref 154),en P "all_signs" 378 (.ref 159),en P "texts_from" 392 (.ref 166),en P "state_texts" 400 (.ref 173),en P "reached" 407 (.ref 180),en P "every_state" 414 (.ref 187),en P "pair_graph" 425 (.ref 194),en P "pair_steps" 439 (.ref 201),en P "layers_of" 449 (.ref 208),en P "layer_behind" 461 (.ref 215),en P "comes_back" 469 (.ref 222),en P "longest_walk" 480 (.ref 229),en P "first_return" 490 (.ref 236),en P "is_code" 498 (.ref 241),en P "is_within" 507 (.ref 248),en P "is_state" 513 (.ref 253),en P "is_row" 522 (.ref 260),en P "is_word" 530 (.ref 267),en P "sent" 542 (.ref 274),en P "letters" 548 (.ref 279),en P "letter_of" 557 (.ref 286),en P "bits_of" 563 (.ref 291),en P "lean" 572 (.ref 298),en P "leaning_loop" 582 (.ref 305),en P "farthest_lean" 588 (.ref 310),en P "farthest_ends" 599 (.ref 317),en P "ends_behind" 613 (.ref 324),en P "leans_in" 623 (.ref 331),en P "LONGEST" 627 (.int 8 626),en P "marks" 633 (.ref 336),en P "standing" 647 (.ref 343),en P "tails_behind" 658 (.ref 350),en P "tail_steps" 671 (.ref 357),en P "given_words" 681 (.ref 364),en P "late" 690 (.ref 371),en P "first_pairs" 701 (.ref 378),en P "read" 707 (.ref 383),en P "guesses_behind" 721 (.ref 390),en P "shared_count" 727 (.ref 395),en P "settles" 738 (.ref 402),en P "backward_graph" 750 (.ref 409),en P "unlike_pairs" 759 (.ref 416),en P "SIGNS" 764 (.ref 417),en P "still" 771 (.ref 424),en P "put_behind" 782 (.ref 431),en P "paper_keys" 792 (.ref 438),en P "greatest_peak" 804 (.ref 445),en P "runs_over" 818 (.ref 452),en P "greatest_runs" 828 (.ref 459),en P "standing_loop" 841 (.ref 466),en P "standing_steps" 847 (.ref 471),en P "loop_of" 853 (.ref 476),en P "FIGURES" 857 (.str "0123456789" 856),en P "read_code" 865 (.ref 483),en P "code_of" 871 (.ref 488),en P "state_of" 877 (.ref 493),en P "row_of" 885 (.ref 500),en P "number_of" 892 (.ref 507),en P "WIDEST" 896 (.int 6 895),en P "graph_tells" 906 (.ref 514),en P "pairs_behind" 916 (.ref 521),en P "unlike_steps" 922 (.ref 526),en P "least_window" 932 (.ref 533),en P "SMALL_LETTERS" 936 (.str "abcdefghijklmnopqrstuvwxyz" 935)] 85,#[]⟩),
 (12,⟨.none,none,.fields #[.int 2 0,.int 0 0,.ref 20,.int 4 0,.int 0 0,.ref 33,.int 6 0,.int 0 0,.ref 45,.int 8 0,.int 0 0,.ref 57,.int 13 0,.int 0 0,.ref 76,.int 15 0,.int 0 0,.ref 88,.int 17 0,.int 0 0,.ref 100,.int 19 0,.int 0 0,.ref 112,.int 21 0,.int 0 0,.ref 124,.int 24 0,.int 0 0,.ref 136,.int 26 0,.int 0 0,.ref 143,.int 28 0,.int 0 0,.ref 148,.int 30 0,.int 0 0,.ref 153,.int 32 0,.int 0 0,.ref 158,.int 37 0,.int 0 0,.ref 165,.int 49 0,.int 0 0,.ref 172,.int 51 0,.int 0 0,.ref 179,.int 53 0,.int 0 0,.ref 186,.int 55 0,.int 0 0,.ref 193,.int 61 0,.int 0 0,.ref 200,.int 68 0,.int 0 0,.ref 207,.int 75 0,.int 0 0,.ref 214,.int 82 0,.int 0 0,.ref 221,.int 84 0,.int 0 0,.ref 228,.int 92 0,.int 0 0,.ref 235,.int 100 0,.int 0 0,.ref 240,.int 111 0,.int 0 0,.ref 247,.int 113 0,.int 0 0,.ref 252,.int 117 0,.int 0 0,.ref 259,.int 121 0,.int 0 0,.ref 266,.int 123 0,.int 0 0,.ref 273,.int 132 0,.int 0 0,.ref 278,.int 140 0,.int 0 0,.ref 285,.int 145 0,.int 0 0,.ref 290,.int 153 0,.int 0 0,.ref 297,.int 157 0,.int 0 0,.ref 304,.int 164 0,.int 0 0,.ref 309,.int 175 0,.int 0 0,.ref 316,.int 180 0,.int 0 0,.ref 323,.int 188 0,.int 0 0,.ref 330,.int 197 0,.int 0 0,.ref 335,.int 202 0,.int 0 0,.ref 342,.int 210 0,.int 0 0,.ref 349,.int 212 0,.int 0 0,.ref 356,.int 219 0,.int 0 0,.ref 363,.int 223 0,.int 0 0,.ref 370,.int 227 0,.int 0 0,.ref 377,.int 234 0,.int 0 0,.ref 382,.int 247 0,.int 0 0,.ref 389,.int 254 0,.int 0 0,.ref 394,.int 260 0,.int 0 0,.ref 401,.int 264 0,.int 0 0,.ref 408,.int 273 0,.int 0 0,.ref 415,.int 281 0,.int 0 0,.ref 423,.int 285 0,.int 0 0,.ref 430,.int 292 0,.int 0 0,.ref 437,.int 298 0,.int 0 0,.ref 444,.int 304 0,.int 0 0,.ref 451,.int 313 0,.int 0 0,.ref 458,.int 322 0,.int 0 0,.ref 465,.int 335 0,.int 0 0,.ref 470,.int 337 0,.int 0 0,.ref 475,.int 342 0,.int 0 0,.ref 482,.int 349 0,.int 0 0,.ref 487,.int 352 0,.int 0 0,.ref 492,.int 354 0,.int 0 0,.ref 499,.int 357 0,.int 0 0,.ref 506,.int 361 0,.int 0 0,.ref 513,.int 365 0,.int 0 0,.ref 520,.int 369 0,.int 0 0,.ref 525,.int 374 0,.int 0 0,.ref 532],#[]⟩)]) 477 [tu [],
 ⟨.none,none,.fields #[],#[]⟩,
 tu [.str "text" 861,.str "code" 862],
 tu [],
 ⟨.none,none,.func ⟨"read_code","read_code",dA (tp 74),.stmts (dB (tp 74)),dS (tp 74),0,[],.none,.none,.none,.none,none,.none,.none,0⟩,#[]⟩,
 co "read_code" 858 "read_code" 859 860 342 1 477 478 (.ref 479) (.ref 480) 481 863 864,
 fu "read_code" "read_code" (tp 74) "ownbeat.texts" 854 482,
 tu [],
 ⟨.none,none,.fields #[],#[]⟩,
 ⟨.none,none,.func ⟨"code_of","code_of",dA (tp 75),.stmts (dB (tp 75)),dS (tp 75),0,[],.none,.none,.none,.none,none,.none,.none,0⟩,#[]⟩,
 co "code_of" 866 "code_of" 867 868 349 1 484 485 (.none) (.none) 486 869 870,
 fu "code_of" "code_of" (tp 75) "ownbeat.texts" 854 487,
 tu [],
 ⟨.none,none,.fields #[],#[]⟩,
 ⟨.none,none,.func ⟨"state_of","state_of",dA (tp 76),.stmts (dB (tp 76)),dS (tp 76),0,[],.none,.none,.none,.none,none,.none,.none,0⟩,#[]⟩,
 co "state_of" 872 "state_of" 873 874 352 1 489 490 (.none) (.none) 491 875 876,
 fu "state_of" "state_of" (tp 76) "ownbeat.texts" 854 492,
 tu [],
 ⟨.none,none,.fields #[],#[]⟩,
 tu [.str "row" 881,.str "pieces" 882],
 tu [],
 ⟨.none,none,.func ⟨"row_of","row_of",dA (tp 77),.stmts (dB (tp 77)),dS (tp 77),0,[],.none,.none,.none,.none,none,.none,.none,0⟩,#[]⟩,
 co "row_of" 878 "row_of" 879 880 354 1 494 495 (.ref 496) (.ref 497) 498 883 884,
 fu "row_of" "row_of" (tp 77) "ownbeat.texts" 854 499,
 tu [],
 ⟨.none,none,.fields #[],#[]⟩,
 tu [.str "part" 889],
 tu [],
 ⟨.none,none,.func ⟨"number_of","number_of",dA (tp 78),.stmts (dB (tp 78)),dS (tp 78),0,[],.none,.none,.none,.none,none,.none,.none,0⟩,#[]⟩,
 co "number_of" 886 "number_of" 887 888 357 1 501 502 (.ref 503) (.ref 504) 505 890 891,
 fu "number_of" "number_of" (tp 78) "ownbeat.texts" 854 506,
 tu [],
 ⟨.none,none,.fields #[],#[]⟩,
 tu [.str "graph" 900,.str "back" 901,.str "ahead" 902,.str "pairs" 903],
 tu [],
 ⟨.none,none,.func ⟨"graph_tells","graph_tells",dA (tp 81),.stmts (dB (tp 81)),dS (tp 81),0,[],.none,.none,.none,.none,none,.none,.none,0⟩,#[]⟩,
 co "graph_tells" 897 "graph_tells" 898 899 361 3 508 509 (.ref 510) (.ref 511) 512 904 905,
 fu "graph_tells" "graph_tells" (tp 81) "ownbeat.windows" 893 513,
 tu [],
 ⟨.none,none,.fields #[],#[]⟩,
 tu [.str "pairs" 910,.str "graph" 911,.str "count" 912,.str "place" 913],
 tu [],
 ⟨.none,none,.func ⟨"pairs_behind","pairs_behind",dA (tp 82),.stmts (dB (tp 82)),dS (tp 82),0,[],.none,.none,.none,.none,none,.none,.none,0⟩,#[]⟩,
 co "pairs_behind" 907 "pairs_behind" 908 909 365 3 515 516 (.ref 517) (.ref 518) 519 914 915,
 fu "pairs_behind" "pairs_behind" (tp 82) "ownbeat.windows" 893 520,
 tu [],
 ⟨.none,none,.fields #[],#[]⟩,
 ⟨.none,none,.func ⟨"unlike_steps","unlike_steps",dA (tp 83),.stmts (dB (tp 83)),dS (tp 83),0,[],.none,.none,.none,.none,none,.none,.none,0⟩,#[]⟩,
 co "unlike_steps" 917 "unlike_steps" 918 919 369 1 522 523 (.none) (.none) 524 920 921,
 fu "unlike_steps" "unlike_steps" (tp 83) "ownbeat.windows" 893 525,
 tu [],
 ⟨.none,none,.fields #[],#[]⟩,
 tu [.str "code" 926,.str "graph" 927,.str "both" 928,.str "back" 929],
 tu [],
 ⟨.none,none,.func ⟨"least_window","least_window",dA (tp 84),.stmts (dB (tp 84)),dS (tp 84),0,[],.none,.none,.none,.none,none,.none,.none,0⟩,#[]⟩,
 co "least_window" 923 "least_window" 924 925 374 1 527 528 (.ref 529) (.ref 530) 531 930 931,
 fu "least_window" "least_window" (tp 84) "ownbeat.windows" 893 532]
def S17:List Stmt:=[tp 74,tp 75,tp 76,tp 77,tp 78,tp 79,tp 80,tp 81,tp 82,tp 83,tp 84,tp 85,tp 86]
theorem g17:∀ (w:World) (os:OsState),segRunT treeTable Pw w (nat_lit 11) an 1 (nat_lit 300) ⟨T17 w.params,nat_lit 477,lf,#[],⟨0,0,0,0⟩,nat_lit 858,os⟩ (piecesOf S17 ev cd ⟨341,0,341,7⟩ fr)=some (.next,⟨T18 w.params,nat_lit 534,lf,#[],⟨0,0,0,0⟩,nat_lit 937,os⟩,cd,⟨382,0,382,13⟩):=by
 intro w os
 rw [Fast.te14364793385576792824]
 kernel_rfl
noncomputable def T19 (P:Params):BT:=insL (setL (T18 P) [(3,⟨.type "dict",none,.dict #[en P "__name__" 165 (.str "ownbeat.desk" 933),en P "__doc__" 166 (.none),en P "__package__" 167 (.none),en P "__loader__" 168 (.builtin "__main__.__loader__#opaque"),en P "__spec__" 169 (.none),en P "__annotations__" 170 (.ref 6),en P "__builtins__" 171 (.ref 4),en P "__file__" 173 (.str "/claim/cut.py" 172),en P "__cached__" 174 (.none),en P "BeatError" 206 (.ref 24),en P "NoLetter" 222 (.ref 37),en P "NoCode" 238 (.ref 49),en P "NoWire" 263 (.ref 68),en P "NoWindow" 279 (.ref 80),en P "NoMark" 295 (.ref 92),en P "NoText" 311 (.ref 104),en P "NoName" 327 (.ref 116),en P "NoRow" 343 (.ref 128),en P "is_whole" 352 (.ref 137),en P "is_letter" 360 (.ref 144),en P "is_letter_list" 366 (.ref 149),en P "words_of" 372 (.ref 154),en P "all_signs" 378 (.ref 159),en P "texts_from" 392 (.ref 166),en P "state_texts" 400 (.ref 173),en P "reached" 407 (.ref 180),en P "every_state" 414 (.ref 187),en P "pair_graph" 425 (.ref 194),en P "pair_steps" 439 (.ref 201),en P "layers_of" 449 (.ref 208),en P "layer_behind" 461 (.ref 215),en P "comes_back" 469 (.ref 222),en P "longest_walk" 480 (.ref 229),en P "first_return" 490 (.ref 236),en P "is_code" 498 (.ref 241),en P "is_within" 507 (.ref 248),en P "is_state" 513 (.ref 253),en P "is_row" 522 (.ref 260),en P "is_word" 530 (.ref 267),en P "sent" 542 (.ref 274),en P "letters" 548 (.ref 279),en P "letter_of" 557 (.ref 286),en P "bits_of" 563 (.ref 291),en P "lean" 572 (.ref 298),en P "leaning_loop" 582 (.ref 305),en P "farthest_lean" 588 (.ref 310),en P "farthest_ends" 599 (.ref 317),en P "ends_behind" 613 (.ref 324),en P "leans_in" 623 (.ref 331),en P "LONGEST" 627 (.int 8 626),en P "marks" 633 (.ref 336),en P "standing" 647 (.ref 343),en P "tails_behind" 658 (.ref 350),en P "tail_steps" 671 (.ref 357),en P "given_words" 681 (.ref 364),en P "late" 690 (.ref 371),en P "first_pairs" 701 (.ref 378),en P "read" 707 (.ref 383),en P "guesses_behind" 721 (.ref 390),en P "shared_count" 727 (.ref 395),en P "settles" 738 (.ref 402),en P "backward_graph" 750 (.ref 409),en P "unlike_pairs" 759 (.ref 416),en P "SIGNS" 764 (.ref 417),en P "still" 771 (.ref 424),en P "put_behind" 782 (.ref 431),en P "paper_keys" 792 (.ref 438),en P "greatest_peak" 804 (.ref 445),en P "runs_over" 818 (.ref 452),en P "greatest_runs" 828 (.ref 459),en P "standing_loop" 841 (.ref 466),en P "standing_steps" 847 (.ref 471),en P "loop_of" 853 (.ref 476),en P "FIGURES" 857 (.str "0123456789" 856),en P "read_code" 865 (.ref 483),en P "code_of" 871 (.ref 488),en P "state_of" 877 (.ref 493),en P "row_of" 885 (.ref 500),en P "number_of" 892 (.ref 507),en P "WIDEST" 896 (.int 6 895),en P "graph_tells" 906 (.ref 514),en P "pairs_behind" 916 (.ref 521),en P "unlike_steps" 922 (.ref 526),en P "least_window" 932 (.ref 533),en P "SMALL_LETTERS" 936 (.str "abcdefghijklmnopqrstuvwxyz" 935),en P "LONGEST_NAME" 938 (.int 8 937),en P "LENGTHS" 947 (.ref 534),en P "NOTHING" 949 (.str "-" 948),en P "NONE" 951 (.str "none" 950)] 89,#[]⟩)]) 534 [tu [.str "1" 939,.str "2" 940,.str "3" 941,.str "4" 942,.str "5" 943,.str "6" 944,.str "7" 945,.str "8" 946]]
def S18:List Stmt:=[tp 87,tp 88,tp 89,tp 90]
theorem g18:∀ (w:World) (os:OsState),segRunT treeTable Pw w (nat_lit 11) an 1 (nat_lit 46) ⟨T18 w.params,nat_lit 534,lf,#[],⟨0,0,0,0⟩,nat_lit 937,os⟩ (piecesOf S18 ev cd ⟨382,0,382,13⟩ fr)=some (.next,⟨T19 w.params,nat_lit 535,lf,#[],⟨0,0,0,0⟩,nat_lit 952,os⟩,cd,⟨386,0,386,4⟩):=by
 intro w os
 rw [Fast.te14364793385576792824]
 kernel_rfl
noncomputable def T20 (P:Params):BT:=insL (setL (T19 P) [(3,⟨.type "dict",none,.dict #[en P "__name__" 165 (.str "ownbeat.desk" 933),en P "__doc__" 166 (.none),en P "__package__" 167 (.none),en P "__loader__" 168 (.builtin "__main__.__loader__#opaque"),en P "__spec__" 169 (.none),en P "__annotations__" 170 (.ref 6),en P "__builtins__" 171 (.ref 4),en P "__file__" 173 (.str "/claim/cut.py" 172),en P "__cached__" 174 (.none),en P "BeatError" 206 (.ref 24),en P "NoLetter" 222 (.ref 37),en P "NoCode" 238 (.ref 49),en P "NoWire" 263 (.ref 68),en P "NoWindow" 279 (.ref 80),en P "NoMark" 295 (.ref 92),en P "NoText" 311 (.ref 104),en P "NoName" 327 (.ref 116),en P "NoRow" 343 (.ref 128),en P "is_whole" 352 (.ref 137),en P "is_letter" 360 (.ref 144),en P "is_letter_list" 366 (.ref 149),en P "words_of" 372 (.ref 154),en P "all_signs" 378 (.ref 159),en P "texts_from" 392 (.ref 166),en P "state_texts" 400 (.ref 173),en P "reached" 407 (.ref 180),en P "every_state" 414 (.ref 187),en P "pair_graph" 425 (.ref 194),en P "pair_steps" 439 (.ref 201),en P "layers_of" 449 (.ref 208),en P "layer_behind" 461 (.ref 215),en P "comes_back" 469 (.ref 222),en P "longest_walk" 480 (.ref 229),en P "first_return" 490 (.ref 236),en P "is_code" 498 (.ref 241),en P "is_within" 507 (.ref 248),en P "is_state" 513 (.ref 253),en P "is_row" 522 (.ref 260),en P "is_word" 530 (.ref 267),en P "sent" 542 (.ref 274),en P "letters" 548 (.ref 279),en P "letter_of" 557 (.ref 286),en P "bits_of" 563 (.ref 291),en P "lean" 572 (.ref 298),en P "leaning_loop" 582 (.ref 305),en P "farthest_lean" 588 (.ref 310),en P "farthest_ends" 599 (.ref 317),en P "ends_behind" 613 (.ref 324),en P "leans_in" 623 (.ref 331),en P "LONGEST" 627 (.int 8 626),en P "marks" 633 (.ref 336),en P "standing" 647 (.ref 343),en P "tails_behind" 658 (.ref 350),en P "tail_steps" 671 (.ref 357),en P "given_words" 681 (.ref 364),en P "late" 690 (.ref 371),en P "first_pairs" 701 (.ref 378),en P "read" 707 (.ref 383),en P "guesses_behind" 721 (.ref 390),en P "shared_count" 727 (.ref 395),en P "settles" 738 (.ref 402),en P "backward_graph" 750 (.ref 409),en P "unlike_pairs" 759 (.ref 416),en P "SIGNS" 764 (.ref 417),en P "still" 771 (.ref 424),en P "put_behind" 782 (.ref 431),en P "paper_keys" 792 (.ref 438),en P "greatest_peak" 804 (.ref 445),en P "runs_over" 818 (.ref 452),en P "greatest_runs" 828 (.ref 459),en P "standing_loop" 841 (.ref 466),en P "standing_steps" 847 (.ref 471),en P "loop_of" 853 (.ref 476),en P "FIGURES" 857 (.str "0123456789" 856),en P "read_code" 865 (.ref 483),en P "code_of" 871 (.ref 488),en P "state_of" 877 (.ref 493),en P "row_of" 885 (.ref 500),en P "number_of" 892 (.ref 507),en P "WIDEST" 896 (.int 6 895),en P "graph_tells" 906 (.ref 514),en P "pairs_behind" 916 (.ref 521),en P "unlike_steps" 922 (.ref 526),en P "least_window" 932 (.ref 533),en P "SMALL_LETTERS" 936 (.str "abcdefghijklmnopqrstuvwxyz" 935),en P "LONGEST_NAME" 938 (.int 8 937),en P "LENGTHS" 947 (.ref 534),en P "NOTHING" 949 (.str "-" 948),en P "NONE" 951 (.str "none" 950),en P "Desk" 996 (.ref 565)] 90,#[]⟩),
 (12,⟨.none,none,.fields #[.int 2 0,.int 0 0,.ref 20,.int 4 0,.int 0 0,.ref 33,.int 6 0,.int 0 0,.ref 45,.int 8 0,.int 0 0,.ref 57,.int 13 0,.int 0 0,.ref 76,.int 15 0,.int 0 0,.ref 88,.int 17 0,.int 0 0,.ref 100,.int 19 0,.int 0 0,.ref 112,.int 21 0,.int 0 0,.ref 124,.int 24 0,.int 0 0,.ref 136,.int 26 0,.int 0 0,.ref 143,.int 28 0,.int 0 0,.ref 148,.int 30 0,.int 0 0,.ref 153,.int 32 0,.int 0 0,.ref 158,.int 37 0,.int 0 0,.ref 165,.int 49 0,.int 0 0,.ref 172,.int 51 0,.int 0 0,.ref 179,.int 53 0,.int 0 0,.ref 186,.int 55 0,.int 0 0,.ref 193,.int 61 0,.int 0 0,.ref 200,.int 68 0,.int 0 0,.ref 207,.int 75 0,.int 0 0,.ref 214,.int 82 0,.int 0 0,.ref 221,.int 84 0,.int 0 0,.ref 228,.int 92 0,.int 0 0,.ref 235,.int 100 0,.int 0 0,.ref 240,.int 111 0,.int 0 0,.ref 247,.int 113 0,.int 0 0,.ref 252,.int 117 0,.int 0 0,.ref 259,.int 121 0,.int 0 0,.ref 266,.int 123 0,.int 0 0,.ref 273,.int 132 0,.int 0 0,.ref 278,.int 140 0,.int 0 0,.ref 285,.int 145 0,.int 0 0,.ref 290,.int 153 0,.int 0 0,.ref 297,.int 157 0,.int 0 0,.ref 304,.int 164 0,.int 0 0,.ref 309,.int 175 0,.int 0 0,.ref 316,.int 180 0,.int 0 0,.ref 323,.int 188 0,.int 0 0,.ref 330,.int 197 0,.int 0 0,.ref 335,.int 202 0,.int 0 0,.ref 342,.int 210 0,.int 0 0,.ref 349,.int 212 0,.int 0 0,.ref 356,.int 219 0,.int 0 0,.ref 363,.int 223 0,.int 0 0,.ref 370,.int 227 0,.int 0 0,.ref 377,.int 234 0,.int 0 0,.ref 382,.int 247 0,.int 0 0,.ref 389,.int 254 0,.int 0 0,.ref 394,.int 260 0,.int 0 0,.ref 401,.int 264 0,.int 0 0,.ref 408,.int 273 0,.int 0 0,.ref 415,.int 281 0,.int 0 0,.ref 423,.int 285 0,.int 0 0,.ref 430,.int 292 0,.int 0 0,.ref 437,.int 298 0,.int 0 0,.ref 444,.int 304 0,.int 0 0,.ref 451,.int 313 0,.int 0 0,.ref 458,.int 322 0,.int 0 0,.ref 465,.int 335 0,.int 0 0,.ref 470,.int 337 0,.int 0 0,.ref 475,.int 342 0,.int 0 0,.ref 482,.int 349 0,.int 0 0,.ref 487,.int 352 0,.int 0 0,.ref 492,.int 354 0,.int 0 0,.ref 499,.int 357 0,.int 0 0,.ref 506,.int 361 0,.int 0 0,.ref 513,.int 365 0,.int 0 0,.ref 520,.int 369 0,.int 0 0,.ref 525,.int 374 0,.int 0 0,.ref 532,.int 387 0,.int 0 0,.ref 540],#[]⟩)]) 535 [tu [],
 ⟨.type "builtin_function_or_method",none,.fields #[.builtin "type.__prepare__",.type "type"],#[]⟩,
 ⟨.type "dict",none,.dict #[en P "__module__" 959 (.str "ownbeat.desk" 933),en P "__qualname__" 961 (.str "Desk" 960),en P "__firstlineno__" 963 (.int 387 962),en P "__init__" 970 (.ref 548),en P "say" 980 (.ref 555),en P "names" 987 (.ref 562),en P "__static_attributes__" 989 (.ref 563)] 7,#[]⟩,
 tu [],
 ⟨.none,none,.fields #[.int 389 0,.int 4 0,.ref 547,.int 392 0,.int 4 0,.ref 554,.int 404 0,.int 4 0,.ref 561],#[]⟩,
 ⟨.type "code",none,.fields #[.str "Desk" 954,.str "Desk" 955,.str "/claim/cut.py" 956,.int 387 0,.int 0 0,.int 0 0,.int 0 0,.int 0 0,.ref 538,.bool false,.int 181 0,.ref 539,.none,.none,.none,.none,.int 957 0,.int 387 0,.str "/claim/cut.py" 958],#[]⟩,
 ⟨.type "frame",none,.plain,#[some (.ref 540),some (.ref 3),some (.ref 537),none,some (.str "ownbeat.desk" 933),none,some (.ref 0)]⟩,
 tu [],
 ⟨.none,none,.fields #[],#[]⟩,
 tu [.str "self" 967],
 tu [],
 ⟨.none,none,.func ⟨"__init__","Desk.__init__",dA (cm (tp 91) 0),.stmts (dB (cm (tp 91) 0)),dS (cm (tp 91) 0),0,[],.none,.none,.none,.none,none,.none,.none,0⟩,#[]⟩,
 co "__init__" 964 "Desk.__init__" 965 966 389 1 542 543 (.ref 544) (.ref 545) 546 968 969,
 fu "__init__" "Desk.__init__" (cm (tp 91) 0) "ownbeat.desk" 933 547,
 tu [],
 ⟨.none,none,.fields #[],#[]⟩,
 tu [.str "self" 974,.str "row" 975,.str "words" 976,.str "name" 977],
 tu [],
 ⟨.none,none,.func ⟨"say","Desk.say",dA (cm (tp 91) 1),.stmts (dB (cm (tp 91) 1)),dS (cm (tp 91) 1),0,[],.none,.none,.none,.none,none,.none,.none,0⟩,#[]⟩,
 co "say" 971 "Desk.say" 972 973 392 2 549 550 (.ref 551) (.ref 552) 553 978 979,
 fu "say" "Desk.say" (cm (tp 91) 1) "ownbeat.desk" 933 554,
 tu [],
 ⟨.none,none,.fields #[],#[]⟩,
 tu [.str "self" 984],
 tu [],
 ⟨.none,none,.func ⟨"names","Desk.names",dA (cm (tp 91) 2),.stmts (dB (cm (tp 91) 2)),dS (cm (tp 91) 2),0,[],.none,.none,.none,.none,none,.none,.none,0⟩,#[]⟩,
 co "names" 981 "Desk.names" 982 983 404 1 556 557 (.ref 558) (.ref 559) 560 985 986,
 fu "names" "Desk.names" (cm (tp 91) 2) "ownbeat.desk" 933 561,
 tu [.str "codes" 988],
 ⟨.type "dict",none,.dict #[en P "__module__" 959 (.str "ownbeat.desk" 933),en P "__firstlineno__" 963 (.int 387 962),en P "__init__" 970 (.ref 548),en P "say" 980 (.ref 555),en P "names" 987 (.ref 562),en P "__static_attributes__" 989 (.ref 563),en P "__dict__" 991 (.ref 566),en P "__weakref__" 993 (.ref 567),en P "__doc__" 994 (.none)] 4,#[]⟩,
 ⟨.type "type",none,.cls ⟨"Desk",[.type "object"],[.ref 565,.type "object"],564,"Desk",true,[],[],false,none,false⟩,#[none,none,some (.str "Desk" 952),some (.str "Desk" 960),some (.builtin "object.__new__"),some (.bool true)]⟩,
 ⟨.type "getset_descriptor",none,.fields #[.str "__dict__" 990,.ref 565,.builtin "function.__dict__",.builtin "function.__dict__#set"],#[]⟩,
 ⟨.type "getset_descriptor",none,.fields #[.str "__weakref__" 992,.ref 565,.builtin "ExceptionGroup.__weakref__",.none],#[]⟩,
 ⟨.type "super",none,.fields #[.ref 565,.ref 565,.ref 565],#[]⟩,
 ⟨.type "builtin_function_or_method",none,.fields #[.builtin "object.__init_subclass__",.ref 565],#[]⟩]
def S19:List Stmt:=[tp 91]
theorem g19:∀ (w:World) (os:OsState),segRunT treeTable Pw w (nat_lit 11) an 1 (nat_lit 287) ⟨T19 w.params,nat_lit 535,lf,#[],⟨0,0,0,0⟩,nat_lit 952,os⟩ (piecesOf S19 ev cd ⟨386,0,386,4⟩ fr)=some (.next,⟨T20 w.params,nat_lit 570,lf,#[],⟨0,0,0,0⟩,nat_lit 997,os⟩,cd,⟨387,0,405,33⟩):=by
 intro w os
 rw [Fast.te14364793385576792824]
 kernel_rfl
noncomputable def T21 (P:Params):BT:=insL (setL (T20 P) [(3,⟨.type "dict",none,.dict #[en P "__name__" 165 (.str "law_ownbeat_k66_names_on_desks" 1061),en P "__doc__" 166 (.none),en P "__package__" 167 (.none),en P "__loader__" 168 (.builtin "__main__.__loader__#opaque"),en P "__spec__" 169 (.none),en P "__annotations__" 170 (.ref 6),en P "__builtins__" 171 (.ref 4),en P "__file__" 173 (.str "/claim/cut.py" 172),en P "__cached__" 174 (.none),en P "BeatError" 206 (.ref 24),en P "NoLetter" 222 (.ref 37),en P "NoCode" 238 (.ref 49),en P "NoWire" 263 (.ref 68),en P "NoWindow" 279 (.ref 80),en P "NoMark" 295 (.ref 92),en P "NoText" 311 (.ref 104),en P "NoName" 327 (.ref 116),en P "NoRow" 343 (.ref 128),en P "is_whole" 352 (.ref 137),en P "is_letter" 360 (.ref 144),en P "is_letter_list" 366 (.ref 149),en P "words_of" 372 (.ref 154),en P "all_signs" 378 (.ref 159),en P "texts_from" 392 (.ref 166),en P "state_texts" 400 (.ref 173),en P "reached" 407 (.ref 180),en P "every_state" 414 (.ref 187),en P "pair_graph" 425 (.ref 194),en P "pair_steps" 439 (.ref 201),en P "layers_of" 449 (.ref 208),en P "layer_behind" 461 (.ref 215),en P "comes_back" 469 (.ref 222),en P "longest_walk" 480 (.ref 229),en P "first_return" 490 (.ref 236),en P "is_code" 498 (.ref 241),en P "is_within" 507 (.ref 248),en P "is_state" 513 (.ref 253),en P "is_row" 522 (.ref 260),en P "is_word" 530 (.ref 267),en P "sent" 542 (.ref 274),en P "letters" 548 (.ref 279),en P "letter_of" 557 (.ref 286),en P "bits_of" 563 (.ref 291),en P "lean" 572 (.ref 298),en P "leaning_loop" 582 (.ref 305),en P "farthest_lean" 588 (.ref 310),en P "farthest_ends" 599 (.ref 317),en P "ends_behind" 613 (.ref 324),en P "leans_in" 623 (.ref 331),en P "LONGEST" 627 (.int 8 626),en P "marks" 633 (.ref 336),en P "standing" 647 (.ref 343),en P "tails_behind" 658 (.ref 350),en P "tail_steps" 671 (.ref 357),en P "given_words" 681 (.ref 364),en P "late" 690 (.ref 371),en P "first_pairs" 701 (.ref 378),en P "read" 707 (.ref 383),en P "guesses_behind" 721 (.ref 390),en P "shared_count" 727 (.ref 395),en P "settles" 738 (.ref 402),en P "backward_graph" 750 (.ref 409),en P "unlike_pairs" 759 (.ref 416),en P "SIGNS" 764 (.ref 417),en P "still" 771 (.ref 424),en P "put_behind" 782 (.ref 431),en P "paper_keys" 792 (.ref 438),en P "greatest_peak" 804 (.ref 445),en P "runs_over" 818 (.ref 452),en P "greatest_runs" 828 (.ref 459),en P "standing_loop" 841 (.ref 466),en P "standing_steps" 847 (.ref 471),en P "loop_of" 853 (.ref 476),en P "FIGURES" 857 (.str "0123456789" 856),en P "read_code" 865 (.ref 483),en P "code_of" 871 (.ref 488),en P "state_of" 877 (.ref 493),en P "row_of" 885 (.ref 500),en P "number_of" 892 (.ref 507),en P "WIDEST" 896 (.int 6 895),en P "graph_tells" 906 (.ref 514),en P "pairs_behind" 916 (.ref 521),en P "unlike_steps" 922 (.ref 526),en P "least_window" 932 (.ref 533),en P "SMALL_LETTERS" 936 (.str "abcdefghijklmnopqrstuvwxyz" 935),en P "LONGEST_NAME" 938 (.int 8 937),en P "LENGTHS" 947 (.ref 534),en P "NOTHING" 949 (.str "-" 948),en P "NONE" 951 (.str "none" 950),en P "Desk" 996 (.ref 565),en P "words_in" 1004 (.ref 576),en P "are_words" 1011 (.ref 583),en P "is_name" 1018 (.ref 590),en P "fits" 1026 (.ref 597),en P "is_signs" 1033 (.ref 604),en P "answer" 1041 (.ref 611),en P "number_text" 1048 (.ref 618),en P "numbers_text" 1054 (.ref 623),en P "answer_with" 1060 (.ref 628),en P "_law_cell" 1070 (.ref 635)] 100,#[]⟩),
 (12,⟨.none,none,.fields #[.int 2 0,.int 0 0,.ref 20,.int 4 0,.int 0 0,.ref 33,.int 6 0,.int 0 0,.ref 45,.int 8 0,.int 0 0,.ref 57,.int 13 0,.int 0 0,.ref 76,.int 15 0,.int 0 0,.ref 88,.int 17 0,.int 0 0,.ref 100,.int 19 0,.int 0 0,.ref 112,.int 21 0,.int 0 0,.ref 124,.int 24 0,.int 0 0,.ref 136,.int 26 0,.int 0 0,.ref 143,.int 28 0,.int 0 0,.ref 148,.int 30 0,.int 0 0,.ref 153,.int 32 0,.int 0 0,.ref 158,.int 37 0,.int 0 0,.ref 165,.int 49 0,.int 0 0,.ref 172,.int 51 0,.int 0 0,.ref 179,.int 53 0,.int 0 0,.ref 186,.int 55 0,.int 0 0,.ref 193,.int 61 0,.int 0 0,.ref 200,.int 68 0,.int 0 0,.ref 207,.int 75 0,.int 0 0,.ref 214,.int 82 0,.int 0 0,.ref 221,.int 84 0,.int 0 0,.ref 228,.int 92 0,.int 0 0,.ref 235,.int 100 0,.int 0 0,.ref 240,.int 111 0,.int 0 0,.ref 247,.int 113 0,.int 0 0,.ref 252,.int 117 0,.int 0 0,.ref 259,.int 121 0,.int 0 0,.ref 266,.int 123 0,.int 0 0,.ref 273,.int 132 0,.int 0 0,.ref 278,.int 140 0,.int 0 0,.ref 285,.int 145 0,.int 0 0,.ref 290,.int 153 0,.int 0 0,.ref 297,.int 157 0,.int 0 0,.ref 304,.int 164 0,.int 0 0,.ref 309,.int 175 0,.int 0 0,.ref 316,.int 180 0,.int 0 0,.ref 323,.int 188 0,.int 0 0,.ref 330,.int 197 0,.int 0 0,.ref 335,.int 202 0,.int 0 0,.ref 342,.int 210 0,.int 0 0,.ref 349,.int 212 0,.int 0 0,.ref 356,.int 219 0,.int 0 0,.ref 363,.int 223 0,.int 0 0,.ref 370,.int 227 0,.int 0 0,.ref 377,.int 234 0,.int 0 0,.ref 382,.int 247 0,.int 0 0,.ref 389,.int 254 0,.int 0 0,.ref 394,.int 260 0,.int 0 0,.ref 401,.int 264 0,.int 0 0,.ref 408,.int 273 0,.int 0 0,.ref 415,.int 281 0,.int 0 0,.ref 423,.int 285 0,.int 0 0,.ref 430,.int 292 0,.int 0 0,.ref 437,.int 298 0,.int 0 0,.ref 444,.int 304 0,.int 0 0,.ref 451,.int 313 0,.int 0 0,.ref 458,.int 322 0,.int 0 0,.ref 465,.int 335 0,.int 0 0,.ref 470,.int 337 0,.int 0 0,.ref 475,.int 342 0,.int 0 0,.ref 482,.int 349 0,.int 0 0,.ref 487,.int 352 0,.int 0 0,.ref 492,.int 354 0,.int 0 0,.ref 499,.int 357 0,.int 0 0,.ref 506,.int 361 0,.int 0 0,.ref 513,.int 365 0,.int 0 0,.ref 520,.int 369 0,.int 0 0,.ref 525,.int 374 0,.int 0 0,.ref 532,.int 387 0,.int 0 0,.ref 540,.int 406 0,.int 0 0,.ref 575,.int 415 0,.int 0 0,.ref 582,.int 421 0,.int 0 0,.ref 589,.int 423 0,.int 0 0,.ref 596,.int 429 0,.int 0 0,.ref 603,.int 431 0,.int 0 0,.ref 610,.int 441 0,.int 0 0,.ref 617,.int 443 0,.int 0 0,.ref 622,.int 445 0,.int 0 0,.ref 627,.int 456 0,.int 0 0,.ref 634],#[]⟩)]) 570 [tu [],
 ⟨.none,none,.fields #[],#[]⟩,
 tu [.str "row" 1000,.str "words" 1001],
 tu [],
 ⟨.none,none,.func ⟨"words_in","words_in",dA (tp 92),.stmts (dB (tp 92)),dS (tp 92),0,[],.none,.none,.none,.none,none,.none,.none,0⟩,#[]⟩,
 co "words_in" 997 "words_in" 998 999 406 1 570 571 (.ref 572) (.ref 573) 574 1002 1003,
 fu "words_in" "words_in" (tp 92) "ownbeat.desk" 933 575,
 tu [],
 ⟨.none,none,.fields #[],#[]⟩,
 tu [.str "words" 1008],
 tu [],
 ⟨.none,none,.func ⟨"are_words","are_words",dA (tp 93),.stmts (dB (tp 93)),dS (tp 93),0,[],.none,.none,.none,.none,none,.none,.none,0⟩,#[]⟩,
 co "are_words" 1005 "are_words" 1006 1007 415 1 577 578 (.ref 579) (.ref 580) 581 1009 1010,
 fu "are_words" "are_words" (tp 93) "ownbeat.desk" 933 582,
 tu [],
 ⟨.none,none,.fields #[],#[]⟩,
 tu [.str "word" 1015],
 tu [],
 ⟨.none,none,.func ⟨"is_name","is_name",dA (tp 94),.stmts (dB (tp 94)),dS (tp 94),0,[],.none,.none,.none,.none,none,.none,.none,0⟩,#[]⟩,
 co "is_name" 1012 "is_name" 1013 1014 421 1 584 585 (.ref 586) (.ref 587) 588 1016 1017,
 fu "is_name" "is_name" (tp 94) "ownbeat.desk" 933 589,
 tu [],
 ⟨.none,none,.fields #[],#[]⟩,
 tu [.str "verb" 1022,.str "word" 1023],
 tu [],
 ⟨.none,none,.func ⟨"fits","fits",dA (tp 95),.stmts (dB (tp 95)),dS (tp 95),0,[],.none,.none,.none,.none,none,.none,.none,0⟩,#[]⟩,
 co "fits" 1019 "fits" 1020 1021 423 2 591 592 (.ref 593) (.ref 594) 595 1024 1025,
 fu "fits" "fits" (tp 95) "ownbeat.desk" 933 596,
 tu [],
 ⟨.none,none,.fields #[],#[]⟩,
 tu [.str "word" 1030],
 tu [],
 ⟨.none,none,.func ⟨"is_signs","is_signs",dA (tp 96),.stmts (dB (tp 96)),dS (tp 96),0,[],.none,.none,.none,.none,none,.none,.none,0⟩,#[]⟩,
 co "is_signs" 1027 "is_signs" 1028 1029 429 1 598 599 (.ref 600) (.ref 601) 602 1031 1032,
 fu "is_signs" "is_signs" (tp 96) "ownbeat.desk" 933 603,
 tu [],
 ⟨.none,none,.fields #[],#[]⟩,
 tu [.str "code" 1037,.str "verb" 1038],
 tu [],
 ⟨.none,none,.func ⟨"answer","answer",dA (tp 97),.stmts (dB (tp 97)),dS (tp 97),0,[],.none,.none,.none,.none,none,.none,.none,0⟩,#[]⟩,
 co "answer" 1034 "answer" 1035 1036 431 2 605 606 (.ref 607) (.ref 608) 609 1039 1040,
 fu "answer" "answer" (tp 97) "ownbeat.desk" 933 610,
 tu [],
 ⟨.none,none,.fields #[],#[]⟩,
 tu [.str "number" 1045],
 tu [],
 ⟨.none,none,.func ⟨"number_text","number_text",dA (tp 98),.stmts (dB (tp 98)),dS (tp 98),0,[],.none,.none,.none,.none,none,.none,.none,0⟩,#[]⟩,
 co "number_text" 1042 "number_text" 1043 1044 441 1 612 613 (.ref 614) (.ref 615) 616 1046 1047,
 fu "number_text" "number_text" (tp 98) "ownbeat.desk" 933 617,
 tu [],
 ⟨.none,none,.fields #[],#[]⟩,
 ⟨.none,none,.func ⟨"numbers_text","numbers_text",dA (tp 99),.stmts (dB (tp 99)),dS (tp 99),0,[],.none,.none,.none,.none,none,.none,.none,0⟩,#[]⟩,
 co "numbers_text" 1049 "numbers_text" 1050 1051 443 1 619 620 (.none) (.none) 621 1052 1053,
 fu "numbers_text" "numbers_text" (tp 99) "ownbeat.desk" 933 622,
 tu [],
 ⟨.none,none,.fields #[],#[]⟩,
 ⟨.none,none,.func ⟨"answer_with","answer_with",dA (tp 100),.stmts (dB (tp 100)),dS (tp 100),0,[],.none,.none,.none,.none,none,.none,.none,0⟩,#[]⟩,
 co "answer_with" 1055 "answer_with" 1056 1057 445 3 624 625 (.none) (.none) 626 1058 1059,
 fu "answer_with" "answer_with" (tp 100) "ownbeat.desk" 933 627,
 tu [],
 ⟨.none,none,.fields #[],#[]⟩,
 tu [.str "script" 1066,.str "k" 1067],
 tu [],
 ⟨.none,none,.func ⟨"_law_cell","_law_cell",dA (tp 102),.stmts (dB (tp 102)),dS (tp 102),0,[],.none,.none,.none,.none,none,.none,.none,0⟩,#[]⟩,
 co "_law_cell" 1063 "_law_cell" 1064 1065 456 2 629 630 (.ref 631) (.ref 632) 633 1068 1069,
 fu "_law_cell" "_law_cell" (tp 102) "law_ownbeat_k66_names_on_desks" 1061 634]
def S20:List Stmt:=[tp 92,tp 93,tp 94,tp 95,tp 96,tp 97,tp 98,tp 99,tp 100,tp 101,tp 102]
theorem g20:∀ (w:World) (os:OsState),segRunT treeTable Pw w (nat_lit 11) an 1 (nat_lit 298) ⟨T20 w.params,nat_lit 570,lf,#[],⟨0,0,0,0⟩,nat_lit 997,os⟩ (piecesOf S20 ev cd ⟨387,0,405,33⟩ fr)=some (.next,⟨T21 w.params,nat_lit 636,lf,#[],⟨0,0,0,0⟩,nat_lit 1071,os⟩,cd,⟨456,0,459,33⟩):=by
 intro w os
 rw [Fast.te14364793385576792824]
 kernel_rfl
noncomputable def T22 (P:Params):BT:=insL (setL (T21 P) [(3,⟨.type "dict",none,.dict #[en P "__name__" 165 (.str "law_ownbeat_k66_names_on_desks" 1061),en P "__doc__" 166 (.none),en P "__package__" 167 (.none),en P "__loader__" 168 (.builtin "__main__.__loader__#opaque"),en P "__spec__" 169 (.none),en P "__annotations__" 170 (.ref 6),en P "__builtins__" 171 (.ref 4),en P "__file__" 173 (.str "/claim/cut.py" 172),en P "__cached__" 174 (.none),en P "BeatError" 206 (.ref 24),en P "NoLetter" 222 (.ref 37),en P "NoCode" 238 (.ref 49),en P "NoWire" 263 (.ref 68),en P "NoWindow" 279 (.ref 80),en P "NoMark" 295 (.ref 92),en P "NoText" 311 (.ref 104),en P "NoName" 327 (.ref 116),en P "NoRow" 343 (.ref 128),en P "is_whole" 352 (.ref 137),en P "is_letter" 360 (.ref 144),en P "is_letter_list" 366 (.ref 149),en P "words_of" 372 (.ref 154),en P "all_signs" 378 (.ref 159),en P "texts_from" 392 (.ref 166),en P "state_texts" 400 (.ref 173),en P "reached" 407 (.ref 180),en P "every_state" 414 (.ref 187),en P "pair_graph" 425 (.ref 194),en P "pair_steps" 439 (.ref 201),en P "layers_of" 449 (.ref 208),en P "layer_behind" 461 (.ref 215),en P "comes_back" 469 (.ref 222),en P "longest_walk" 480 (.ref 229),en P "first_return" 490 (.ref 236),en P "is_code" 498 (.ref 241),en P "is_within" 507 (.ref 248),en P "is_state" 513 (.ref 253),en P "is_row" 522 (.ref 260),en P "is_word" 530 (.ref 267),en P "sent" 542 (.ref 274),en P "letters" 548 (.ref 279),en P "letter_of" 557 (.ref 286),en P "bits_of" 563 (.ref 291),en P "lean" 572 (.ref 298),en P "leaning_loop" 582 (.ref 305),en P "farthest_lean" 588 (.ref 310),en P "farthest_ends" 599 (.ref 317),en P "ends_behind" 613 (.ref 324),en P "leans_in" 623 (.ref 331),en P "LONGEST" 627 (.int 8 626),en P "marks" 633 (.ref 336),en P "standing" 647 (.ref 343),en P "tails_behind" 658 (.ref 350),en P "tail_steps" 671 (.ref 357),en P "given_words" 681 (.ref 364),en P "late" 690 (.ref 371),en P "first_pairs" 701 (.ref 378),en P "read" 707 (.ref 383),en P "guesses_behind" 721 (.ref 390),en P "shared_count" 727 (.ref 395),en P "settles" 738 (.ref 402),en P "backward_graph" 750 (.ref 409),en P "unlike_pairs" 759 (.ref 416),en P "SIGNS" 764 (.ref 417),en P "still" 771 (.ref 424),en P "put_behind" 782 (.ref 431),en P "paper_keys" 792 (.ref 438),en P "greatest_peak" 804 (.ref 445),en P "runs_over" 818 (.ref 452),en P "greatest_runs" 828 (.ref 459),en P "standing_loop" 841 (.ref 466),en P "standing_steps" 847 (.ref 471),en P "loop_of" 853 (.ref 476),en P "FIGURES" 857 (.str "0123456789" 856),en P "read_code" 865 (.ref 483),en P "code_of" 871 (.ref 488),en P "state_of" 877 (.ref 493),en P "row_of" 885 (.ref 500),en P "number_of" 892 (.ref 507),en P "WIDEST" 896 (.int 6 895),en P "graph_tells" 906 (.ref 514),en P "pairs_behind" 916 (.ref 521),en P "unlike_steps" 922 (.ref 526),en P "least_window" 932 (.ref 533),en P "SMALL_LETTERS" 936 (.str "abcdefghijklmnopqrstuvwxyz" 935),en P "LONGEST_NAME" 938 (.int 8 937),en P "LENGTHS" 947 (.ref 534),en P "NOTHING" 949 (.str "-" 948),en P "NONE" 951 (.str "none" 950),en P "Desk" 996 (.ref 565),en P "words_in" 1004 (.ref 576),en P "are_words" 1011 (.ref 583),en P "is_name" 1018 (.ref 590),en P "fits" 1026 (.ref 597),en P "is_signs" 1033 (.ref 604),en P "answer" 1041 (.ref 611),en P "number_text" 1048 (.ref 618),en P "numbers_text" 1054 (.ref 623),en P "answer_with" 1060 (.ref 628),en P "_law_cell" 1070 (.ref 635),en P "_law_store" 1078 (.ref 642),en P "_law_take" 1088 (.ref 649),en P "_law_refused" 1098 (.ref 656),en P "_law_class" 1106 (.ref 663),en P "_law_name_drawn" 1112 (.ref 668),en P "_law_gone" 1122 (.ref 675),en P "law" 1141 (.ref 682)] 107,#[]⟩),
 (12,⟨.none,none,.fields #[.int 2 0,.int 0 0,.ref 20,.int 4 0,.int 0 0,.ref 33,.int 6 0,.int 0 0,.ref 45,.int 8 0,.int 0 0,.ref 57,.int 13 0,.int 0 0,.ref 76,.int 15 0,.int 0 0,.ref 88,.int 17 0,.int 0 0,.ref 100,.int 19 0,.int 0 0,.ref 112,.int 21 0,.int 0 0,.ref 124,.int 24 0,.int 0 0,.ref 136,.int 26 0,.int 0 0,.ref 143,.int 28 0,.int 0 0,.ref 148,.int 30 0,.int 0 0,.ref 153,.int 32 0,.int 0 0,.ref 158,.int 37 0,.int 0 0,.ref 165,.int 49 0,.int 0 0,.ref 172,.int 51 0,.int 0 0,.ref 179,.int 53 0,.int 0 0,.ref 186,.int 55 0,.int 0 0,.ref 193,.int 61 0,.int 0 0,.ref 200,.int 68 0,.int 0 0,.ref 207,.int 75 0,.int 0 0,.ref 214,.int 82 0,.int 0 0,.ref 221,.int 84 0,.int 0 0,.ref 228,.int 92 0,.int 0 0,.ref 235,.int 100 0,.int 0 0,.ref 240,.int 111 0,.int 0 0,.ref 247,.int 113 0,.int 0 0,.ref 252,.int 117 0,.int 0 0,.ref 259,.int 121 0,.int 0 0,.ref 266,.int 123 0,.int 0 0,.ref 273,.int 132 0,.int 0 0,.ref 278,.int 140 0,.int 0 0,.ref 285,.int 145 0,.int 0 0,.ref 290,.int 153 0,.int 0 0,.ref 297,.int 157 0,.int 0 0,.ref 304,.int 164 0,.int 0 0,.ref 309,.int 175 0,.int 0 0,.ref 316,.int 180 0,.int 0 0,.ref 323,.int 188 0,.int 0 0,.ref 330,.int 197 0,.int 0 0,.ref 335,.int 202 0,.int 0 0,.ref 342,.int 210 0,.int 0 0,.ref 349,.int 212 0,.int 0 0,.ref 356,.int 219 0,.int 0 0,.ref 363,.int 223 0,.int 0 0,.ref 370,.int 227 0,.int 0 0,.ref 377,.int 234 0,.int 0 0,.ref 382,.int 247 0,.int 0 0,.ref 389,.int 254 0,.int 0 0,.ref 394,.int 260 0,.int 0 0,.ref 401,.int 264 0,.int 0 0,.ref 408,.int 273 0,.int 0 0,.ref 415,.int 281 0,.int 0 0,.ref 423,.int 285 0,.int 0 0,.ref 430,.int 292 0,.int 0 0,.ref 437,.int 298 0,.int 0 0,.ref 444,.int 304 0,.int 0 0,.ref 451,.int 313 0,.int 0 0,.ref 458,.int 322 0,.int 0 0,.ref 465,.int 335 0,.int 0 0,.ref 470,.int 337 0,.int 0 0,.ref 475,.int 342 0,.int 0 0,.ref 482,.int 349 0,.int 0 0,.ref 487,.int 352 0,.int 0 0,.ref 492,.int 354 0,.int 0 0,.ref 499,.int 357 0,.int 0 0,.ref 506,.int 361 0,.int 0 0,.ref 513,.int 365 0,.int 0 0,.ref 520,.int 369 0,.int 0 0,.ref 525,.int 374 0,.int 0 0,.ref 532,.int 387 0,.int 0 0,.ref 540,.int 406 0,.int 0 0,.ref 575,.int 415 0,.int 0 0,.ref 582,.int 421 0,.int 0 0,.ref 589,.int 423 0,.int 0 0,.ref 596,.int 429 0,.int 0 0,.ref 603,.int 431 0,.int 0 0,.ref 610,.int 441 0,.int 0 0,.ref 617,.int 443 0,.int 0 0,.ref 622,.int 445 0,.int 0 0,.ref 627,.int 456 0,.int 0 0,.ref 634,.int 460 0,.int 0 0,.ref 641,.int 465 0,.int 0 0,.ref 648,.int 475 0,.int 0 0,.ref 655,.int 482 0,.int 0 0,.ref 662,.int 501 0,.int 0 0,.ref 667,.int 506 0,.int 0 0,.ref 674,.int 510 0,.int 0 0,.ref 681],#[]⟩)]) 636 [tu [],
 ⟨.none,none,.fields #[],#[]⟩,
 tu [.str "cell" 1074,.str "great" 1075],
 tu [],
 ⟨.none,none,.func ⟨"_law_store","_law_store",dA (tp 103),.stmts (dB (tp 103)),dS (tp 103),0,[],.none,.none,.none,.none,none,.none,.none,0⟩,#[]⟩,
 co "_law_store" 1071 "_law_store" 1072 1073 460 1 636 637 (.ref 638) (.ref 639) 640 1076 1077,
 fu "_law_store" "_law_store" (tp 103) "law_ownbeat_k66_names_on_desks" 1061 641,
 tu [],
 ⟨.none,none,.fields #[],#[]⟩,
 tu [.str "store" 1082,.str "many" 1083,.str "told" 1084,.str "one" 1085],
 tu [],
 ⟨.none,none,.func ⟨"_law_take","_law_take",dA (tp 104),.stmts (dB (tp 104)),dS (tp 104),0,[],.none,.none,.none,.none,none,.none,.none,0⟩,#[]⟩,
 co "_law_take" 1079 "_law_take" 1080 1081 465 2 643 644 (.ref 645) (.ref 646) 647 1086 1087,
 fu "_law_take" "_law_take" (tp 104) "law_ownbeat_k66_names_on_desks" 1061 648,
 tu [],
 ⟨.none,none,.fields #[],#[]⟩,
 tu [.str "desk" 1092,.str "row" 1093,.str "word" 1094,.str "e" 1095],
 tu [],
 ⟨.none,none,.func ⟨"_law_refused","_law_refused",dA (tp 105),.stmts (dB (tp 105)),dS (tp 105),0,[],.none,.none,.none,.none,none,.none,.none,0⟩,#[]⟩,
 co "_law_refused" 1089 "_law_refused" 1090 1091 475 2 650 651 (.ref 652) (.ref 653) 654 1096 1097,
 fu "_law_refused" "_law_refused" (tp 105) "law_ownbeat_k66_names_on_desks" 1061 655,
 tu [],
 ⟨.none,none,.fields #[],#[]⟩,
 tu [.str "e" 1102,.str "word" 1103],
 tu [],
 ⟨.none,none,.func ⟨"_law_class","_law_class",dA (tp 106),.stmts (dB (tp 106)),dS (tp 106),0,[],.none,.none,.none,.none,none,.none,.none,0⟩,#[]⟩,
 co "_law_class" 1099 "_law_class" 1100 1101 482 1 657 658 (.ref 659) (.ref 660) 661 1104 1105,
 fu "_law_class" "_law_class" (tp 106) "law_ownbeat_k66_names_on_desks" 1061 662,
 tu [],
 ⟨.none,none,.fields #[],#[]⟩,
 ⟨.none,none,.func ⟨"_law_name_drawn","_law_name_drawn",dA (tp 107),.stmts (dB (tp 107)),dS (tp 107),0,[],.none,.none,.none,.none,none,.none,.none,0⟩,#[]⟩,
 co "_law_name_drawn" 1107 "_law_name_drawn" 1108 1109 501 1 664 665 (.none) (.none) 666 1110 1111,
 fu "_law_name_drawn" "_law_name_drawn" (tp 107) "law_ownbeat_k66_names_on_desks" 1061 667,
 tu [],
 ⟨.none,none,.fields #[],#[]⟩,
 tu [.str "store" 1116,.str "desk" 1117,.str "name" 1118,.str "row" 1119],
 tu [],
 ⟨.none,none,.func ⟨"_law_gone","_law_gone",dA (tp 108),.stmts (dB (tp 108)),dS (tp 108),0,[],.none,.none,.none,.none,none,.none,.none,0⟩,#[]⟩,
 co "_law_gone" 1113 "_law_gone" 1114 1115 506 3 669 670 (.ref 671) (.ref 672) 673 1120 1121,
 fu "_law_gone" "_law_gone" (tp 108) "law_ownbeat_k66_names_on_desks" 1061 674,
 tu [],
 ⟨.none,none,.fields #[],#[]⟩,
 tu [.str "script" 1126,.str "desks" 1127,.str "wires" 1128,.str "at" 1129,.str "store" 1130,.str "which" 1131,.str "name" 1132,.str "desk" 1133,.str "kind" 1134,.str "text" 1135,.str "wire" 1136,.str "one" 1137,.str "other" 1138],
 tu [],
 ⟨.none,none,.func ⟨"law","law",dA (tp 109),.stmts (dB (tp 109)),dS (tp 109),0,[],.none,.none,.none,.none,none,.none,.none,0⟩,#[]⟩,
 co "law" 1123 "law" 1124 1125 510 1 676 677 (.ref 678) (.ref 679) 680 1139 1140,
 fu "law" "law" (tp 109) "law_ownbeat_k66_names_on_desks" 1061 681]
def S21:List Stmt:=[tp 103,tp 104,tp 105,tp 106,tp 107,tp 108,tp 109]
theorem g21:∀ (w:World) (os:OsState),segRunT treeTable Pw w (nat_lit 11) an 1 (nat_lit 224) ⟨T21 w.params,nat_lit 636,lf,#[],⟨0,0,0,0⟩,nat_lit 1071,os⟩ (piecesOf S21 ev cd ⟨456,0,459,33⟩ fr)=some (.next,⟨T22 w.params,nat_lit 683,lf,#[],⟨0,0,0,0⟩,nat_lit 1142,os⟩,cd,⟨510,0,533,15⟩):=by
 intro w os
 rw [Fast.te14364793385576792824]
 kernel_rfl
noncomputable def T23 (P:Params):BT:=insL (setL (T22 P) []) 683 []
noncomputable def Hf (P:Params):Heap:=absHeap (T23 P) (nat_lit 683) lf
theorem fin:∀ (w:World) (os:OsState),topRun treeTable Pw w (nat_lit 11) an (nat_lit 2) (SharedT.abs ⟨T22 w.params,nat_lit 683,lf,#[],⟨0,0,0,0⟩,nat_lit 1142,os⟩) ⟨doneF .next,cd,⟨510,0,533,15⟩,fr⟩=some ⟨Hf w.params,#[],⟨0,0,0,0⟩,nat_lit 1142,os⟩:=by
 intro w os
 rw [Fast.te14364793385576792824]
 kernel_rfl
theorem run:∀ (w:World) (os:OsState),topRun treeTable Pw w (nat_lit 11) an (Nat.add (nat_lit 12) (Nat.add (nat_lit 1) (Nat.add (nat_lit 196) (Nat.add (nat_lit 214) (Nat.add (nat_lit 214) (Nat.add (nat_lit 246) (Nat.add (nat_lit 214) (Nat.add (nat_lit 214) (Nat.add (nat_lit 214) (Nat.add (nat_lit 214) (Nat.add (nat_lit 282) (Nat.add (nat_lit 272) (Nat.add (nat_lit 285) (Nat.add (nat_lit 277) (Nat.add (nat_lit 287) (Nat.add (nat_lit 277) (Nat.add (nat_lit 273) (Nat.add (nat_lit 300) (Nat.add (nat_lit 46) (Nat.add (nat_lit 287) (Nat.add (nat_lit 298) (Nat.add (nat_lit 224) (nat_lit 2))))))))))))))))))))))) ⟨boot_heap w.params,#[],boot_drawn,boot_toks,os⟩ (topStub Pw)=some ⟨Hf w.params,#[],⟨0,0,0,0⟩,nat_lit 1142,os⟩:=fun w os=>(go_top (pre w os) (piece_block (blk w os) (piece_app (l:=S2) (segRun_of (g2 w os)) (piece_app (l:=S3) (segRun_of (g3 w os)) (piece_app (l:=S4) (segRun_of (g4 w os)) (piece_app (l:=S5) (segRun_of (g5 w os)) (piece_app (l:=S6) (segRun_of (g6 w os)) (piece_app (l:=S7) (segRun_of (g7 w os)) (piece_app (l:=S8) (segRun_of (g8 w os)) (piece_app (l:=S9) (segRun_of (g9 w os)) (piece_app (l:=S10) (segRun_of (g10 w os)) (piece_app (l:=S11) (segRun_of (g11 w os)) (piece_app (l:=S12) (segRun_of (g12 w os)) (piece_app (l:=S13) (segRun_of (g13 w os)) (piece_app (l:=S14) (segRun_of (g14 w os)) (piece_app (l:=S15) (segRun_of (g15 w os)) (piece_app (l:=S16) (segRun_of (g16 w os)) (piece_app (l:=S17) (segRun_of (g17 w os)) (piece_app (l:=S18) (segRun_of (g18 w os)) (piece_app (l:=S19) (segRun_of (g19 w os)) (piece_app (l:=S20) (segRun_of (g20 w os)) (piece_app (l:=S21) (segRun_of (g21 w os)) (piece_nil (fin w os))))))))))))))))))))))))
theorem lk1:∀ (w:World) (os:OsState),(openSeen V [] (importedModules Pw.main.body) (fun s=>xlAt V [] s && recOk (RowW.records (OpenRow.toRowW Rw.row)) s) true ⟨Hf w.params,#[],⟨0,0,0,0⟩,nat_lit 1142,os⟩).1=PyProof.Rows.expectedOf V:=by
 intro w os
 rw [Fast.te4187177175401517315,Fast.te5923862056798008813]
 kernel_rfl
theorem lk2:∀ (w:World) (os:OsState),(openSeen V [] (importedModules Pw.main.body) (fun s=>xlAt V [] s && recOk (RowW.records (OpenRow.toRowW Rw.row)) s) true ⟨Hf w.params,#[],⟨0,0,0,0⟩,nat_lit 1142,os⟩).2.1=bltViewBooted:=by
 intro w os
 rw [Fast.te4187177175401517315,Fast.te5923862056798008813]
 kernel_rfl
theorem lk3:∀ (w:World) (os:OsState),(openSeen V [] (importedModules Pw.main.body) (fun s=>xlAt V [] s && recOk (RowW.records (OpenRow.toRowW Rw.row)) s) true ⟨Hf w.params,#[],⟨0,0,0,0⟩,nat_lit 1142,os⟩).2.2.1=true:=by
 intro w os
 rw [Fast.te4187177175401517315,Fast.te5923862056798008813]
 kernel_rfl
theorem lk4:∀ (w:World) (os:OsState),(openSeen V [] (importedModules Pw.main.body) (fun s=>xlAt V [] s && recOk (RowW.records (OpenRow.toRowW Rw.row)) s) true ⟨Hf w.params,#[],⟨0,0,0,0⟩,nat_lit 1142,os⟩).2.2.2=(true,pinGoodD (PyProof.Rows.drecsOf V),PyProof.Rows.plainGoodE V (looseW V []),PyProof.Rows.plainGoodD V [],wideGood V,clsGoodW V []):=by
 intro w os
 rw [Fast.te4187177175401517315,Fast.te5923862056798008813]
 kernel_rfl
theorem lk0:∀ (w:World) (os:OsState),(staticsOk (importedModules Pw.main.body) (boot_heap w.params) (Hf w.params) && namesBound Pw (Hf w.params) && gensDone ⟨Hf w.params,#[],⟨0,0,0,0⟩,nat_lit 1142,os⟩ && laidKept (boot_heap w.params) (Hf w.params))=true:=by
 intro w os
 rw [Fast.te5923862056798008813]
 kernel_rfl
theorem lkb:∀ (w:World) (os:OsState),Hook.obs hk ⟨Hf w.params,#[],⟨0,0,0,0⟩,nat_lit 1142,os⟩=Hook.val hk w:=by
 intro w os
 kernel_rfl
theorem HL:LeftO (Rw.row).prog V [] (fun s=>xlAt V [] s && recOk (RowW.records (OpenRow.toRowW Rw.row)) s) (Hook.obs hk) (Hook.val hk) 9754:=LeftO.of_pieces (p:=Pw) (H₀:=boot_heap) (H₁:=Hf) (boot_open (p:=Pw) (by kernel_rfl) (by decide) (fun _=>rfl)) (by intro w;kernel_rfl) run (by decide) (fun w=>funext fun os=>Prod.ext (lk0 w os) (Prod.ext (Prod.ext (lk1 w os) (Prod.ext (lk2 w os) (Prod.ext (lk3 w os) (lk4 w os)))) (lkb w os)))
end KH
noncomputable def PySem.W.Fast.tw10093243667501437642:PySem.Program:=PySem.Challenge.pw_ownbeat_k66_names_on_desks
theorem PySem.W.Fast.te10093243667501437642:PySem.Challenge.pw_ownbeat_k66_names_on_desks=PySem.W.Fast.tw10093243667501437642:=rfl
noncomputable def PySem.W.Fast.tw13050856078952940360:PySem.W.OpenLaw:=PySem.Challenge.rw_ownbeat_k66_names_on_desks
theorem PySem.W.Fast.te13050856078952940360:PySem.Challenge.rw_ownbeat_k66_names_on_desks=PySem.W.Fast.tw13050856078952940360:=rfl
noncomputable def PySem.W.Fast.tw5761066807429076752:PySem.Program:=KH.V
theorem PySem.W.Fast.te5761066807429076752:KH.V=PySem.W.Fast.tw5761066807429076752:=rfl
noncomputable def PySem.W.Fast.tw13718576055750932966:PySem.Params->PySem.W.Frag:=KH.K
theorem PySem.W.Fast.te13718576055750932966:KH.K=PySem.W.Fast.tw13718576055750932966:=rfl
noncomputable def PySem.W.Fast.tw770474345414848920:PySem.Program:=KH.Pw
theorem PySem.W.Fast.te770474345414848920:KH.Pw=PySem.W.Fast.tw770474345414848920:=rfl
noncomputable def PySem.W.Fast.tw14237125333626191895:PySem.W.OpenLaw:=KH.Rw
theorem PySem.W.Fast.te14237125333626191895:KH.Rw=PySem.W.Fast.tw14237125333626191895:=rfl
end
set_option compiler.extract_closed false
namespace L2
open PySem PySem.Spec PyProof.Rows
abbrev Key:=Sum Int Str
def keyIs:Key->Value->Bool
 | .inl k,v=>Value.isInt k v
 | .inr x,v=>Value.isStrOf x v
def keyH (w:World):Key->Int
 | .inl k=>hashInt k
 | .inr x=>hashStr w x
theorem keyIs_shape:∀ {k:Key} {v:Value},keyIs k v=true->(∃ i t,k=Sum.inl i/\v=Value.int i t)\/(∃ x t,k=Sum.inr x/\v=Value.str x t)
 | .inl i,v,h=>by
  obtain ⟨t,e⟩:=Value.isInt_shape (k:=i) (v:=v) h
  exact .inl ⟨i,t,rfl,e⟩
 | .inr x,v,h=>by
  obtain ⟨t,e⟩:=Value.isStrOf_shape (x:=x) (v:=v) h
  exact .inr ⟨x,t,rfl,e⟩
theorem keyIs_int (i:Int) (t:Tok):keyIs (.inl i) (.int i t)=true:=by simp [keyIs,Value.isInt]
theorem keyIs_str (x:Str) (t:Tok):keyIs (.inr x) (.str x t)=true:=by simp [keyIs,Value.isStrOf]
theorem key_ll (a b:Int):decide ((Sum.inl a:Key)=Sum.inl b)=(a == b):=by
 by_cases e:a=b
 ·subst e;simp
 ·have h:¬ (Sum.inl a:Key)=Sum.inl b:=fun q=>e (Sum.inl.inj q)
  rw [decide_eq_false h]
  exact (beq_eq_false_iff_ne.mpr e).symm
theorem key_rr (a b:Str):decide ((Sum.inr a:Key)=Sum.inr b)=decide (a=b):=by
 by_cases e:a=b
 ·subst e;simp
 ·have h:¬ (Sum.inr a:Key)=Sum.inr b:=fun q=>e (Sum.inr.inj q)
  rw [decide_eq_false h,decide_eq_false e]
theorem key_lr (a:Int) (b:Str):decide ((Sum.inl a:Key)=Sum.inr b)=false:=decide_eq_false (fun q=>nomatch q)
theorem key_rl (a:Str) (b:Int):decide ((Sum.inr a:Key)=Sum.inl b)=false:=decide_eq_false (fun q=>nomatch q)
def mixKind (prog:Program) (w:World):PySem.KeyKind prog w Key where
 is:=keyIs
 hash:=keyH w
 inj:=fun v a b ha hb=>by
  rcases keyIs_shape ha with ⟨i,t,rfl,rfl⟩ | ⟨x,t,rfl,rfl⟩
  ·rcases keyIs_shape hb with ⟨j,u,rfl,e⟩ | ⟨y,u,rfl,e⟩
   ·injection e with e1 _;rw [e1]
   ·exact nomatch e
  ·rcases keyIs_shape hb with ⟨j,u,rfl,e⟩ | ⟨y,u,rfl,e⟩
   ·exact nomatch e
   ·injection e with e1 _;rw [e1]
 byValue:=fun k v h=>by
  rcases keyIs_shape h with ⟨i,t,rfl,rfl⟩ | ⟨x,t,rfl,rfl⟩<;>rfl
 pyHash:=fun hv h=>by
  rcases keyIs_shape hv with ⟨i,t,rfl,rfl⟩ | ⟨x,t,rfl,rfl⟩
  ·exact wpAny_pyHash_int h
  ·exact wpAny_pyHash_str h
 eqBool:=fun hu hv h=>by
  rcases keyIs_shape hu with ⟨i,t,rfl,rfl⟩ | ⟨x,t,rfl,rfl⟩
  ·rcases keyIs_shape hv with ⟨j,u,rfl,rfl⟩ | ⟨y,u,rfl,rfl⟩
   ·rw [key_ll] at h;exact wpAny_eqBool_int h
   ·rw [key_lr] at h;exact SeqAt.EqAt.int_str i t y u _ _ _ _ h
  ·rcases keyIs_shape hv with ⟨j,u,rfl,rfl⟩ | ⟨y,u,rfl,rfl⟩
   ·rw [key_rl] at h;exact SeqAt.EqAt.str_int x t j u _ _ _ _ h
   ·rw [key_rr] at h;exact wpAny_eqBool_str h
 «strs» := fun k x t v h=>by
  rcases keyIs_shape h with ⟨i,u,rfl,e⟩ | ⟨y,u,rfl,e⟩
  ·exact nomatch e
  ·injection e with e1 _
   subst e1
   cases v<;>rfl
theorem mixKind_int (prog:Program) (w:World) (i:Int) (t:Tok):(mixKind prog w).is (.inl i) (.int i t)=true:=keyIs_int i t
theorem mixKind_str (prog:Program) (w:World) (x:Str) (t:Tok):(mixKind prog w).is (.inr x) (.str x t)=true:=keyIs_str x t
end L2
namespace L2
open PySem PySem.Spec PyProof.Rows
inductive V where
 | non | bl (b:Bool) | int (i:Int) | str (x:Str) | byt (b:Array UInt8) | flt (b:UInt64) | ref (a:Addr) | ty (n:String)
 deriving DecidableEq
def RelV:V->Value->Prop
 | .non,u=>u=Value.none
 | .bl b,u=>u=Value.bool b
 | .int i,u=>∃ t,u=Value.int i t
 | .str x,u=>∃ t,u=Value.str x t
 | .byt b,u=>∃ t,u=Value.bytes b t
 | .flt b,u=>∃ t,u=Value.float b t
 | .ref a,u=>u=Value.ref a
 | .ty n,u=>u=Value.type n
abbrev Vals:List V->List Value->Prop:=Paired RelV
theorem Vals.length {xs:List V} {us:List Value} (r:Vals xs us):xs.length=us.length:=Paired.length r
theorem Vals.get:∀ {xs:List V} {us:List Value} {i:Nat} {x:V},Vals xs us->xs[i]? = some x->∃ u,us[i]? = some u/\RelV x u
 | _,_,_,_,.nil,e=>by simp at e
 | _,_,0,_,.cons r _,e=>by simp at e;subst e;exact ⟨_,rfl,r⟩
 | _,_,i+1,x,.cons _ t,e=>by
  obtain ⟨u,h1,h2⟩:=Vals.get (i:=i) (x:=x) t (by simpa using e)
  exact ⟨u,by simpa using h1,h2⟩
theorem Vals.set {x:V} {u:Value} (r:RelV x u):∀ {xs:List V} {us:List Value} (i:Nat),Vals xs us->Vals (xs.set i x) (us.set i u)
 | _,_,_,.nil=>.nil
 | _,_,0,.cons _ t=>.cons r t
 | _,_,i+1,.cons q t=>.cons q (Vals.set r i t)
theorem Vals.append:∀ {xs ys:List V} {us ws:List Value},Vals xs us->Vals ys ws->Vals (xs++ys) (us++ws)
 | _,_,_,_,.nil,s=>s
 | _,_,_,_,.cons r t,s=>.cons r (Vals.append t s)
theorem Vals.take:∀ {xs:List V} {us:List Value} (n:Nat),Vals xs us->Vals (xs.take n) (us.take n)
 | _,_,0,_=>.nil
 | _,_,_+1,.nil=>.nil
 | _,_,n+1,.cons r t=>.cons r (Vals.take n t)
theorem Vals.drop:∀ {xs:List V} {us:List Value} (n:Nat),Vals xs us->Vals (xs.drop n) (us.drop n)
 | _,_,0,r=>r
 | _,_,_+1,.nil=>.nil
 | _,_,n+1,.cons _ t=>Vals.drop n t
theorem Vals.none_of:∀ {xs:List V} {us:List Value} {i:Nat},Vals xs us->xs[i]? = none->us[i]? = none:=fun {xs us i} r e=>by
 have h1:=r.length
 have h2:xs.length<=i:=List.getElem?_eq_none_iff.mp e
 exact List.getElem?_eq_none_iff.mpr (by omega)
def RelO:Option V->Option Value->Prop
 | some v,some u=>RelV v u
 | none,none=>True
 | _,_=>False
def KV {κ:Type}:List (κ×V)->List (κ×Value)->Prop:=Paired fun (p:κ×V) (q:κ×Value)=>p.1=q.1/\RelV p.2 q.2
def kV:Key->V
 | .inl i=>.int i
 | .inr x=>.str x
inductive HO where
  | lst (xs:List V)
  | tup (xs:List V)
  | dK (kvs:List (Key×V)) | dT (kvs:List (List Key×V))
  | set (S:Int->Bool) (n:Nat)
  | ins (C dx:Addr) (fs:List (Str×V))
  | own (x:Addr)
  | xd (fs:List (Str×V))
  | met (f x:Addr)
  | rng (lo hi:Int)
  | frz (o:Obj) (u:HO)
  | tbl (ps:Array Value)
  | ext (φ:Heap->Prop)
abbrev Hp:=Addr->Option HO
def upd (H:Hp) (a:Addr) (o:HO):Hp:=fun b=>if b=a then some o else H b
theorem upd_same {H:Hp} {a:Addr} {o:HO}:upd H a o a=some o:=by unfold upd;rw [if_pos rfl]
theorem upd_ne {H:Hp} {a b:Addr} {o:HO} (h:b≠a):upd H a o b=H b:=by unfold upd;rw [if_neg h]
theorem upd_upd {H:Hp} {a:Addr} {o u:HO}:upd (upd H a o) a u=upd H a u:=by
 funext b;unfold upd;split<;>rfl
theorem ne_of {H:Hp} {a b:Addr} {o u:HO} (h:H a=some o) (h':H b=some u) (d:o≠u):a≠b:=by
 intro e;subst e;rw [h] at h';exact d (Option.some.inj h')
theorem ne_of_none {H:Hp} {a b:Addr} {o:HO} (h:H a=some o) (h':H b=none):a≠b:=by
 intro e;subst e;rw [h] at h';cases h'
section
variable (P:Program) (w:World)
def ObjOk (H:Hp) (h:Heap) (a:Addr):HO->Prop
 | .lst xs=>xs.length<=sizeLine/\∃ (its:List Value) (n:Nat),Vals xs its/\h.get? a=some { cls:=.type "list",data:=.seq its.toArray n }
 | .tup xs=>xs.length<=sizeLine/\∃ its:List Value,Vals xs its/\IsTup h a its.toArray
 | .dK kvs=>kvs.length<=sizeLine/\(a == sysModules)=false/\∃ vs,KV kvs vs/\h.DictOf (mixKind P w) a vs
 | .dT kvs=>kvs.length<=sizeLine/\(a == sysModules)=false/\∃ xs:List (List Key×Addr×Value),
   Paired (fun (p:List Key×V) (q:List Key×Addr×Value)=>p.1=q.1/\H q.2.1=some (.tup (p.1.map kV))/\RelV p.2 q.2.2) kvs xs ∧
   ∃ o es ep,h.get? a=some o/\o.ExactDict/\o.data = .dict es ep/\es.toList=xs.map (entryOfKey (tupleKind (mixKind P w)))/\(xs.map (·.1)).Nodup
 | .set S n=>h.SetOf (intKind P w) a S n
 | .ins C dx fs=>H dx=some (.own a)/\fs.length<=1000/\dx≠a/\h.get? a=some (PySem.W.instObj C dx) ∧
   ∃ mA,h.Ns1 dx mA/\(∀ f,RelO (fs.lookup f) (mA f))/\PySem.Within mA (fs.map (·.1))
 | .own _=>∃ o,h.get? a=some o
 | .xd fs=>∃ mA,h.Ns1 a mA/\∀ f,RelO (fs.lookup f) (mA f)
 | .rng lo hi=>∃ t u v,h.get? a=some { cls:=.type "range",data:=.fields #[.int lo t,.int hi u,.int 1 v] }
 | .frz o u=>h.get? a=some o/\ObjOk H h a u
 | .tbl ps=>h.get? a=some { cls:=.none,data:=.fields ps }
 | .met f x=>h.get? a=some (PySem.W.methodObj (.ref f) (.ref x))
 | .ext φ=>φ h/\(∃ o,h.get? a=some o)/\∀ h1 h2:Heap,φ h1->(∀ o,h1.get? a=some o->h2.get? a=some o)->φ h2
def HOk (H:Hp) (h:Heap):Prop:=∀ a o,H a=some o->ObjOk P w H h a o
end
section
variable {P:Program} {w:World} {H H':Hp} {h h':Heap} {a:Addr} {o:HO}
theorem ObjOk.lt (x:ObjOk P w H h a o):a < h.objs.size:=by
 cases o with
 | lst xs=>obtain ⟨_,_,_,_,e⟩:=x;exact Heap.lt_size e
 | tup xs=>obtain ⟨_,_,_,p⟩:=x;exact p.lt
 | dK kvs=>obtain ⟨_,_,_,_,o,_,_,e,_⟩:=x;exact Heap.lt_size e
 | dT kvs=>obtain ⟨_,_,_,_,o,_,_,e,_⟩:=x;exact Heap.lt_size e
 | set S n=>obtain ⟨o,_,_,_,e,_⟩:=x;exact Heap.lt_size e
 | ins C dx fs=>obtain ⟨_,_,_,e,_⟩:=x;exact Heap.lt_size e
 | own y=>obtain ⟨_,e⟩:=x;exact Heap.lt_size e
 | xd fs=>obtain ⟨_,⟨_,_,_,e,_⟩,_⟩:=x;exact Heap.lt_size e
 | rng lo hi=>obtain ⟨_,_,_,e⟩:=x;exact Heap.lt_size e
 | frz ob u=>obtain ⟨e,_⟩:=x;exact Heap.lt_size e
 | tbl ps=>exact Heap.lt_size (show h.get? a=some _ from x)
 | met f y=>exact Heap.lt_size (show h.get? a=some _ from x)
 | ext φ=>obtain ⟨_,⟨_,e⟩,_⟩:=x;exact Heap.lt_size e
theorem Paired.mapP {α β:Type} {F G:α->β->Prop}:∀ {l₁:List α} {l₂:List β},Paired F l₁ l₂->(∀ a b,F a b->G a b)->Paired G l₁ l₂
 | _,_,.nil,_=>.nil
 | _,_,.cons r t,f=>.cons (f _ _ r) (Paired.mapP t f)
theorem ObjOk.stay (x:ObjOk P w H h a o) (k:∀ b u,(b=a\/H b=some (.own a))->h.get? b=some u->h'.get? b=some u)
  (ho:∀ b,H b=some (.own a)->H' b=some (.own a)) (ht:∀ b xs,H b=some (.tup xs)->H' b=some (.tup xs)):ObjOk P w H' h' a o:=by
 induction o with
 | lst xs=>obtain ⟨z,its,n,r,e⟩:=x;exact ⟨z,its,n,r,k _ _ (.inl rfl) e⟩
 | tup xs=>obtain ⟨z,its,r,ob,e,c⟩:=x;exact ⟨z,its,r,ob,k _ _ (.inl rfl) e,c⟩
 | dK kvs=>obtain ⟨z,y,vs,r,ob,es,ep,e,c⟩:=x;exact ⟨z,y,vs,r,ob,es,ep,k _ _ (.inl rfl) e,c⟩
 | dT kvs=>
  obtain ⟨z,y,xs,r,ob,es,ep,e,c⟩:=x
  exact ⟨z,y,xs,Paired.mapP r fun p q z=>⟨z.1,ht _ _ z.2.1,z.2.2⟩,ob,es,ep,k _ _ (.inl rfl) e,c⟩
 | set S n=>obtain ⟨ob,es,ep,t,e,c⟩:=x;exact ⟨ob,es,ep,t,k _ _ (.inl rfl) e,c⟩
 | ins C dx fs=>
  obtain ⟨d,z,ne,e,mA,⟨od,es,ep,e2,c⟩,r⟩:=x
  exact ⟨ho _ d,z,ne,k _ _ (.inl rfl) e,mA,⟨od,es,ep,k _ _ (.inr d) e2,c⟩,r⟩
 | own y=>obtain ⟨ob,e⟩:=x;exact ⟨ob,k _ _ (.inl rfl) e⟩
 | xd fs=>obtain ⟨mA,⟨od,es,ep,e,c⟩,r⟩:=x;exact ⟨mA,⟨od,es,ep,k _ _ (.inl rfl) e,c⟩,r⟩
 | rng lo hi=>obtain ⟨t,u,v,e⟩:=x;exact ⟨t,u,v,k _ _ (.inl rfl) e⟩
 | frz ob u ih=>obtain ⟨e,q⟩:=x;exact ⟨k _ _ (.inl rfl) e,ih q⟩
 | tbl ps=>
  have e:h.get? a=some { cls:=.none,data:=.fields ps }:=x
  show h'.get? a=some { cls:=.none,data:=.fields ps }
  exact k a _ (.inl rfl) e
 | met f y=>
  have e:h.get? a=some (PySem.W.methodObj (.ref f) (.ref y)):=x
  show h'.get? a=some (PySem.W.methodObj (.ref f) (.ref y))
  exact k a _ (.inl rfl) e
 | ext φ=>obtain ⟨p,⟨o,e⟩,st⟩:=x;exact ⟨st _ _ p fun o q=>k _ _ (.inl rfl) q,⟨o,k _ _ (.inl rfl) e⟩,st⟩
theorem HOk.lt (x:HOk P w H h) (e:H a=some o):a < h.objs.size:=(x a o e).lt
theorem HOk.fresh (x:HOk P w H h) (e:h.objs.size<=a):H a=none:=by
 cases q:H a with
 | none=>rfl
 | some u=>exact absurd (Nat.lt_of_lt_of_le (x.lt q) e) (Nat.lt_irrefl _)
theorem HOk.kept (x:HOk P w H h) (k:∀ b u,h.get? b=some u->h'.get? b=some u):HOk P w H h':=fun a o e=>
 (x a o e).stay (fun b u _ q=>k b u q) (fun _ q=>q) fun _ _ q=>q
theorem HOk.laid (x:HOk P w H h) (k:∀ b u,h.get? b=some u->h'.get? b=some u) (hp:h.objs.size<=a) (new:ObjOk P w (upd H a o) h' a o):HOk P w (upd H a o) h':=fun b u e=>by
 have hn:=x.fresh hp
 by_cases hb:b=a
 ·subst hb;rw [upd_same] at e;cases e;exact new
 ·rw [upd_ne hb] at e
  exact (x b u e).stay (fun c v _ q=>k c v q) (fun c q=>by rw [upd_ne (ne_of_none q hn)];exact q) fun c xs q=>by rw [upd_ne (ne_of_none q hn)];exact q
end
def Rd (H:Hp) (a:Addr) (u:HO):Prop:=H a=some u\/∃ o,H a=some (.frz o u)
theorem Rd.of {H:Hp} {a:Addr} {u:HO} (h:H a=some u):Rd H a u:=.inl h
theorem Rd.ok {P:Program} {w:World} {H:Hp} {h:Heap} {a:Addr} {u:HO} (r:Rd H a u) (x:HOk P w H h):ObjOk P w H h a u:=by
 rcases r with r | ⟨o,r⟩
 ·exact x a u r
 ·obtain ⟨_,q⟩:=x a _ r
  exact q
def Mut:Option HO->Prop
 | some (.lst _)=>True
 | some (.dK _)=>True
 | some (.dT _)=>True
 | some (.set _ _)=>True
 | some (.ins _ _ _)=>True
 | some (.ext _)=>True
 | _=>False
section
variable {P:Program} {w:World} {H:Hp} {h h':Heap} {x e:Addr} {o':HO}
theorem HOk.write (ok:HOk P w H h) (mu:Mut (H x)) (he:e=x\/H e=some (.own x)) (k:∀ b u,b≠e->h.get? b=some u->h'.get? b=some u) (heo:∃ u,h'.get? e=some u)
  (new:ObjOk P w (upd H x o') h' x o'):HOk P w (upd H x o') h':=fun b u q=>by
 have nown:∀ c y,H c=some (.own y)->c≠x:=fun c y r z=>by subst z;rw [r] at mu;exact mu
 have ntup:∀ c xs,H c=some (.tup xs)->c≠x:=fun c xs r z=>by subst z;rw [r] at mu;exact mu
 by_cases hb:b=x
 ·subst hb;rw [upd_same] at q;cases q;exact new
 ·rw [upd_ne hb] at q
  by_cases hbe:b=e
  ·have q':H b=some (.own x):=by
    rcases he with z | z
    ·exact absurd (hbe.trans z) hb
    ·rw [hbe];exact z
   rw [q] at q';cases q'
   obtain ⟨v,hv⟩:=heo
   exact ⟨v,by rw [hbe];exact hv⟩
  ·refine (ok b u q).stay (fun c v hc r=>k c v ?_ r) (fun c r=>by rw [upd_ne (nown c b r)];exact r) fun c xs r=>by rw [upd_ne (ntup c xs r)];exact r
   rcases hc with rfl | hc
   ·exact hbe
   ·rintro rfl
    rcases he with z | z
    ·exact nown c b hc z
    ·rw [hc] at z;cases z;exact hb rfl
end
structure Un (fs ex:List Addr) (H H':Hp) (h h':Heap):Prop where
 keep:∀ b o,h.get? b=some o->H b=none->b ∉ fs->b ∉ ex->h'.get? b=some o
 slot:∀ b o,h.get? b=some o->H b=none->b∈fs->b ∉ ex->∃ sl,h'.get? b=some { o with slots:=sl }
 free:∀ b o,h.get? b=some o->H b=none->b ∉ ex->H' b=none
 there:∀ b o,h.get? b=some o->b ∉ ex->∃ o',h'.get? b=some o'
 tups:∀ b xs,H b=some (.tup xs)->H' b=some (.tup xs)
 frzs:∀ b o u,H b=some (.frz o u)->H' b=some (.frz o u)
 tbls:∀ b ps,H b=some (.tbl ps)->∃ more,H' b=some (.tbl (ps++more))
section
variable {fs fs' ex ex':List Addr} {H H1 H2:Hp} {h h1 h2 h':Heap} {a x e:Addr} {o:HO}
theorem Un.any (u:Un fs ex H H1 h h1) {b:Addr} {ob:Obj} (q:h.get? b=some ob) (n:H b=none) (hx:b ∉ ex):∃ sl,h1.get? b=some { ob with slots:=sl }:=by
 by_cases hb:b∈fs
 ·exact u.slot b ob q n hb hx
 ·exact ⟨ob.slots,u.keep b ob q n hb hx⟩
theorem Un.trans (a:Un fs ex H H1 h h1) (b:Un fs ex H1 H2 h1 h2):Un fs ex H H2 h h2 where
 keep:=fun c ob q n hc hx=>b.keep c ob (a.keep c ob q n hc hx) (a.free c ob q n hx) hc hx
 slot:=fun c ob q n hc hx=>by
  obtain ⟨sl,e1⟩:=a.slot c ob q n hc hx
  obtain ⟨sl',e2⟩:=b.slot c _ e1 (a.free c ob q n hx) hc hx
  exact ⟨sl',e2⟩
 free:=fun c ob q n hx=>by
  obtain ⟨o',e1⟩:=a.there c ob q hx
  exact b.free c o' e1 (a.free c ob q n hx) hx
 there:=fun c ob q hx=>by
  obtain ⟨o',e1⟩:=a.there c ob q hx
  exact b.there c o' e1 hx
 tups:=fun c xs q=>b.tups c xs (a.tups c xs q)
 frzs:=fun c ob xs q=>b.frzs c ob xs (a.frzs c ob xs q)
 tbls:=fun c ps q=>by
  obtain ⟨m1,e1⟩:=a.tbls c ps q
  obtain ⟨m2,e2⟩:=b.tbls c _ e1
  exact ⟨m1++m2,by rw [e2,Array.append_assoc]⟩
theorem Un.kept (k:∀ b u,h.get? b=some u->h'.get? b=some u):Un fs ex H H h h':=
 ⟨fun b ob q _ _ _=>k b ob q,fun b ob q _ _ _=>⟨ob.slots,k b ob q⟩,fun _ _ _ n _=>n,fun b ob q _=>⟨ob,k b ob q⟩,fun _ _ q=>q,fun _ _ _ q=>q,fun _ ps q=>⟨#[],by rw [q];simp⟩⟩
theorem Un.refl:Un fs ex H H h h:=Un.kept fun _ _ q=>q
theorem Un.laid (k:∀ b u,h.get? b=some u->h'.get? b=some u) (hp:h.objs.size<=a) (hn:H a=none):Un fs ex H (upd H a o) h h' where
 keep:=fun b u q _ _ _=>k b u q
 slot:=fun b u q _ _ _=>⟨u.slots,k b u q⟩
 free:=fun b u q n _=>by rw [upd_ne (Nat.ne_of_lt (Nat.lt_of_lt_of_le (Heap.lt_size q) hp))];exact n
 there:=fun b u q _=>⟨u,k b u q⟩
 tups:=fun b xs q=>by rw [upd_ne (ne_of_none q hn)];exact q
 frzs:=fun b u xs q=>by rw [upd_ne (ne_of_none q hn)];exact q
 tbls:=fun b ps q=>⟨#[],by rw [upd_ne (ne_of_none q hn),q];simp⟩
theorem Un.write (mu:Mut (H x)) (he:e=x\/H e=some (.own x)) (k:∀ b u,b≠e->h.get? b=some u->h'.get? b=some u) (heo:∃ u,h'.get? e=some u):Un fs ex H (upd H x o) h h':=by
 have hx:∀ b,H b=none->b≠x:=fun b n z=>by subst z;rw [n] at mu;exact mu
 have hb:∀ b,H b=none->b≠e:=fun b n z=>by
  subst z
  rcases he with r | r
  ·exact hx b n r
  ·rw [n] at r;cases r
 have hm:∀ b u,H b=some u->¬ Mut (some u)->b≠x:=fun b u q nm z=>by subst z;rw [q] at mu;exact nm mu
 refine ⟨fun b u q n _ _=>k b u (hb b n) q,fun b u q n _ _=>⟨u.slots,k b u (hb b n) q⟩,fun b u q n _=>by rw [upd_ne (hx b n)];exact n,fun b u q _=>?_,
  fun b xs q=>by rw [upd_ne (hm b _ q fun z=>z)];exact q,fun b u xs q=>by rw [upd_ne (hm b _ q fun z=>z)];exact q,fun b ps q=>⟨#[],by rw [upd_ne (hm b _ q fun z=>z),q];simp⟩⟩
 by_cases hbe:b=e
 ·subst hbe;exact heo
 ·exact ⟨u,k b u hbe q⟩
theorem Un.mono (u:Un fs ex H H1 h h1) (hs:∀ b∈fs,b∈fs') (hx:∀ b∈ex,b∈ex'):Un fs' ex' H H1 h h1:=
 ⟨fun b ob q n hb he=>u.keep b ob q n (fun z=>hb (hs b z)) fun z=>he (hx b z),fun _ _ q n _ he=>u.any q n fun z=>he (hx _ z),fun b ob q n he=>u.free b ob q n fun z=>he (hx b z),fun b ob q he=>u.there b ob q fun z=>he (hx b z),u.tups,u.frzs,u.tbls⟩
end
def trk (h:Heap) (H:Hp):List Addr:=(List.range h.objs.size).filter fun a=>(H a).isSome
def hidT (h:Heap) (H:Hp):Heap:=PySem.W.hideAll h (trk h H)
theorem hidT_size (h:Heap) (H:Hp):(hidT h H).objs.size=h.objs.size:=PySem.W.hideAll_size _ _
theorem hidT_get {h:Heap} {H:Hp} {b:Addr} {o:Obj} (e:h.get? b=some o) (n:H b=none):(hidT h H).get? b=some o:=
 PySem.W.hideAll_get _ e fun hm=>by
  have q:(H b).isSome=true:=(List.mem_filter.mp hm).2
  rw [n] at q;simp at q
theorem of_hidT {h:Heap} {H:Hp} {b:Addr} {o:Obj} (e:(hidT h H).get? b=some o):h.get? b=some o/\H b=none:=by
 have e':h.get? b=some o:=PySem.W.of_hideAll (trk h H) e
 refine ⟨e',?_⟩
 cases q:H b with
 | none=>rfl
 | some x=>
  have hm:b∈trk h H:=List.mem_filter.mpr ⟨List.mem_range.mpr (Heap.lt_size e'),by simp [q]⟩
  have z:(hidT h H).get? b=none:=PySem.W.hideAll_none (trk h H) hm
  rw [z] at e;cases e
def allNews (g h:Heap) (L:Addr):List (Addr×Obj):=(List.range h.objs.size).filterMap fun a=>if a=L\/(g.get? a).isSome=true then none else (h.get? a).map fun o=>(a,o)
def rest (g h:Heap) (L d:Addr):List (Addr×Obj):=(allNews g h L).filter fun p=>decide (p.1≠d)
end L2
namespace L2
open PySem PySem.Spec PyProof.Rows
structure Mod (K:PySem.W.Frag) (mg:Str->Option Value) (base:Heap):Prop where
 kin:K.In base
 glob:base.Ns mainGlobals mg
 blt:∃ mb,base.Ns builtinsNs mb/\∀ x:Str,x≠"__name__"->mb x=bootBuiltins x
 nolimit:base.NoLimit
structure Cx where
 prog:Program
 w:World
 K:PySem.W.Frag
 mg:Str->Option Value
 base:Heap
 A:Around
 N:List Str
 s₀:Shared
 H₀:Hp
 env:Env
 outer:List Env
 stack:List Env
 ex:List Addr
 fn:Str->Bool
 calm:Bool
 pn:List (Addr×Obj)
 xe:Value->Shared->Prop
 xct:Option (Str×Value):=none
def frs (l:List Env):List Addr:=l.filterMap (·.frame)
abbrev Cx.fs (X:Cx):List Addr:=frs X.outer
def Vis (sc:Scope) (x:Str):Prop:=sc.names.lookup x=some .local\/sc.names.lookup x=some .cell\/sc.names.lookup x=some .free
def Loc (sc:Scope) (x:Str):Prop:=sc.names.lookup x=some .local\/sc.names.lookup x=some .cell
def Look (env:Env) (h:Heap) (m:Str->Option Value) (x:Str) (u:Value):Prop:=
 (env.kindOf x=some .local/\m x=some u)\/((env.kindOf x=some .cell\/env.kindOf x=some .free)/\∃ c,env.cells.lookup x=some c/\h.IsCell c (some u))
def CanSt (X:Cx) (x:Str):Prop:=(X.fn x=true\/X.env.scope.names.lookup x=some .local)/\∀ u,X.xct≠some (x,u)
def canStB (X:Cx) (x:Str):Bool:=(X.fn x || X.env.scope.names.lookup x == some .local) && (match X.xct with | none=>true | some p=>!(p.1 == x))
theorem canSt_of {X:Cx} {x:Str} (h:canStB X x=true):CanSt X x:=by
 unfold canStB at h
 rw [Bool.and_eq_true,Bool.or_eq_true] at h
 refine ⟨h.1.elim .inl fun z=>.inr (eq_of_beq z),fun u e=>?_⟩
 have h2:=h.2
 rw [e] at h2
 simp at h2
def RelX (X:Cx) (x:Str) (v:V) (u:Value):Prop:=RelV v u/\∀ u',X.xct=some (x,u')->u=u'
structure Cx.Ok (X:Cx):Prop where
 mod:Mod X.K X.mg X.base
 kind:X.env.scope.kind = .function
 glob:X.env.globals=mainGlobals
 blt:X.env.builtins=builtinsNs
 above:X.s₀.heap.objs.size<=X.env.locals
 inj:∀ x y c,X.env.cells.lookup x=some c->X.env.cells.lookup y=some c->x=y
 has:∀ x,(X.env.kindOf x=some .cell\/X.env.kindOf x=some .free)->∃ c,X.env.cells.lookup x=some c
 cab:∀ x c,X.fn x=true->X.env.cells.lookup x=some c->X.s₀.heap.objs.size<=c
 hd:X.calm=true->X.A.handled=none
 frames:X.A.frames=some X.stack
 stk:X.stack=X.outer\/(X.stack=X.env :: X.outer/\X.env.frame=some X.env.locals)
 exf:∀ b∈X.ex,b≠X.env.locals/\∀ x c,X.env.cells.lookup x=some c->c≠b
 bs:∀ b o,X.base.get? b=some o->X.s₀.heap.get? b=some o/\X.H₀ b=none
 bsz:X.base.objs.size<=X.s₀.heap.objs.size
 noex:∀ b o,X.base.get? b=some o->b ∉ X.ex
 exfs:∀ b∈X.ex,b ∉ X.fs
 funs:X.s₀.heap.FunFrames X.base X.outer
 frf:∀ b∈X.fs,X.H₀ b=none
structure Inv (X:Cx) (pins:List (Addr×Obj)) (σ:List (Option V)) (H:Hp) (s:Shared):Prop where
 ok:X.Ok
 os:s.os=X.s₀.os
 bare:AllBare s.gens
 base:Un X.fs X.ex X.H₀ H X.s₀.heap s.heap
 loc:∃ m,s.heap.Ns X.env.locals m/\∀ (i:Nat) (x:Str) (v:V),X.N[i]? = some x->σ[i]? = some (some v)->Vis X.env.scope x->∃ u,RelX X x v u/\Look X.env s.heap m x u
 cell:∀ x c,X.env.cells.lookup x=some c->∃ v,s.heap.IsCell c v
 free:H X.env.locals=none
 freeC:∀ x c,X.env.cells.lookup x=some c->H c=none
 pin:∀ p∈X.pn++pins,s.heap.get? p.1=some p.2/\H p.1=none/\p.1≠X.env.locals/\p.1 ∉ X.fs/\∀ v,p.2.data≠.cell v
 hok:HOk X.prog X.w H s.heap
 len:σ.length=X.N.length
section
variable {X:Cx} {pins:List (Addr×Obj)} {σ:List (Option V)} {H H':Hp} {s:Shared} {h':Heap}
theorem Cx.Ok.nofr (ok:X.Ok) {b:Addr} {o:Obj} (e:X.base.get? b=some o):b ∉ X.fs:=fun hb=>by
 have:=(ok.funs.mem hb).1
 rw [e] at this;cases this
theorem Inv.bs (I:Inv X pins σ H s):∀ b o,X.base.get? b=some o->s.heap.get? b=some o/\H b=none:=fun b o e=>
 ⟨I.base.keep b o (I.ok.bs b o e).1 (I.ok.bs b o e).2 (I.ok.nofr e) (I.ok.noex b o e),I.base.free b o (I.ok.bs b o e).1 (I.ok.bs b o e).2 (I.ok.noex b o e)⟩
theorem Inv.bk (I:Inv X pins σ H s):∀ b o,X.base.get? b=some o->s.heap.get? b=some o:=fun b o e=>(I.bs b o e).1
theorem Inv.mod (I:Inv X pins σ H s):Mod X.K X.mg X.base:=I.ok.mod
theorem Inv.kIn (I:Inv X pins σ H s):X.K.In s.heap:=I.ok.mod.kin.keeps I.bk
theorem Inv.nolimit (I:Inv X pins σ H s):s.heap.NoLimit:=I.ok.mod.nolimit.keeps I.bk
theorem Inv.fr (I:Inv X pins σ H s):∃ m,Fr X.base X.env.locals s.heap m:=
 let ⟨m,hn,_⟩:=I.loc
 ⟨m,hn,I.bk,Nat.le_trans I.ok.bsz I.ok.above⟩
theorem Inv.lt (I:Inv X pins σ H s):X.env.locals < s.heap.objs.size:=let ⟨_,hn,_⟩:=I.loc;hn.lt
theorem Inv.sz (I:Inv X pins σ H s):X.s₀.heap.objs.size<=s.heap.objs.size:=Nat.le_trans I.ok.above (Nat.le_of_lt I.lt)
theorem Inv.nofs (I:Inv X pins σ H s) {a:Addr} (h:s.heap.objs.size<=a):a ∉ X.fs:=fun hb=>by
 obtain ⟨_,o,ho,_⟩:=I.ok.funs.mem hb
 exact absurd (Nat.lt_of_lt_of_le (Heap.lt_size ho) (Nat.le_trans I.sz h)) (Nat.lt_irrefl _)
theorem Inv.cne (I:Inv X pins σ H s):∀ x c,X.env.cells.lookup x=some c->c≠X.env.locals:=fun x c e z=>by
 obtain ⟨v,o,ho,hd⟩:=I.cell x c e
 obtain ⟨m,⟨o',es,ep,ho',hd',_⟩,_⟩:=I.loc
 rw [z,ho'] at ho;cases ho;rw [hd'] at hd;cases hd
theorem Inv.funs (I:Inv X pins σ H s):s.heap.FunFrames X.base X.outer:=by
 have all:∀ (l:List Env),(∀ b∈frs l,b∈X.fs)->X.s₀.heap.FunFrames X.base l->s.heap.FunFrames X.base l:=by
  intro l
  induction l with
  | nil=>intro _ _;trivial
  | cons env r ih=>
   intro hs hl
   obtain ⟨hk,⟨L,o,hf,hn,ho,hd⟩,hr⟩:=hl
   have hL:L∈X.fs:=hs L (by unfold frs;rw [List.filterMap_cons,hf];exact List.mem_cons_self)
   obtain ⟨sl,e⟩:=I.base.slot L o ho (I.ok.frf L hL) hL fun z=>I.ok.exfs L z hL
   exact ⟨hk,⟨L,_,hf,hn,e,hd⟩,ih (fun b hb=>hs b (by unfold frs;rw [List.filterMap_cons,hf];exact List.mem_cons_of_mem _ hb)) hr⟩
 exact all X.outer (fun _ hb=>hb) I.ok.funs
theorem Inv.stack (I:Inv X pins σ H s):s.heap.FunFrames X.base X.stack:=by
 rcases I.ok.stk with e | ⟨e,hf⟩
 ·rw [e];exact I.funs
 ·rw [e]
  obtain ⟨m,hn,_⟩:=I.loc
  refine .cons (by rw [I.ok.kind];decide) hf hn ?_ I.funs
  exact Heap.get?_none_of_le (Nat.le_trans I.ok.bsz I.ok.above)
theorem Inv.stkSub (I:Inv X pins σ H s):∀ b∈frs X.stack,b∈X.env.locals :: X.fs:=fun b hb=>by
 rcases I.ok.stk with e | ⟨e,hf⟩
 ·rw [e] at hb;exact List.mem_cons_of_mem _ hb
 ·rw [e] at hb
  unfold frs at hb
  rw [List.filterMap_cons,hf] at hb
  exact hb
theorem Inv.stkFree (I:Inv X pins σ H s):∀ b∈frs X.stack,H b=none:=fun b hb=>by
 rcases List.mem_cons.mp (I.stkSub b hb) with e | hb
 ·rw [e];exact I.free
 ·obtain ⟨_,o,ho,_⟩:=I.ok.funs.mem hb
  exact I.base.free b o ho (I.ok.frf b hb) fun z=>I.ok.exfs b z hb
theorem Inv.step {g':Array GenState} {t':Nat} {d':Drawn} {ch:List Addr} (I:Inv X pins σ H s)
  (hch:∀ b∈ch,(b∈X.ex\/X.s₀.heap.objs.size<=b)/\b≠X.env.locals/\(∀ x c,X.env.cells.lookup x=some c->c≠b)/\∀ p∈X.pn++pins,p.1≠b)
  (keep:∀ b o,b≠X.env.locals->b ∉ X.fs->b ∉ ch->s.heap.get? b=some o->H b=none->h'.get? b=some o)
  (slot:∀ b o,b≠X.env.locals->b∈X.fs->b ∉ ch->s.heap.get? b=some o->H b=none->∃ sl,h'.get? b=some { o with slots:=sl }) (free:∀ b o,b ∉ ch->s.heap.get? b=some o->H b=none->H' b=none)
  (there:∀ b o,b ∉ ch->s.heap.get? b=some o->∃ o',h'.get? b=some o')
  (tups:∀ b xs,H b=some (.tup xs)->H' b=some (.tup xs)) (frzs:∀ b o u,H b=some (.frz o u)->H' b=some (.frz o u)) (tbls:∀ b ps,H b=some (.tbl ps)->∃ more,H' b=some (.tbl (ps++more)))
  (ns:∀ m,s.heap.Ns X.env.locals m->h'.Ns X.env.locals m) (hok:HOk X.prog X.w H' h') (hg:AllBare g') :
  Inv X pins σ H' { s with heap:=h',gens:=g',drawn:=d',toks:=t' }:=by
 have neL:∀ b o,X.s₀.heap.get? b=some o->b≠X.env.locals:=fun b o e=>Nat.ne_of_lt (Nat.lt_of_lt_of_le (Heap.lt_size e) I.ok.above)
 have neC:∀ b o,X.s₀.heap.get? b=some o->b ∉ X.ex->b ∉ ch:=fun b o e hx hb=>by
  rcases (hch b hb).1 with z | z
  ·exact hx z
  ·exact absurd (Nat.lt_of_lt_of_le (Heap.lt_size e) z) (Nat.lt_irrefl _)
 have cellK:∀ x c,X.env.cells.lookup x=some c->∀ v,s.heap.IsCell c v->h'.IsCell c v:=fun x c e v ⟨o,ho,hd⟩=>by
  have nch:c ∉ ch:=fun z=>(hch c z).2.2.1 x c e rfl
  by_cases hc:c∈X.fs
  ·obtain ⟨sl,q⟩:=slot c o (I.cne x c e) hc nch ho (I.freeC x c e)
   exact ⟨_,q,hd⟩
  ·exact ⟨o,keep c o (I.cne x c e) hc nch ho (I.freeC x c e),hd⟩
 refine ⟨I.ok,I.os,hg,⟨fun b o e n hb hx=>?_,fun b o e n hb hx=>?_,fun b o e n hx=>?_,fun b o e hx=>?_,fun b xs e=>tups b xs (I.base.tups b xs e),fun b o xs e=>frzs b o xs (I.base.frzs b o xs e),fun b ps e=>?_⟩,?_,fun x c e=>?_,?_,fun x c e=>?_,fun p hp=>?_,hok,I.len⟩
 ·exact keep b o (neL b o e) hb (neC b o e hx) (I.base.keep b o e n hb hx) (I.base.free b o e n hx)
 ·obtain ⟨sl,e1⟩:=I.base.slot b o e n hb hx
  obtain ⟨sl',e2⟩:=slot b _ (neL b o e) hb (neC b o e hx) e1 (I.base.free b o e n hx)
  exact ⟨sl',e2⟩
 ·obtain ⟨o',e1⟩:=I.base.there b o e hx
  exact free b o' (neC b o e hx) e1 (I.base.free b o e n hx)
 ·obtain ⟨o',e1⟩:=I.base.there b o e hx
  exact there b o' (neC b o e hx) e1
 ·obtain ⟨m1,e1⟩:=I.base.tbls b ps e
  obtain ⟨m2,e2⟩:=tbls b _ e1
  exact ⟨m1++m2,by rw [e2,Array.append_assoc]⟩
 ·obtain ⟨m,hn,hl⟩:=I.loc
  refine ⟨m,ns m hn,fun i x v e1 e2 e3=>?_⟩
  obtain ⟨u,r,l⟩:=hl i x v e1 e2 e3
  refine ⟨u,r,?_⟩
  rcases l with l | ⟨k,c,e,z⟩
  ·exact .inl l
  ·exact .inr ⟨k,c,e,cellK x c e _ z⟩
 ·obtain ⟨v,z⟩:=I.cell x c e
  exact ⟨v,cellK x c e v z⟩
 ·obtain ⟨m,⟨o,_,_,ho,_⟩,_⟩:=I.loc
  exact free _ o (fun z=>(hch _ z).2.1 rfl) ho I.free
 ·obtain ⟨v,o,ho,hd⟩:=I.cell x c e
  exact free c o (fun z=>(hch c z).2.2.1 x c e rfl) ho (I.freeC x c e)
 ·obtain ⟨e,n,ne,nf,d⟩:=I.pin p hp
  have nch:p.1 ∉ ch:=fun z=>(hch p.1 z).2.2.2 p hp rfl
  exact ⟨keep p.1 p.2 ne nf nch e n,free p.1 p.2 nch e n,ne,nf,d⟩
theorem Inv.un {t':Nat} (I:Inv X pins σ H s) (u:Un X.fs [] H H' s.heap h') (hok:HOk X.prog X.w H' h'):Inv X pins σ H' { s with heap:=h',toks:=t' }:=by
 obtain ⟨m,⟨o,es,ep,ho,r⟩,_⟩:=id I.loc
 obtain ⟨sl,hL⟩:=u.any ho I.free (by simp)
 exact I.step (g':=s.gens) (d':=s.drawn) (ch:=[]) (fun _ z=>nomatch z) (fun b o _ hb _ e n=>u.keep b o e n hb (by simp)) (fun b o _ hb _ e n=>u.slot b o e n hb (by simp)) (fun b o _ e n=>u.free b o e n (by simp)) (fun b o _ e=>u.there b o e (by simp)) u.tups u.frzs u.tbls (fun m' hm=>by
  obtain ⟨o',es',ep',ho',r'⟩:=hm
  rw [ho] at ho';cases ho'
  exact ⟨_,es',ep',hL,r'⟩) hok I.bare
theorem Inv.call {g':Array GenState} {t':Nat} {d':Drawn} {ch:List Addr} (I:Inv X pins σ H s) (u:Un (frs X.stack) ch H H' s.heap h') (hok:HOk X.prog X.w H' h') (hg:AllBare g')
  (hch:∀ b∈ch,(b∈X.ex\/X.s₀.heap.objs.size<=b)/\b≠X.env.locals/\(∀ x c,X.env.cells.lookup x=some c->c≠b)/\∀ p∈X.pn++pins,p.1≠b) :
  Inv X pins σ H' { s with heap:=h',gens:=g',drawn:=d',toks:=t' }:=by
 obtain ⟨m,⟨o,es,ep,ho,r⟩,_⟩:=id I.loc
 obtain ⟨sl,hL⟩:=u.any ho I.free fun z=>(hch _ z).2.1 rfl
 exact I.step (ch:=ch) hch (fun b o hL hb hc e n=>u.keep b o e n (fun z=>(List.mem_cons.mp (I.stkSub b z)).elim hL hb) hc) (fun b o _ _ hc e n=>u.any e n hc) (fun b o hc e n=>u.free b o e n hc) (fun b o hc e=>u.there b o e hc) u.tups u.frzs u.tbls (fun m' hm=>by
  obtain ⟨o',es',ep',ho',r'⟩:=hm
  rw [ho] at ho';cases ho'
  exact ⟨_,es',ep',hL,r'⟩) hok hg
theorem Inv.turned {t':Nat} {it:Addr} (I:Inv X pins σ H s) (k:∀ b o,b≠it->s.heap.get? b=some o->h'.get? b=some o) (hn:H it=none) (hL:it≠X.env.locals)
  (h1:it∈X.ex\/X.s₀.heap.objs.size<=it) (h2:∀ x c,X.env.cells.lookup x=some c->c≠it) (h3:∀ p∈X.pn++pins,p.1≠it):Inv X pins σ H { s with heap:=h',toks:=t' }:=by
 have nit:∀ b u,H b=some u->b≠it:=fun b u e z=>by rw [z,hn] at e;cases e
 refine I.step (g':=s.gens) (d':=s.drawn) (ch:=[it]) (fun b hb=>?_) (fun b o _ _ hc e _=>k b o (fun z=>hc (by simp [z])) e) (fun b o _ _ hc e _=>⟨o.slots,k b o (fun z=>hc (by simp [z])) e⟩) (fun _ _ _ _ n=>n)
  (fun b o hc e=>⟨o,k b o (fun z=>hc (by simp [z])) e⟩) (fun _ _ e=>e) (fun _ _ _ e=>e) (fun b ps e=>⟨#[],by rw [e];simp⟩) (fun m hm=>?_) (fun b u e=>?_) I.bare
 ·have e:b=it:=by simpa using hb
  subst e
  exact ⟨h1,hL,h2,h3⟩
 ·obtain ⟨o,es,ep,ho,r⟩:=hm
  exact ⟨o,es,ep,k _ o (Ne.symm hL) ho,r⟩
 ·refine (I.hok b u e).stay (fun c v hc q=>k c v ?_ q) (fun _ q=>q) fun _ _ q=>q
  rcases hc with z | z
  ·rw [z];exact nit b u e
  ·exact nit c _ z
theorem Inv.tok (I:Inv X pins σ H s) (t:Nat):Inv X pins σ H { s with toks:=t }:=I.un (h':=s.heap) (t':=t) Un.refl I.hok
theorem Inv.kept {t':Nat} (I:Inv X pins σ H s) (k:∀ b u,s.heap.get? b=some u->h'.get? b=some u):Inv X pins σ H { s with heap:=h',toks:=t' }:=I.un (Un.kept k) (I.hok.kept k)
theorem Inv.laid {a:Addr} {o:HO} {t':Nat} (I:Inv X pins σ H s) (k:∀ b u,s.heap.get? b=some u->h'.get? b=some u) (hp:s.heap.objs.size<=a) (new:ObjOk X.prog X.w (upd H a o) h' a o) :
  Inv X pins σ (upd H a o) { s with heap:=h',toks:=t' }:=I.un (Un.laid k hp (I.hok.fresh hp)) (I.hok.laid k hp new)
theorem Inv.write {x e:Addr} {o:HO} {t':Nat} (I:Inv X pins σ H s) (mu:Mut (H x)) (he:e=x\/H e=some (.own x)) (k:∀ b u,b≠e->s.heap.get? b=some u->h'.get? b=some u) (heo:∃ u,h'.get? e=some u)
  (new:ObjOk X.prog X.w (upd H x o) h' x o):Inv X pins σ (upd H x o) { s with heap:=h',toks:=t' }:=I.un (Un.write mu he k heo) (I.hok.write mu he k heo new)
theorem Inv.pins_of {pins':List (Addr×Obj)} (I:Inv X pins σ H s) (h:∀ p∈pins',s.heap.get? p.1=some p.2/\H p.1=none/\p.1≠X.env.locals/\p.1 ∉ X.fs/\∀ v,p.2.data≠.cell v):Inv X pins' σ H s:=
 ⟨I.ok,I.os,I.bare,I.base,I.loc,I.cell,I.free,I.freeC,fun p hp=>(List.mem_append.mp hp).elim (fun z=>I.pin p (List.mem_append_left _ z)) (h p),I.hok,I.len⟩
theorem nodup_ix {N:List Str} (hN:N.Nodup) {i j:Nat} {x:Str} (a:N[i]? = some x) (b:N[j]? = some x):i=j:=by
 obtain ⟨h1,e1⟩:=List.getElem?_eq_some_iff.mp a
 obtain ⟨h2,e2⟩:=List.getElem?_eq_some_iff.mp b
 exact (List.getElem_inj hN).mp (e1.trans e2.symm)
theorem store_okX {M:Model} {A:Around} {E:Value->Shared->Prop} {i:Nat} {x:Str} {v:V} {u:Value} {Q:Unit->Shared->Prop} (I:Inv X pins σ H s) (hN:X.N.Nodup) (hi:X.N[i]? = some x) (hx:Loc X.env.scope x) (r:RelV v u)
  (h:∀ s',Inv X pins (σ.set i (some v)) H s'->(∃ a,Heap.SameBut a s.heap s'.heap/\(a=X.env.locals\/X.env.cells.lookup x=some a))->Q () s') (hf:X.fn x=true\/X.env.scope.names.lookup x=some .local) (hq:∀ u',X.xct=some (x,u')->u=u'):wpAny M A (storeName X.env x u) Q E s:=by
 obtain ⟨m,hn,hl⟩:=id I.loc
 have hcls:(X.env.scope.kind == .class || (X.env.scope.kind == .module && X.env.locals != X.env.globals))=false:=by rw [I.ok.kind];rfl
 have hiσ:i < σ.length:=by rw [I.len];exact (List.getElem?_eq_some_iff.mp hi).1
 have cne:=I.cne
 have tracked:∀ {a:Addr} {h':Heap},(∃ o,s.heap.get? a=some o/\H a=none)->Heap.SameBut a s.heap h'->HOk X.prog X.w H h':=fun {a h'} ha hs b ob e=>by
  obtain ⟨_,_,hfree⟩:=ha
  refine (I.hok b ob e).stay (fun c w' hc q=>(hs.2 c ?_).trans q) (fun _ q=>q) fun _ _ q=>q
  rintro rfl
  rcases hc with rfl | hc
  ·rw [hfree] at e;cases e
  ·rw [hfree] at hc;cases hc
 rcases hx with hk | hk
 ·refine wpAny_storeName_local hk hn (fun h' hn' hs=>?_) hcls
  obtain ⟨oL,_,_,hoL,_⟩:=id hn
  refine h _ ⟨I.ok,I.os,I.bare,⟨fun b o e n hb hx=>?_,fun b o e n hb hx=>?_,I.base.free,fun b o e hx=>?_,I.base.tups,I.base.frzs,I.base.tbls⟩,⟨_,hn',fun j y v' e1 e2 e3=>?_⟩,fun y c e=>?_,I.free,I.freeC,fun p hp=>?_,tracked ⟨oL,hoL,I.free⟩ hs,by simpa using I.len⟩ ⟨_,hs,.inl rfl⟩
  ·exact (hs.2 b (Nat.ne_of_lt (Nat.lt_of_lt_of_le (Heap.lt_size e) I.ok.above))).trans (I.base.keep b o e n hb hx)
  ·obtain ⟨sl,e1⟩:=I.base.slot b o e n hb hx
   exact ⟨sl,(hs.2 b (Nat.ne_of_lt (Nat.lt_of_lt_of_le (Heap.lt_size e) I.ok.above))).trans e1⟩
  ·obtain ⟨o',e1⟩:=I.base.there b o e hx
   exact ⟨o',(hs.2 b (Nat.ne_of_lt (Nat.lt_of_lt_of_le (Heap.lt_size e) I.ok.above))).trans e1⟩
  ·by_cases hj:j=i
   ·subst hj
    rw [hi] at e1;cases e1
    rw [List.getElem?_set_self hiσ] at e2
    cases e2
    exact ⟨u,⟨r,hq⟩,.inl ⟨hk,by simp⟩⟩
   ·rw [List.getElem?_set_ne (Ne.symm hj)] at e2
    obtain ⟨u',r',q⟩:=hl j y v' e1 e2 e3
    refine ⟨u',r',?_⟩
    rcases q with ⟨k,e⟩ | ⟨k,c,e,z⟩
    ·refine .inl ⟨k,?_⟩
     have:y≠x:=fun e=>hj (nodup_ix hN e1 (e ▸ hi))
     simp [this,e]
    ·exact .inr ⟨k,c,e,z.sameBut hs (cne y c e)⟩
  ·obtain ⟨w',z⟩:=I.cell y c e
   exact ⟨w',z.sameBut hs (cne y c e)⟩
  ·obtain ⟨e,n,ne,nf,d⟩:=I.pin p hp
   exact ⟨(hs.2 p.1 ne).trans e,n,ne,nf,d⟩
 ·have hfn:X.fn x=true:=by
   rcases hf with z | z
   ·exact z
   ·rw [z] at hk;cases hk
  obtain ⟨c,hc⟩:=I.ok.has x (.inl hk)
  obtain ⟨w',z⟩:=I.cell x c hc
  refine wpAny_storeName_cell I.ok.kind hk hc z (fun h' hc' hs=>?_)
  obtain ⟨oc,hoc,hocd⟩:=id z
  refine h { s with heap:=h' } ⟨I.ok,I.os,I.bare,⟨fun b o e n hb hx=>?_,fun b o e n hb hx=>?_,I.base.free,fun b o e hx=>?_,I.base.tups,I.base.frzs,I.base.tbls⟩,⟨m,hn.sameBut hs (Ne.symm (cne x c hc)),fun j y v' e1 e2 e3=>?_⟩,fun y c' e=>?_,I.free,I.freeC,fun p hp=>?_,tracked ⟨oc,hoc,I.freeC x c hc⟩ hs,by simpa using I.len⟩ ⟨c,hs,.inr hc⟩
  ·exact (hs.2 b (Nat.ne_of_lt (Nat.lt_of_lt_of_le (Heap.lt_size e) (I.ok.cab x c hfn hc)))).trans (I.base.keep b o e n hb hx)
  ·obtain ⟨sl,e1⟩:=I.base.slot b o e n hb hx
   exact ⟨sl,(hs.2 b (Nat.ne_of_lt (Nat.lt_of_lt_of_le (Heap.lt_size e) (I.ok.cab x c hfn hc)))).trans e1⟩
  ·obtain ⟨o',e1⟩:=I.base.there b o e hx
   exact ⟨o',(hs.2 b (Nat.ne_of_lt (Nat.lt_of_lt_of_le (Heap.lt_size e) (I.ok.cab x c hfn hc)))).trans e1⟩
  ·by_cases hj:j=i
   ·subst hj
    rw [hi] at e1;cases e1
    rw [List.getElem?_set_self hiσ] at e2
    cases e2
    exact ⟨u,⟨r,hq⟩,.inr ⟨.inl hk,c,hc,hc'⟩⟩
   ·rw [List.getElem?_set_ne (Ne.symm hj)] at e2
    obtain ⟨u',r',q⟩:=hl j y v' e1 e2 e3
    refine ⟨u',r',?_⟩
    rcases q with q | ⟨k,c',e,z'⟩
    ·exact .inl q
    ·refine .inr ⟨k,c',e,z'.sameBut hs ?_⟩
     rintro rfl
     exact hj (nodup_ix hN e1 (I.ok.inj _ _ _ e hc ▸ hi))
  ·by_cases hcc:c'=c
   ·subst hcc;exact ⟨_,hc'⟩
   ·obtain ⟨w2,z2⟩:=I.cell y c' e
    exact ⟨w2,z2.sameBut hs hcc⟩
  ·obtain ⟨e,n,ne,nf,d⟩:=I.pin p hp
   refine ⟨(hs.2 p.1 ?_).trans e,n,ne,nf,d⟩
   intro q
   rw [q,hoc] at e
   have q':oc=p.2:=Option.some.inj e
   exact d w' (by rw [<-q'];exact hocd)
theorem store_ok2 {M:Model} {A:Around} {E:Value->Shared->Prop} {i:Nat} {x:Str} {v:V} {u:Value} {Q:Unit->Shared->Prop} (I:Inv X pins σ H s) (hN:X.N.Nodup) (hi:X.N[i]? = some x) (hx:Loc X.env.scope x) (r:RelV v u)
  (h:∀ s',Inv X pins (σ.set i (some v)) H s'->(∃ a,Heap.SameBut a s.heap s'.heap/\(a=X.env.locals\/X.env.cells.lookup x=some a))->Q () s') (hf:CanSt X x:=by first | exact ⟨.inl rfl,fun _ z=>nomatch z⟩ | exact ⟨.inr rfl,fun _ z=>nomatch z⟩ | assumption):wpAny M A (storeName X.env x u) Q E s:=store_okX I hN hi hx r h hf.1 fun u' z=>absurd z (hf.2 u')
theorem store_ok {M:Model} {A:Around} {E:Value->Shared->Prop} {i:Nat} {x:Str} {v:V} {u:Value} {Q:Unit->Shared->Prop} (I:Inv X pins σ H s) (hN:X.N.Nodup) (hi:X.N[i]? = some x) (hx:Loc X.env.scope x) (r:RelV v u)
  (h:∀ s',Inv X pins (σ.set i (some v)) H s'->Q () s') (hf:CanSt X x:=by first | exact ⟨.inl rfl,fun _ z=>nomatch z⟩ | exact ⟨.inr rfl,fun _ z=>nomatch z⟩ | assumption):wpAny M A (storeName X.env x u) Q E s:=
 store_ok2 I hN hi hx r (fun s' I' _=>h s' I') hf
theorem Inv.call' {s':Shared} {ch:List Addr} (I:Inv X pins σ H s) (ho:s'.os=s.os) (u:Un (frs X.stack) ch H H' s.heap s'.heap) (hok:HOk X.prog X.w H' s'.heap) (hg:AllBare s'.gens)
  (hch:∀ b∈ch,(b∈X.ex\/X.s₀.heap.objs.size<=b)/\b≠X.env.locals/\(∀ x c,X.env.cells.lookup x=some c->c≠b)/\∀ p∈X.pn++pins,p.1≠b):Inv X pins σ H' s':=by
 obtain ⟨h',g',d',t',o'⟩:=s'
 have e:o'=s.os:=ho
 subst e
 exact I.call (g':=g') (t':=t') (d':=d') u hok hg hch
end
abbrev XK:=Value->Option Addr->Hp->Prop
abbrev St:=List (Option V)
abbrev VK:=V->Hp->Prop
abbrev TE:=St->Hp->VK->Prop
abbrev TT:=St->Hp->(Bool->Hp->Prop)->Prop
abbrev TA:=St->Hp->(List V->Hp->Prop)->Prop
structure Ends where
 nx:St->Hp->Prop
 rt:VK
 bk:St->Hp->Prop:=fun _ _=>False
 ct:St->Hp->Prop:=fun _ _=>False
abbrev TS:=Ends->St->Hp->Prop
def EP (X:Cx) (pins:List (Addr×Obj)) (σ:St) (Q:VK) (u:Value) (s':Shared):Prop:=∃ v H',Inv X pins σ H' s'/\RelV v u/\Q v H'
def TP (X:Cx) (pins:List (Addr×Obj)) (σ:St) (Q:Bool->Hp->Prop) (b:Bool) (s':Shared):Prop:=∃ H',Inv X pins σ H' s'/\Q b H'
def AP (X:Cx) (pins:List (Addr×Obj)) (σ:St) (Q:List V->Hp->Prop) (us:List Value) (s':Shared):Prop:=∃ vs H',Inv X pins σ H' s'/\Vals vs us/\Q vs H'
def SP (X:Cx) (pins:List (Addr×Obj)) (D:Ends) (f:Flow) (s':Shared):Prop:=
 match f with
 | .next=>∃ σ' H',Inv X pins σ' H' s'/\D.nx σ' H'
 | .brk=>∃ σ' H',Inv X pins σ' H' s'/\D.bk σ' H'
 | .cont=>∃ σ' H',Inv X pins σ' H' s'/\D.ct σ' H'
 | .ret u=>∃ v σ' H',Inv X pins σ' H' s'/\RelV v u/\D.rt v H'
def PE (X:Cx) (e:Expr) (t:TE):Prop:=
 ∀ (pins:List (Addr×Obj)) (s:Shared) (σ:St) (H:Hp) (Q:VK),Inv X pins σ H s->t σ H Q->wpAny (model X.prog X.w) X.A (eval e X.env) (EP X pins σ Q) X.xe s
def PT (X:Cx) (e:Expr) (t:TT):Prop:=
 ∀ (pins:List (Addr×Obj)) (s:Shared) (σ:St) (H:Hp) (Q:Bool->Hp->Prop),Inv X pins σ H s->t σ H Q->wpAny (model X.prog X.w) X.A (isTrue e X.env (eval e X.env)) (TP X pins σ Q) X.xe s
def PW (X:Cx) (e:Expr) (t:TT):Prop:=
 ∀ (whole:Sem Value) (pins:List (Addr×Obj)) (s:Shared) (σ:St) (H:Hp) (Q:Bool->Hp->Prop),Inv X pins σ H s->t σ H Q->wpAny (model X.prog X.w) X.A (isTrue e X.env whole) (TP X pins σ Q) X.xe s
theorem PW.pt {X:Cx} {e:Expr} {t:TT} (h:PW X e t):PT X e t:=h _
def PA (X:Cx) (es:List Expr) (t:TA):Prop:=
 ∀ (pos:Pos) (pins:List (Addr×Obj)) (s:Shared) (σ:St) (H:Hp) (Q:List V->Hp->Prop),Inv X pins σ H s->t σ H Q->wpAny (model X.prog X.w) X.A (spliced (backTo pos (starEach es X.env))) (AP X pins σ Q) X.xe s
def PS (X:Cx) (st:Stmt) (t:TS):Prop:=
 ∀ (pins:List (Addr×Obj)) (s:Shared) (σ:St) (H:Hp) (D:Ends),Inv X pins σ H s->t D σ H->wpAny (model X.prog X.w) X.A (exec st X.env) (SP X pins D) X.xe s
def PSs (X:Cx) (st:List Stmt) (t:TS):Prop:=
 ∀ (pins:List (Addr×Obj)) (s:Shared) (σ:St) (H:Hp) (D:Ends),Inv X pins σ H s->t D σ H->wpAny (model X.prog X.w) X.A (execs st X.env) (SP X pins D) X.xe s
theorem thn {α:Type} {t:Sem α} {Q Q':α->Shared->Prop} {M:Model} {A:Around} {E:Value->Shared->Prop} {s:Shared} (h:wpAny M A t Q E s) (hQ:∀ a s,Q a s->Q' a s):wpAny M A t Q' E s:=wpAny_mono h hQ fun _ _ x=>x
end L2
namespace L2
open PySem PySem.Spec PyProof.Rows
section
variable {X:Cx}
def tVar (i:Nat):TE:=fun σ H Q=>∃ v,σ[i]? = some (some v)/\Q v H
def tC (v:V):TE:=fun _ H Q=>Q v H
theorem pe_var {i:Nat} {x:Str} {pos:Pos} (hN:X.N[i]? = some x) (hv:Vis X.env.scope x) (hd:(x == ("__debug__" : Str))=false:=by decide) (hcd:(x == ("__classdict__" : Str))=false:=by decide):PE X (.Name x pos) (tVar i):=by
 intro pins s σ H Q I h
 obtain ⟨v,e,h⟩:=h
 obtain ⟨m,hn,hl⟩:=I.loc
 obtain ⟨u,r,l⟩:=hl i x v hN e hv
 have fin:EP X pins σ Q u s:=⟨v,H,I,r.1,h⟩
 rcases l with ⟨hk,hm⟩ | ⟨hk,c,hc,hcell⟩
 ·exact wpAny_Name (wpAny_loadName_local I.ok.kind hk hn hm fin) hd
 ·rcases hk with hk | hk
  ·exact wpAny_Name (wpAny_loadName_cell I.ok.kind hk hc hcell fin) hd
  ·exact wpAny_Name (wpAny_loadName_free I.ok.kind hk hc hcell fin hcd) hd
theorem pe_int {i j pos}:PE X (.Constant (.int i) j pos) (tC (.int i)):=fun _ _ _ H _ I h=>wpAny_Constant_int ⟨.int i,H,I.tok _,⟨_,rfl⟩,h⟩
theorem pe_bl {b j pos}:PE X (.Constant (.bool b) j pos) (tC (.bl b)):=fun _ _ _ H _ I h=>Constant_bool ⟨.bl b,H,I,rfl,h⟩
theorem pe_str {x j pos}:PE X (.Constant (.str x) j pos) (tC (.str x)):=fun _ _ _ H _ I h=>Calls.Constant_str ⟨.str x,H,I.tok _,⟨_,rfl⟩,h⟩
def Gl (X:Cx) (x:Str):Prop:=X.env.kindOf x=some .globalImplicit
theorem ld_glob {E:Value->Shared->Prop} {pins:List (Addr×Obj)} {s:Shared} {σ:St} {H:Hp} {x:Str} {u:Value} {pos:Pos} {Q:Value->Shared->Prop} (I:Inv X pins σ H s) (hg:Gl X x) (hm:X.mg x=some u) (h:Q u s)
  (hd:(x == ("__debug__" : Str))=false:=by decide):wpAny (model X.prog X.w) X.A (eval (.Name x pos) X.env) Q E s:=
 Calls.Name_function_global I.ok.kind hg (Calls.loadGlobal_global (by rw [I.ok.glob];exact I.mod.glob.keeps I.bk) hm h) hd
theorem ld_blt {E:Value->Shared->Prop} {pins:List (Addr×Obj)} {s:Shared} {σ:St} {H:Hp} {x:Str} {u:Value} {pos:Pos} {Q:Value->Shared->Prop} (I:Inv X pins σ H s) (hg:Gl X x) (hm:X.mg x=none) (hv:bootBuiltins x=some u) (h:Q u s)
  (hn:x≠"__name__" := by decide) (hd:(x == ("__debug__" : Str))=false:=by decide):wpAny (model X.prog X.w) X.A (eval (.Name x pos) X.env) Q E s:=by
 obtain ⟨mb,h1,h2⟩:=I.mod.blt
 exact Calls.Name_function_global I.ok.kind hg (Calls.loadGlobal_builtin (by rw [I.ok.glob];exact I.mod.glob.keeps I.bk) hm (by rw [I.ok.blt];exact h1.keeps I.bk) ((h2 x hn).trans hv) h) hd
theorem pe_glob {x:Str} {v:V} {u:Value} {pos:Pos} (hg:Gl X x) (hm:X.mg x=some u) (r:RelV v u) (hd:(x == ("__debug__" : Str))=false:=by decide):PE X (.Name x pos) (tC v):=
 fun _ _ _ H _ I h=>ld_glob I hg hm ⟨v,H,I,r,h⟩ hd
theorem pe_bltn {x:Str} {v:V} {u:Value} {pos:Pos} (hg:Gl X x) (hm:X.mg x=none) (hv:bootBuiltins x=some u) (r:RelV v u) (hn:x≠"__name__" := by decide) (hd:(x == ("__debug__" : Str))=false:=by decide):PE X (.Name x pos) (tC v):=
 fun _ _ _ H _ I h=>ld_blt I hg hm hv ⟨v,H,I,r,h⟩ hn hd
variable {a b:Expr} {ta tb:TE} {pos:Pos}
variable {tA tB':TT} {rest:List Expr}
def tOr (t u:TT):TT:=fun σ H Q=>t σ H fun c H1=>if c=true then Q true H1 else u σ H1 Q
def tNot (t:TT):TT:=fun σ H Q=>t σ H fun c H1=>Q (!c) H1
theorem pw_or1 (ha:PT X a tA):PW X (.BoolOp .Or [a] pos) tA:=by
 intro wh pins s σ H Q I h
 refine isTrue_or (thn (ha pins s σ H Q I h) fun c s1 e=>?_)
 cases c with
 | false=>exact isTrue_or_nil e
 | true=>exact e
theorem pw_or (ha:PT X a tA) (hb:PW X (.BoolOp .Or (b :: rest) pos) tB'):PW X (.BoolOp .Or (a :: b :: rest) pos) (tOr tA tB'):=by
 intro wh pins s σ H Q I h
 refine isTrue_or (thn (ha pins s σ H _ I h) fun c s1 ⟨H1,I1,q1⟩=>?_)
 cases c with
 | true=>exact ⟨H1,I1,q1⟩
 | false=>exact hb wh pins s1 σ H1 Q I1 q1
theorem pt_not (ha:PT X a tA):PT X (.UnaryOp .Not a pos) (tNot tA):=by
 intro pins s σ H Q I h
 exact isTrue_not (ha pins s σ H (fun c H1=>Q (!c) H1) I h)
theorem pe_one {op} {t:TE} (h:PE X a t):PE X (.BoolOp op [a] pos) t:=fun pins s σ H Q I hw=>BoolOp_one (h pins s σ H Q I hw)
def tIf (t:TT) (ta tb:TE):TE:=fun σ H Q=>t σ H fun c H1=>if c=true then ta σ H1 Q else tb σ H1 Q
theorem pe_ifExp {c:Expr} (hc:PT X c tA) (ha:PE X a ta) (hb:PE X b tb):PE X (.IfExp c a b pos) (tIf tA ta tb):=by
 intro pins s σ H Q I h
 refine wpAny_IfExp (thn (hc pins s σ H _ I h) fun d s1 ⟨H1,I1,q1⟩=>?_)
 cases d with
 | true=>exact ha pins s1 σ H1 Q I1 q1
 | false=>exact hb pins s1 σ H1 Q I1 q1
end
end L2
namespace L2
open PySem PySem.Spec PyProof.Rows
def SqL (K:PySem.W.Frag) (H:Hp) (a:Addr) (xs:List V):Prop:=
 Rd H a (.lst xs) ∨
  ∃ (o:Obj) (its:Array Value) (n:Nat),K.lookup a=some o/\o.cls = .type "list"/\o.dict=none/\o.data = .seq its n/\its.size<=sizeLine/\Vals xs its.toList
def SqT (K:PySem.W.Frag) (H:Hp) (a:Addr) (xs:List V):Prop:=
 Rd H a (.tup xs) ∨
  ∃ (o:Obj) (its:Array Value) (n:Nat),K.lookup a=some o/\o.cls = .type "tuple"/\o.data = .seq its n/\its.size<=sizeLine/\Vals xs its.toList
def absV:Value->Option V
 | .none=>some .non
 | .bool b=>some (.bl b)
 | .int i _=>some (.int i)
 | .str x _=>some (.str x)
 | .bytes b _=>some (.byt b)
 | .float b _=>some (.flt b)
 | .ref a=>some (.ref a)
 | .type n=>some (.ty n)
 | _=>none
theorem RelV.abs {x:V} {u:Value} (r:RelV x u):absV u=some x:=by
 cases x with
 | non=>cases r;rfl
 | bl _=>cases r;rfl
 | int _=>obtain ⟨t,rfl⟩:=r;rfl
 | str _=>obtain ⟨t,rfl⟩:=r;rfl
 | byt _=>obtain ⟨t,rfl⟩:=r;rfl
 | flt _=>obtain ⟨t,rfl⟩:=r;rfl
 | ref _=>cases r;rfl
 | ty _=>cases r;rfl
theorem RelV.inj {x y:V} {u:Value} (r:RelV x u) (q:RelV y u):x=y:=Option.some.inj (r.abs.symm.trans q.abs)
theorem Vals.inj:∀ {xs ys:List V} {us:List Value},Vals xs us->Vals ys us->xs=ys
 | _,_,_,.nil,.nil=>rfl
 | _,_,_,.cons r t,.cons r' t'=>by rw [r.inj r',Vals.inj t t']
section
variable {X:Cx} {pins:List (Addr×Obj)} {σ:St} {H:Hp} {s:Shared} {a:Addr} {xs ys:List V}
theorem SqL.of {K:PySem.W.Frag} (h:H a=some (.lst xs)):SqL K H a xs:=.inl (.inl h)
theorem SqT.of {K:PySem.W.Frag} (h:H a=some (.tup xs)):SqT K H a xs:=.inl (.inl h)
theorem Inv.list (I:Inv X pins σ H s) (h:SqL X.K H a xs):∃ its:List Value,Vals xs its/\PlainL s.heap a its.toArray/\xs.length<=sizeLine:=by
 rcases h with h | ⟨o,its,n,hk,hc,hd,hs,hz,r⟩
 ·obtain ⟨z,its,n,r,e⟩:=h.ok I.hok
  exact ⟨its,r,⟨_,n,e,rfl,rfl,rfl⟩,z⟩
 ·refine ⟨its.toList,r,⟨o,n,I.kIn a o hk,hc,hd,by simpa using hs⟩,?_⟩
  have e:=r.length
  simp only [Array.length_toList] at e
  omega
theorem Inv.tuple (I:Inv X pins σ H s) (h:SqT X.K H a xs):∃ its:List Value,Vals xs its/\IsTup s.heap a its.toArray/\xs.length<=sizeLine:=by
 rcases h with h | ⟨o,its,n,hk,hc,hs,hz,r⟩
 ·obtain ⟨z,its,r,p⟩:=h.ok I.hok
  exact ⟨its,r,p,z⟩
 ·refine ⟨its.toList,r,⟨o,I.kIn a o hk,hc,n,by simpa using hs⟩,?_⟩
  have e:=r.length
  simp only [Array.length_toList] at e
  omega
theorem Inv.list_inj (I:Inv X pins σ H s) (h:SqL X.K H a xs) (h':SqL X.K H a ys):xs=ys:=by
 obtain ⟨its,r,⟨o,n,e,_,_,d⟩,_⟩:=I.list h
 obtain ⟨its',r',⟨o',n',e',_,_,d'⟩,_⟩:=I.list h'
 rw [e] at e';cases e'
 rw [d] at d'
 injection d' with d1 _
 have:its=its':=by simpa using congrArg Array.toList d1
 subst this
 exact r.inj r'
end
abbrev Cx.wish (X:Cx) (E:Value->Shared->Prop):Cx:={ X with xe:=E }
abbrev Cx.nox (X:Cx):Cx:=X.wish fun _ _=>False
theorem Cx.Ok.wish {X:Cx} (ok:X.Ok) (E:Value->Shared->Prop):(X.wish E).Ok:=
 ⟨ok.mod,ok.kind,ok.glob,ok.blt,ok.above,ok.inj,ok.has,ok.cab,ok.hd,ok.frames,ok.stk,ok.exf,ok.bs,ok.bsz,ok.noex,ok.exfs,ok.funs,ok.frf⟩
theorem Cx.Ok.unwish {X:Cx} {E:Value->Shared->Prop} (ok:(X.wish E).Ok):X.Ok:=
 ⟨ok.mod,ok.kind,ok.glob,ok.blt,ok.above,ok.inj,ok.has,ok.cab,ok.hd,ok.frames,ok.stk,ok.exf,ok.bs,ok.bsz,ok.noex,ok.exfs,ok.funs,ok.frf⟩
section
variable {X:Cx} {pins:List (Addr×Obj)} {σ:St} {H:Hp} {s:Shared} {E:Value->Shared->Prop}
theorem Inv.wish (I:Inv X pins σ H s) (E:Value->Shared->Prop):Inv (X.wish E) pins σ H s:=⟨I.ok.wish E,I.os,I.bare,I.base,I.loc,I.cell,I.free,I.freeC,I.pin,I.hok,I.len⟩
theorem Inv.unwish (I:Inv (X.wish E) pins σ H s):Inv X pins σ H s:=⟨I.ok.unwish,I.os,I.bare,I.base,I.loc,I.cell,I.free,I.freeC,I.pin,I.hok,I.len⟩
theorem SP.unwish {D:Ends} {f:Flow} {s':Shared} (h:SP (X.wish E) pins D f s'):SP X pins D f s':=by
 cases f with
 | next=>obtain ⟨σ',H',I,q⟩:=h;exact ⟨σ',H',I.unwish,q⟩
 | brk=>obtain ⟨σ',H',I,q⟩:=h;exact ⟨σ',H',I.unwish,q⟩
 | cont=>obtain ⟨σ',H',I,q⟩:=h;exact ⟨σ',H',I.unwish,q⟩
 | ret u=>obtain ⟨v,σ',H',I,r,q⟩:=h;exact ⟨v,σ',H',I.unwish,r,q⟩
theorem PE.nox {e:Expr} {t:TE} (h:PE X.nox e t):PE X e t:=fun pins s σ H Q I hw=>
 wpAny_mono (h pins s σ H Q (I.wish _) hw) (fun _ _ ⟨v,H',I',r,q⟩=>⟨v,H',I'.unwish,r,q⟩) fun _ _ z=>False.elim z
theorem PT.nox {e:Expr} {t:TT} (h:PT X.nox e t):PT X e t:=fun pins s σ H Q I hw=>
 wpAny_mono (h pins s σ H Q (I.wish _) hw) (fun _ _ ⟨H',I',q⟩=>⟨H',I'.unwish,q⟩) fun _ _ z=>False.elim z
theorem PSs.nox {st:List Stmt} {t:TS} (h:PSs X.nox st t):PSs X st t:=fun pins s σ H D I hw=>
 wpAny_mono (h pins s σ H D (I.wish _) hw) (fun _ _ q=>q.unwish) fun _ _ z=>False.elim z
end
section
variable {X:Cx} {st:Stmt} {rest:List Stmt} {t u:TS} {e:Expr} {te:TE} {pos:Pos}
def tNext:TS:=fun D σ H=>D.nx σ H
def tSeq (t u:TS):TS:=fun D σ H=>t { D with nx:=u D } σ H
theorem pss_nil:PSs X [] tNext:=fun _ _ σ H _ I h=>wpAny_execs_nil ⟨σ,H,I,h⟩
theorem pss_cons (h1:PS X st t) (h2:PSs X rest u):PSs X (st :: rest) (tSeq t u):=by
 intro pins s σ H D I h
 refine wpAny_execs_cons (thn (h1 pins s σ H { D with nx:=u D } I h) fun f s1 q=>?_)
 cases f with
 | next=>
  obtain ⟨σ',H',I',q⟩:=q
  exact h2 pins s1 σ' H' D I' q
 | ret v=>exact q
 | brk=>exact q
 | cont=>exact q
theorem pss_one (h1:PS X st t):PSs X [st] t:=by
 intro pins s σ H D I h
 refine wpAny_execs_cons (thn (h1 pins s σ H D I h) fun f s1 q=>?_)
 cases f with
 | next=>exact wpAny_execs_nil q
 | ret v=>exact q
 | brk=>exact q
 | cont=>exact q
theorem Inv.quiet {pins:List (Addr×Obj)} {σ:St} {H:Hp} {s:Shared} (I:Inv X pins σ H s):interactive X.env=false:=by simp [interactive,I.ok.kind]
def tDrop (te:TE):TS:=fun D σ H=>te σ H fun _ H1=>D.nx σ H1
theorem ps_expr (he:PE X e te) (hs:swapsWith e none pos.line X.env=pure false:=by rfl):PS X (.Expr e pos) (tDrop te):=by
 intro pins s σ H D I h
 exact wpAny_Expr_any (thn (he pins s σ H _ I h) fun v s1 ⟨x,H1,I1,r1,q1⟩=>⟨σ,H1,I1,q1⟩) I.quiet hs
def tRet (te:TE):TS:=fun D σ H=>te σ H D.rt
theorem ps_ret (he:PE X e te):PS X (.Return (some e) pos) (tRet te):=by
 intro pins s σ H D I h
 exact wpAny_Return_some (thn (he pins s σ H _ I h) fun v s1 ⟨x,H1,I1,r1,q1⟩=>⟨x,σ,H1,I1,r1,q1⟩)
def tIfS (c:TT) (t u:TS):TS:=fun D σ H=>c σ H fun b H1=>if b=true then t D σ H1 else u D σ H1
theorem ps_if {c:Expr} {a b:List Stmt} {tc:TT} (hc:PT X c tc) (ha:PSs X a t) (hb:PSs X b u):PS X (.If c a b pos) (tIfS tc t u):=by
 intro pins s σ H D I h
 refine wpAny_If (thn (hc pins s σ H _ I h) fun d s1 ⟨H1,I1,q1⟩=>?_)
 cases d with
 | true=>exact ha pins s1 σ H1 D I1 q1
 | false=>exact hb pins s1 σ H1 D I1 q1
def tNever:TS:=fun _ _ _=>False
theorem ps_never:PS X st tNever:=fun _ _ _ _ _ _ h=>h.elim
end
abbrev TG:=V->St->Hp->(St->Hp->Prop)->Prop
abbrev TGs:=List V->St->Hp->(St->Hp->Prop)->Prop
def PG (X:Cx) (target:Expr) (t:TG):Prop:=
 ∀ (pins:List (Addr×Obj)) (s:Shared) (σ:St) (H:Hp) (v:V) (u:Value) (Q:St->Hp->Prop),Inv X pins σ H s->RelV v u->t v σ H Q →
  wpAny (model X.prog X.w) X.A (assign target X.env u) (fun _ s'=>∃ σ' H',Inv X pins σ' H' s'/\Q σ' H') X.xe s
abbrev TSet:=V->V->V->Hp->(Hp->Prop)->Prop
def PSet (X:Cx) (t:TSet):Prop:=
 ∀ (pins:List (Addr×Obj)) (s:Shared) (σ:St) (H:Hp) (o i v:V) (ov iv u:Value) (Q:Hp->Prop),Inv X pins σ H s->RelV o ov->RelV i iv->RelV v u->t o i v H Q →
  wpAny (model X.prog X.w) X.A (setItem ov iv u) (fun _ s'=>∃ H',Inv X pins σ H' s'/\Q H') X.xe s
section
variable {X:Cx} {pos:Pos}
def gName (i:Nat):TG:=fun v σ H Q=>Q (σ.set i (some v)) H
theorem pg_name {i:Nat} {x:Str} (hN:X.N.Nodup) (hi:X.N[i]? = some x) (hx:Loc X.env.scope x) (hf:CanSt X x:=by first | exact ⟨.inl rfl,fun _ z=>nomatch z⟩ | exact ⟨.inr rfl,fun _ z=>nomatch z⟩ | assumption):PG X (.Name x pos) (gName i):=by
 intro pins s σ H v u Q I r h
 exact wpAny_assign_Name (store_ok I hN hi hx r (fun s' I'=>⟨_,H,I',h⟩) hf)
def gSub (to ti:TE) (t:TSet):TG:=fun v σ H Q=>to σ H fun o H1=>ti σ H1 fun i H2=>t o i v H2 fun H3=>Q σ H3
theorem pg_sub {o i:Expr} {to ti:TE} {t:TSet} (ho:PE X o to) (hi:PE X i ti) (hs:PSet X t)
  (ha:∀ v,assign (.Subscript o i pos) X.env v=(do
   let ov <-holding [v] (eval o X.env)
   let iv <-holding [v,ov] (eval i X.env)
   standAt pos
   holding [v,ov,iv] (setItem ov iv v)
   release [v,ov,iv] []):=by intro _;rfl):PG X (.Subscript o i pos) (gSub to ti t):=by
 intro pins s σ H v u Q I r h
 rw [ha]
 refine wpAny_bind (wpAny_holding (thn (ho pins s σ H _ I h) fun ov s1 ⟨x,H1,I1,r1,q1⟩=>?_))
 refine wpAny_bind (wpAny_holding (thn (hi pins s1 σ H1 _ I1 q1) fun iv s2 ⟨y,H2,I2,r2,q2⟩=>?_))
 refine wpAny_bind (wpAny_standAt (wpAny_bind (wpAny_holding (thn (hs pins s2 σ H2 x y v ov iv u _ I2 r1 r2 r q2) fun _ s3 ⟨H3,I3,q3⟩=>?_))))
 exact wpAny_release ⟨σ,H3,I3,q3⟩
def tAsg (te:TE) (g:TG):TS:=fun D σ H=>te σ H fun x H1=>g x σ H1 D.nx
theorem ps_asg {tg e:Expr} {te:TE} {g:TG} (he:PE X e te) (hg:PG X tg g) (hs:swapsWithSole [tg] e pos.line X.env=pure false:=by rfl) (hw:swappedStores [tg] e X.env=pure none:=by rfl)
  (h1:(assignEach [tg] X.env).map (·.2)=[assign tg X.env]:=by rfl):PS X (.Assign [tg] e pos) (tAsg te g):=by
 intro pins s σ H D I h
 refine wpAny_Assign_stores (thn (he pins s σ H _ I h) fun v s1 ⟨x,H1,I1,r1,q1⟩=>?_) hs hw
 rw [h1]
 exact thn (hg pins s1 σ H1 x v _ I1 r1 q1) fun _ s2 q=>q
end
section
variable {X:Cx} {pos:Pos}
end
structure It where
 go:Nat->Hp->Prop
 yld:Nat->Hp->V->Hp->Prop
 stop:Nat->Hp->Prop
def FpOk (X:Cx) (pins:List (Addr×Obj)) (H:Hp) (b:Addr):Prop:=
 H b=none/\b≠X.env.locals/\b ∉ X.fs/\(b∈X.ex\/X.s₀.heap.objs.size<=b)/\(∀ x c,X.env.cells.lookup x=some c->c≠b)/\∀ p∈X.pn++pins,p.1≠b
theorem Inv.fpOk {X:Cx} {pins:List (Addr×Obj)} {σ:St} {H H':Hp} {s:Shared} {b:Addr} (I:Inv X pins σ H s) (hb:s.heap.objs.size<=b) (hn:H' b=none):FpOk X pins H' b:=by
 refine ⟨hn,Nat.ne_of_gt (Nat.lt_of_lt_of_le I.lt hb),I.nofs hb,.inr (Nat.le_trans I.sz hb),fun x c e z=>?_,fun p hp z=>?_⟩
 ·obtain ⟨v,q⟩:=I.cell x c e
  exact absurd (Nat.lt_of_lt_of_le q.lt (by rw [z];exact hb)) (Nat.lt_irrefl _)
 ·exact absurd (Nat.lt_of_lt_of_le (Heap.lt_size (I.pin p hp).1) (by rw [z];exact hb)) (Nat.lt_irrefl _)
structure Turn (P:Program) (w:World) (K:PySem.W.Frag) (tg:Expr) (J:It) (fp:List Addr) (it:Addr) (tn:Nat->Heap->Prop):Prop where
 mem:it∈fp
 obj:∀ i h,tn i h->∀ b∈fp,∃ o,h.get? b=some o/\∀ v,o.data≠.cell v
 keep:∀ i h h',tn i h->(∀ b∈fp,∀ o,h.get? b=some o->h'.get? b=some o)->tn i h'
 item:∀ (X:Cx),X.prog=P->X.w=w->X.K=K->X.calm=true->∀ (i:Nat) (pins:List (Addr×Obj)) (s:Shared) (σ:St) (H:Hp) (E:Value->Shared->Prop),Inv X pins σ H s->(∀ b∈fp,FpOk X pins H b)->tn i s.heap->J.go i H →
  wpAny (model P w) X.A (pyNext (.ref it)) (fun r s1=>∃ u,r=some u ∧
   wpAny (model P w) X.A (letOwnedTupleGo tg (.ref it) u) (fun _ s2=>∃ x H',Inv X pins σ H' s2/\RelV x u/\J.yld i H x H'/\tn (i+1) s2.heap/\∀ b∈fp,H' b=none) E s1) E s
 done:∀ (X:Cx),X.prog=P->X.w=w->X.K=K->X.calm=true->∀ (i:Nat) (pins:List (Addr×Obj)) (s:Shared) (σ:St) (H:Hp) (E:Value->Shared->Prop),Inv X pins σ H s->(∀ b∈fp,FpOk X pins H b)->tn i s.heap->J.stop i H →
  wpAny (model P w) X.A (pyNext (.ref it)) (fun r s1=>r=none/\Inv X pins σ H s1) E s
 self:∀ (A:Around) (i:Nat) (s:Shared) (Q:Value->Shared->Prop) (E:Value->Shared->Prop),tn i s.heap->Q (.ref it) s->wpAny (model P w) A (pyIter (.ref it)) Q E s
abbrev TI:=St->Hp->(It->Hp->Prop)->Prop
def PIE (X:Cx) (pins:List (Addr×Obj)) (σ:St) (tg:Expr) (R:It->Hp->Prop) (itv:Value) (s2:Shared):Prop:=
 ∃ (it:Addr) (fp:List Addr) (tn:Nat->Heap->Prop) (J:It) (H':Hp),itv = .ref it/\Inv X pins σ H' s2/\Turn X.prog X.w X.K tg J fp it tn/\tn 0 s2.heap/\(∀ b∈fp,FpOk X pins H' b)/\R J H'
def PI (X:Cx) (tg iter:Expr) (wi:TI):Prop:=
 ∀ (pins:List (Addr×Obj)) (s:Shared) (σ:St) (H:Hp) (R:It->Hp->Prop),Inv X pins σ H s->wi σ H R →
  wpAny (model X.prog X.w) X.A (eval iter X.env) (fun v s1=>wpAny (model X.prog X.w) X.A (pyIter v) (PIE X pins σ tg R) X.xe s1) X.xe s
theorem go_of {M:Model} {A:Around} {E:Value->Shared->Prop} {s:Shared} {tg:Expr} {it:Addr} {u:Value} {o:Obj} {n:String} {vs:Array Value} {Q:Unit->Shared->Prop} (ho:s.heap.get? it=some o) (hc:o.cls = .type n) (hd:o.data = .fields vs)
  (hn:["enumerate","zip","dict_itemiterator","dict_reverseitemiterator","odict_iterator","itertools.zip_longest","itertools.pairwise"].contains n=false) (hQ:Q () s):wpAny M A (letOwnedTupleGo tg (.ref it) u) Q E s:=by
 unfold letOwnedTupleGo
 cases tg<;>first
  | exact wpAny_pure hQ
  | (cases u<;>first
    | exact wpAny_pure hQ
    | (refine wpAny_bind (wpAny_load ho ?_)
       rw [hc,hd]
       show wpAny M A (if (["enumerate","zip","dict_itemiterator","dict_reverseitemiterator","odict_iterator","itertools.zip_longest","itertools.pairwise"].contains n && vs[0]? == some (rawInt _))=true then _ else _) Q E s
       rw [if_neg (by intro h;rw [hn,Bool.false_and] at h;cases h)]
       exact wpAny_pure hQ))
def Itl (K:PySem.W.Frag) (a:Addr):It:=
 ⟨fun i H=>∃ xs x,SqL K H a xs/\xs[i]? = some x,fun i H x H'=>H'=H/\∀ xs,SqL K H a xs->xs[i]? = some x,fun i H=>∃ xs,SqL K H a xs/\xs.length<=i⟩
def Itr (lo:Int) (n:Nat):It:=⟨fun i _=>i < n,fun i H x H'=>H'=H/\x = .int (lo+i),fun i _=>n<=i⟩
theorem turn_list {P:Program} {w:World} {K:PySem.W.Frag} {tg:Expr} (a it:Addr):Turn P w K tg (Itl K a) [it] it (fun i h=>h.IsListIter it a i) where
 mem:=by simp
 obj:=fun i h st b hb=>by
  have e:b=it:=by simpa using hb
  subst e
  obtain ⟨o,e,c,d⟩:=st
  exact ⟨o,e,fun v z=>by rw [d] at z;cases z⟩
 keep:=fun i h h' st k=>st.at fun o e=>k it (by simp) o e
 item:=by
  intro X hP hw hK hc i pins s σ H E I hf st hg
  subst hP hw hK
  obtain ⟨xs,x,hq,hx⟩:=hg
  obtain ⟨its,rv,p,hz⟩:=I.list hq
  obtain ⟨u,hu,ru⟩:=rv.get hx
  obtain ⟨f0,f1,f2,f3,f4,f5⟩:=hf it (by simp)
  refine wpAny_pyNext_list_item st p.isList (x:=u) (by simpa using hu) fun h' st' sb=>?_
  have I1:Inv X pins σ H { s with heap:=h' }:=I.turned (t':=s.toks) (fun b o hb e=>(sb.2 b hb).trans e) f0 f1 f3 f4 f5
  obtain ⟨o,e,c,d⟩:=id st'
  exact ⟨u,rfl,go_of (s:={ s with heap:=h' }) e c d (by decide) ⟨x,H,I1,ru,⟨rfl,fun ys hy=>by rw [I.list_inj hy hq];exact hx⟩,st',fun b hb=>(hf b hb).1⟩⟩
 done:=by
  intro X hP hw hK hc i pins s σ H E I hf st hg
  subst hP hw hK
  obtain ⟨xs,hq,hx⟩:=hg
  obtain ⟨its,rv,p,hz⟩:=I.list hq
  obtain ⟨f0,f1,f2,f3,f4,f5⟩:=hf it (by simp)
  have hl:=rv.length
  exact wpAny_pyNext_list_end (I.ok.hd hc) st p.isList (by simp;omega) fun h' eb=>⟨rfl,I.turned (t':=s.toks) (fun b o hb e=>eb b o hb e) f0 f1 f3 f4 f5⟩
 self:=fun _ _ _ _ _ st h=>wpAny_pyIter_listiter st h
theorem turn_range {P:Program} {w:World} {K:PySem.W.Frag} {tg:Expr} (it:Addr) (lo:Int) (n:Nat):Turn P w K tg (Itr lo n) [it] it (fun i h=>IsRangeIter h it (lo+(i:Nat) * 1) ((n:Int) - (i:Nat)) 1) where
 mem:=by simp
 obj:=fun i h st b hb=>by
  have e:b=it:=by simpa using hb
  subst e
  exact ⟨_,st,fun v z=>by
   have z':Data.fields _=Data.cell v:=z
   cases z'⟩
 keep:=fun i h h' st k=>k it (by simp) _ st
 item:=by
  intro X hP hw hK hc i pins s σ H E I hf st hg
  subst hP hw hK
  obtain ⟨f0,f1,f2,f3,f4,f5⟩:=hf it (by simp)
  have W:=Walks.range (prog:=X.prog) (w:=X.w) (I.ok.hd hc) it lo 1 n
  refine W.item i s _ _ hg st fun v h' tk hv st' kk=>?_
  obtain ⟨t,rfl⟩:=hv
  have I1:Inv X pins σ H { s with heap:=h',toks:=tk }:=I.turned (fun b o hb e=>kk b o (by simpa using hb) e) f0 f1 f3 f4 f5
  refine ⟨_,rfl,go_of (s:={ s with heap:=h',toks:=tk }) (n:= "range_iterator") st' rfl rfl (by decide) ⟨.int (lo+i),H,I1,⟨t,?_⟩,⟨rfl,rfl⟩,st',fun b hb=>(hf b hb).1⟩⟩
  rw [Int.mul_one]
 done:=by
  intro X hP hw hK hc i pins s σ H E I hf st hg
  subst hP hw hK
  obtain ⟨f0,f1,f2,f3,f4,f5⟩:=hf it (by simp)
  exact wpAny_pyNext_range_end (I.ok.hd hc) st (by have:n<=i:=hg;omega) fun h' eb=>⟨rfl,I.turned (t':=s.toks) (fun b o hb e=>eb b o hb e) f0 f1 f3 f4 f5⟩
 self:=fun _ _ _ _ _ st h=>wpAny_pyIter_rangeiter st h
end L2
namespace L2
open PySem PySem.Spec PyProof.Rows
section
variable {X:Cx} {tg:Expr}
theorem range_it {pins:List (Addr×Obj)} {σ:St} {H:Hp} {s:Shared} {R:It->Hp->Prop} {E:Value->Shared->Prop} {lo hi:Int} {t u v:Tok} {tk:Nat} (I:Inv X pins σ H s) (h1 : -(2 ^ 62)<=lo) (h2:lo < 2 ^ 62) (h3 : -(2 ^ 62)<=hi) (h4:hi < 2 ^ 62)
  (q:R (Itr lo (hi - lo).toNat) H):wpAny (model X.prog X.w) X.A (pyIter (.ref s.heap.objs.size)) (PIE X pins σ tg R) E { s with heap:=s.heap.push { cls:=.type "range",data:=.fields #[.int lo t,.int hi u,.int 1 v] },toks:=tk }:=by
 refine wpAny_pyIter_range (IsRange.new ..) (small_one h1 h2 h3 h4) ?_
 have I1:Inv X pins σ H { s with heap:=s.heap.push { cls:=.type "range",data:=.fields #[.int lo t,.int hi u,.int 1 v] },toks:=tk }:=I.kept fun b o e=>Heap.get?_push_of_some _ e
 refine ⟨(s.heap.push { cls:=.type "range",data:=.fields #[.int lo t,.int hi u,.int 1 v] }).objs.size,[(s.heap.push { cls:=.type "range",data:=.fields #[.int lo t,.int hi u,.int 1 v] }).objs.size],_,_,H,rfl,
  I1.kept (t':=tk) fun b o e=>Heap.get?_push_of_some _ e,turn_range _ lo (hi - lo).toNat,?_,fun b hb=>?_,q⟩
 ·have e1:lo+((0:Nat):Int) * 1=lo:=by simp
  have e2:(((hi - lo).toNat:Nat):Int) - ((0:Nat):Int)=Builtin.Range.rangeSize lo hi 1:=by rw [rangeSize_one];split<;>omega
  show IsRangeIter _ _ (lo+((0:Nat):Int) * 1) ((((hi - lo).toNat:Nat):Int) - ((0:Nat):Int)) 1
  rw [e1,e2]
  exact Heap.get?_push_size _ rfl
 ·have e:b=(s.heap.push { cls:=.type "range",data:=.fields #[.int lo t,.int hi u,.int 1 v] }).objs.size:=by simpa using hb
  subst e
  exact I1.fpOk (Nat.le_refl _) (I1.hok.fresh (Nat.le_refl _))
def tFor (wi:TI) (g:TG) (tb:TS):TS:=fun D σ H=>wi σ H fun J H1=>∃ W:Nat->Nat->St->Hp->Prop,(∃ m,W 0 m σ H1)/\∀ i m σ H,W i m σ H →
 (J.stop i H/\D.nx σ H)\/(J.go i H/\∃ N:St->Hp->Prop,(∀ σ' H',N σ' H'->∃ m',m' < m/\W (i+1) m' σ' H')/\∀ x H',J.yld i H x H'->g x σ H' fun σ2 H2=>tb { D with nx:=N,ct:=N,bk:=D.nx } σ2 H2)
def pinsAt (fp:List Addr) (h:Heap):List (Addr×Obj):=fp.filterMap fun b=>(h.get? b).map fun o=>(b,o)
theorem mem_pinsAt {fp:List Addr} {h:Heap} {b:Addr} {o:Obj} (hb:b∈fp) (e:h.get? b=some o):(b,o)∈pinsAt fp h:=List.mem_filterMap.mpr ⟨b,hb,by rw [e];rfl⟩
theorem of_pinsAt {fp:List Addr} {h:Heap} {p:Addr×Obj} (hp:p∈pinsAt fp h):p.1∈fp/\h.get? p.1=some p.2:=by
 obtain ⟨b,hb,e⟩:=List.mem_filterMap.mp hp
 cases q:h.get? b with
 | none=>rw [q] at e;cases e
 | some o=>
  rw [q] at e
  have e':(b,o)=p:=Option.some.inj e
  subst e'
  exact ⟨hb,q⟩
theorem Inv.pinned {pins:List (Addr×Obj)} {σ:St} {H:Hp} {s:Shared} {fp:List Addr} (I:Inv X pins σ H s) (hf:∀ b∈fp,FpOk X pins H b) (ho:∀ b∈fp,∃ o,s.heap.get? b=some o/\∀ v,o.data≠.cell v):Inv X (pins++pinsAt fp s.heap) σ H s:=
 I.pins_of fun p hp=>(List.mem_append.mp hp).elim (fun z=>I.pin p (List.mem_append_right _ z)) fun z=>by
  obtain ⟨hb,e⟩:=of_pinsAt z
  obtain ⟨f0,f1,f2,_⟩:=hf p.1 hb
  obtain ⟨o,e',d⟩:=ho p.1 hb
  rw [e] at e';cases e'
  exact ⟨e,f0,f1,f2,d⟩
theorem Inv.unpinned {pins pl:List (Addr×Obj)} {σ:St} {H:Hp} {s:Shared} (I:Inv X (pins++pl) σ H s):Inv X pins σ H s:=I.pins_of fun p hp=>I.pin p (List.mem_append_right _ (List.mem_append_left _ hp))
theorem ps_for {iter:Expr} {body:List Stmt} {wi:TI} {g:TG} {tb:TS} {pos:Pos} (hp:PassesOwn (model X.prog X.w) X.A X.env X.xe) (hc:X.calm=true) (hi:PI X tg iter wi) (hg:PG X tg g) (hb:PSs X body tb)
  (hs:∀ x,foldedSetIterable iter X.env x=pure x:=by intro _;rfl):PS X (.For tg iter body [] pos) (tFor wi g tb):=by
 intro pins s σ H D I h
 refine wpAny_For (thn (hi pins s σ H _ I h) fun v s1 h1=>thn h1 fun itv s2 h2=>?_) hs
 obtain ⟨it,fp,tn,J,H2,e,I2,T,st2,f2,W,⟨m0,w0⟩,turn⟩:=h2
 subst e
 have stat:∀ {H':Hp},(∀ b∈fp,H' b=none)->∀ b∈fp,FpOk X pins H' b:=fun hn b hb=>⟨hn b hb,(f2 b hb).2⟩
 refine codeAny_forLoop_any (fun n s'=>∃ i σ' H',Inv X pins σ' H' s'/\tn i s'.heap/\(∀ b∈fp,H' b=none)/\W i n σ' H') ?_ m0 ⟨0,σ,H2,I2,st2,fun b hb=>(f2 b hb).1,w0⟩
 rintro n s3 ⟨i,σ3,H3,I3,st3,fr3,w3⟩
 rcases turn i n σ3 H3 w3 with ⟨stop,qn⟩ | ⟨go,N,hN,step⟩
 ·refine wpAny_passesOwn hp (thn (T.done X rfl rfl rfl hc i pins s3 σ3 H3 X.xe I3 (stat fr3) st3 stop) fun r s4 ⟨hr,I4⟩=>?_)
  subst hr
  exact wpAny_execs_nil ⟨σ3,H3,I4,qn⟩
 ·refine wpAny_passesOwn hp (thn (T.item X rfl rfl rfl hc i pins s3 σ3 H3 X.xe I3 (stat fr3) st3 go) fun r s4 ⟨u,hr,h4⟩=>?_)
  subst hr
  refine wpAny_passesOwn hp (thn h4 fun _ s5 ⟨x,H5,I5,r5,y5,st5,fr5⟩=>?_)
  have I5':=I5.pinned (stat fr5) (T.obj _ _ st5)
  refine wpAny_passesOwn hp (thn (hg _ s5 σ3 H5 x u _ I5' r5 (step x H5 y5)) fun _ s6 ⟨σ6,H6,I6,q6⟩=>?_)
  refine wpAny_passesOwn hp (thn (hb _ s6 σ6 H6 _ I6 q6) fun f s7 q7=>?_)
  have again:∀ {σ7:St} {H7:Hp},Inv X (pins++pinsAt fp s5.heap) σ7 H7 s7->N σ7 H7->∃ m,m < n/\∃ i σ' H',Inv X pins σ' H' s7/\tn i s7.heap/\(∀ b∈fp,H' b=none)/\W i m σ' H':=fun {σ7 H7} I7 n7=>by
   obtain ⟨m',hm,w7⟩:=hN σ7 H7 n7
   refine ⟨m',hm,i+1,σ7,H7,I7.unpinned,T.keep _ _ _ st5 fun b hb o e=>(I7.pin (b,o) (List.mem_append_right _ (List.mem_append_right _ (mem_pinsAt hb e)))).1,fun b hb=>?_,w7⟩
   obtain ⟨o,e,d⟩:=T.obj _ _ st5 b hb
   exact (I7.pin (b,o) (List.mem_append_right _ (List.mem_append_right _ (mem_pinsAt hb e)))).2.1
  cases f with
  | next=>obtain ⟨σ7,H7,I7,n7⟩:=q7;exact again I7 n7
  | cont=>obtain ⟨σ7,H7,I7,n7⟩:=q7;exact again I7 n7
  | brk=>obtain ⟨σ7,H7,I7,q7⟩:=q7;exact ⟨σ7,H7,I7.unpinned,q7⟩
  | ret v=>obtain ⟨x7,σ7,H7,I7,r7,q7⟩:=q7;exact ⟨x7,σ7,H7,I7.unpinned,r7,q7⟩
end
end L2
namespace L2
open PySem PySem.Spec PyProof.Rows
abbrev R2:=V->V->Hp->VK->Prop
def OpR (X:Cx) (f:Value->Value->Sem Value) (r:R2):Prop:=
 ∀ (pins:List (Addr×Obj)) (s:Shared) (σ:St) (H:Hp) (x y:V) (v u:Value) (Q:VK),Inv X pins σ H s->RelV x v->RelV y u->r x y H Q →
  wpAny (model X.prog X.w) X.A (f v u) (EP X pins σ Q) X.xe s
def UnR (X:Cx) (f:Value->Sem Value) (r:V->Hp->VK->Prop):Prop:=
 ∀ (pins:List (Addr×Obj)) (s:Shared) (σ:St) (H:Hp) (x:V) (v:Value) (Q:VK),Inv X pins σ H s->RelV x v->r x H Q →
  wpAny (model X.prog X.w) X.A (f v) (EP X pins σ Q) X.xe s
def CallR (X:Cx) (f:Value) (r:List V->Hp->VK->Prop):Prop:=
 ∀ (pins:List (Addr×Obj)) (s:Shared) (σ:St) (H:Hp) (xs:List V) (us:List Value) (Q:VK),Inv X pins σ H s->Vals xs us->r xs H Q →
  wpAny (model X.prog X.w) X.A (call f us) (EP X pins σ Q) X.xe s
def TruR (X:Cx) (r:V->Hp->(Bool->Hp->Prop)->Prop):Prop:=
 ∀ (pins:List (Addr×Obj)) (s:Shared) (σ:St) (H:Hp) (x:V) (v:Value) (Q:Bool->Hp->Prop),Inv X pins σ H s->RelV x v->r x H Q →
  wpAny (model X.prog X.w) X.A (truthy v) (TP X pins σ Q) X.xe s
def tOp (r:R2) (ta tb:TE):TE:=fun σ H Q=>ta σ H fun x H1=>tb σ H1 fun y H2=>r x y H2 Q
def tUn (r:V->Hp->VK->Prop) (ta:TE):TE:=fun σ H Q=>ta σ H fun x H1=>r x H1 Q
def rI (C:Int->Int->Prop) (g:Int->Int->V):R2:=fun x y H Q=>∃ i j,x = .int i/\y = .int j/\C i j/\Q (g i j) H
def rI0 (g:Int->Int->V):R2:=fun x y H Q=>∃ i j,x = .int i/\y = .int j/\Q (g i j) H
def rU (g:Int->V):V->Hp->VK->Prop:=fun x H Q=>∃ i,x = .int i/\Q (g i) H
section
variable {X:Cx} {a b c:Expr} {ta tb tc:TE} {pos:Pos}
theorem binT (ha:PE X a ta) (hb:PE X b tb) {pins:List (Addr×Obj)} {s:Shared} {σ:St} {H:Hp} {R:V->V->Hp->Prop} (I:Inv X pins σ H s)
  (h:ta σ H fun x H1=>tb σ H1 fun y H2=>R x y H2) {Q:Value->Shared->Prop} {f:Value->Value->Sem Value}
  (hf:∀ v u s2 x y H2,Inv X pins σ H2 s2->RelV x v->RelV y u->R x y H2->wpAny (model X.prog X.w) X.A (f v u) Q X.xe s2) :
  wpAny (model X.prog X.w) X.A (eval a X.env) (fun v s₁=>wpAny (model X.prog X.w) X.A (eval b X.env) (fun u s₂=>wpAny (model X.prog X.w) X.A (f v u) Q X.xe s₂) X.xe s₁) X.xe s:=by
 refine thn (ha pins s σ H _ I h) fun v s1 ⟨x,H1,I1,r1,q1⟩=>?_
 refine thn (hb pins s1 σ H1 _ I1 q1) fun u s2 ⟨y,H2,I2,r2,q2⟩=>?_
 exact hf v u s2 x y H2 I2 r1 r2 q2
theorem pe_op {op:Operator} {r:R2} (ho:OpR X (binaryOp op) r) (ha:PE X a ta) (hb:PE X b tb):PE X (.BinOp a op b pos) (tOp r ta tb):=by
 intro pins s σ H Q I h
 exact wpAny_BinOp (binT ha hb I h fun v u s2 x y H2 I2 rx ry q=>ho pins s2 σ H2 x y v u Q I2 rx ry q)
theorem pe_un {op:UnaryOp} {r:V->Hp->VK->Prop} (ho:UnR X (unaryOp op) r) (ha:PE X a ta):PE X (.UnaryOp op a pos) (tUn r ta):=by
 intro pins s σ H Q I h
 exact UnaryOp_ (thn (ha pins s σ H _ I h) fun v s1 ⟨x,H1,I1,r1,q1⟩=>ho pins s1 σ H1 x v Q I1 r1 q1)
theorem opI {f:Value->Value->Sem Value} {C:Int->Int->Prop} {g:Int->Int->Int}
  (rule:∀ (i j:Int) (t u:Tok) (s:Shared) (Q:Value->Shared->Prop) (E:Value->Shared->Prop),C i j->Q (.int (g i j) s.toks) { s with toks:=s.toks+1 }->wpAny (model X.prog X.w) X.A (f (.int i t) (.int j u)) Q E s) :
  OpR X f (rI C fun i j=>.int (g i j)):=by
 intro pins s σ H x y v u Q I rx ry h
 obtain ⟨i,j,rfl,rfl,hc,q⟩:=h
 obtain ⟨t,rfl⟩:=rx
 obtain ⟨t',rfl⟩:=ry
 exact rule i j t t' s _ _ hc ⟨.int (g i j),H,I.tok _,⟨_,rfl⟩,q⟩
theorem opI0 {f:Value->Value->Sem Value} {g:Int->Int->Int}
  (rule:∀ (i j:Int) (t u:Tok) (s:Shared) (Q:Value->Shared->Prop) (E:Value->Shared->Prop),Q (.int (g i j) s.toks) { s with toks:=s.toks+1 }->wpAny (model X.prog X.w) X.A (f (.int i t) (.int j u)) Q E s) :
  OpR X f (rI0 fun i j=>.int (g i j)):=by
 intro pins s σ H x y v u Q I rx ry h
 obtain ⟨i,j,rfl,rfl,q⟩:=h
 obtain ⟨t,rfl⟩:=rx
 obtain ⟨t',rfl⟩:=ry
 exact rule i j t t' s _ _ ⟨.int (g i j),H,I.tok _,⟨_,rfl⟩,q⟩
theorem opB0 {f:Value->Value->Sem Value} {g:Int->Int->Bool}
  (rule:∀ (i j:Int) (t u:Tok) (s:Shared) (Q:Value->Shared->Prop) (E:Value->Shared->Prop),Q (.bool (g i j)) s->wpAny (model X.prog X.w) X.A (f (.int i t) (.int j u)) Q E s) :
  OpR X f (rI0 fun i j=>.bl (g i j)):=by
 intro pins s σ H x y v u Q I rx ry h
 obtain ⟨i,j,rfl,rfl,q⟩:=h
 obtain ⟨t,rfl⟩:=rx
 obtain ⟨t',rfl⟩:=ry
 exact rule i j t t' s _ _ ⟨.bl (g i j),H,I,rfl,q⟩
def CDiv (i j:Int):Prop:=0 < j/\j < 1073741824
def CPow (i j:Int):Prop:=0<=j/\j<=1000000/\i.natAbs < 2 ^ 64
def CMul (i j:Int):Prop:=(-(2 ^ 64) < i/\i < 2 ^ 64)\/(-(2 ^ 64) < j/\j < 2 ^ 64)
theorem CMul.ok {i j:Int} (h:CMul i j):IntMulOk i j:=by
 rcases h with ⟨h1,h2⟩ | ⟨h1,h2⟩
 ·exact .of_left (intBits_le_64 h1 h2)
 ·exact .of_right (intBits_le_64 h1 h2)
theorem op_add:OpR X (binaryOp .Add) (rI0 fun i j=>.int (i+j)):=opI0 fun _ _ _ _ _ _ _ q=>add_int q
theorem op_sub:OpR X (binaryOp .Sub) (rI0 fun i j=>.int (i - j)):=opI0 fun _ _ _ _ _ _ _ q=>sub_int q
theorem op_mul:OpR X (binaryOp .Mult) (rI CMul fun i j=>.int (i * j)):=opI fun _ _ _ _ _ _ _ hc q=>mul_int q hc.ok
theorem op_fdiv:OpR X (binaryOp .FloorDiv) (rI CDiv fun i j=>.int (i / j)):=opI fun i j _ _ _ _ _ hc q=>by
 have h1:(0:Int) < j:=hc.1
 have h2:j < 1073741824:=hc.2
 exact floordiv_int (by omega) (by rw [Int.fdiv_eq_ediv_of_nonneg i (by omega)];exact q) (.inl (PyProof.noPylong_small (by omega)))
theorem op_mod:OpR X (binaryOp .Mod) (rI (fun _ j=>0 < j) fun i j=>.int (i % j)):=opI fun i j _ _ _ _ _ hc q=>by
 have h1:(0:Int) < j:=hc
 exact mod_int' (by omega) (by rw [Int.fmod_eq_emod_of_nonneg i (by omega)];exact q)
theorem op_pow:OpR X (binaryOp .Pow) (rI CPow fun i j=>.int (i ^ j.toNat)):=opI fun _ _ _ _ _ _ _ hc q=>pow_int_small hc.1 hc.2.1 hc.2.2 q
theorem op_shl:OpR X (binaryOp .LShift) (rI CPow fun i j=>.int (i * 2 ^ j.toNat)):=opI fun _ _ _ _ _ _ _ hc q=>lshift_int_small hc.1 hc.2.1 hc.2.2 q
theorem unI {f:Value->Sem Value} {g:Int->Int}
  (rule:∀ (i:Int) (t:Tok) (s:Shared) (Q:Value->Shared->Prop) (E:Value->Shared->Prop),Q (.int (g i) s.toks) { s with toks:=s.toks+1 }->wpAny (model X.prog X.w) X.A (f (.int i t)) Q E s) :
  UnR X f (rU fun i=>.int (g i)):=by
 intro pins s σ H x v Q I rx h
 obtain ⟨i,rfl,q⟩:=h
 obtain ⟨t,rfl⟩:=rx
 exact rule i t s _ _ ⟨.int (g i),H,I.tok _,⟨_,rfl⟩,q⟩
theorem un_neg:UnR X (unaryOp .USub) (rU fun i=>.int (-i)):=unI fun _ _ _ _ _ q=>neg_int q
end
def scal:V->V->Bool
 | .non,.non=>true | .non,.int _=>true | .int _,.non=>true | .non,.bl _=>true | .bl _,.non=>true | .non,.str _=>true | .str _,.non=>true
 | .int _,.int _=>true | .bl _,.bl _=>true | .str _,.str _=>true | .byt _,.byt _=>true
 | .int _,.str _=>true | .str _,.int _=>true | .bl _,.str _=>true | .str _,.bl _=>true
 | _,_=>false
def rEq:R2:=fun x y H Q=>scal x y=true/\Q (.bl (decide (x=y))) H
def rNe:R2:=fun x y H Q=>scal x y=true/\Q (.bl (!decide (x=y))) H
theorem dec_int {i j:Int}:decide (V.int i=V.int j)=(i == j):=by
 rw [Bool.eq_iff_iff]
 simp
theorem dec_bl {i j:Bool}:decide (V.bl i=V.bl j)=(i == j):=by
 rw [Bool.eq_iff_iff]
 simp
theorem dec_str {i j:Str}:decide (V.str i=V.str j)=(i == j):=by
 rw [Bool.eq_iff_iff]
 simp
theorem dec_byt {i j:Array UInt8}:decide (V.byt i=V.byt j)=(i.toList == j.toList):=by
 rw [Bool.eq_iff_iff]
 cases i
 cases j
 simp
section
variable {X:Cx} {a b c:Expr} {ta tb tc:TE} {pos:Pos}
theorem fin_bl {pins:List (Addr×Obj)} {σ:St} {H:Hp} {s:Shared} {Q:VK} {k k':Bool} (I:Inv X pins σ H s) (q:Q (.bl k) H) (e:k=k'):EP X pins σ Q (.bool k') s:=by
 subst e
 exact ⟨.bl k,H,I,rfl,q⟩
theorem op_eq:OpR X (compareOp .Eq) rEq:=by
 intro pins s σ H x y v u Q I rx ry h
 obtain ⟨hs,q⟩:=h
 cases x with
 | non=>
  cases rx
  cases y with
  | non=>cases ry;exact PySem.EqNone.eq_none_none (fin_bl I q (by simp))
  | bl j=>cases ry;exact PySem.EqNone.eq_none_bool (fin_bl I q (by simp))
  | int j=>obtain ⟨t',rfl⟩:=ry;exact PySem.EqNone.eq_none_int (fin_bl I q (by simp))
  | str j=>obtain ⟨t',rfl⟩:=ry;exact PySem.EqNone.eq_none_str (fin_bl I q (by simp))
  | _=>exact absurd (show false=true from hs) Bool.false_ne_true
 | bl i=>
  cases rx
  cases y with
  | non=>cases ry;exact PySem.EqNone.eq_bool_none (fin_bl I q (by simp))
  | bl j=>cases ry;exact eq_bool (fin_bl I q dec_bl)
  | str j=>obtain ⟨t',rfl⟩:=ry;exact PySem.EqMixed.eq_bool_str (fin_bl I q (by simp))
  | _=>exact absurd (show false=true from hs) Bool.false_ne_true
 | int i=>
  obtain ⟨t,rfl⟩:=rx
  cases y with
  | non=>cases ry;exact PySem.EqNone.eq_int_none (fin_bl I q (by simp))
  | int j=>obtain ⟨t',rfl⟩:=ry;exact eq_int (fin_bl I q dec_int)
  | str j=>obtain ⟨t',rfl⟩:=ry;exact PySem.EqMixed.eq_int_str (fin_bl I q (by simp))
  | _=>exact absurd (show false=true from hs) Bool.false_ne_true
 | str i=>
  obtain ⟨t,rfl⟩:=rx
  cases y with
  | non=>cases ry;exact PySem.EqNone.eq_str_none (fin_bl I q (by simp))
  | bl j=>cases ry;exact PySem.EqMixed.eq_str_bool (fin_bl I q (by simp))
  | int j=>obtain ⟨t',rfl⟩:=ry;exact PySem.EqMixed.eq_str_int (fin_bl I q (by simp))
  | str j=>obtain ⟨t',rfl⟩:=ry;exact eq_str (fin_bl I q dec_str)
  | _=>exact absurd (show false=true from hs) Bool.false_ne_true
 | byt i=>
  obtain ⟨t,rfl⟩:=rx
  cases y with
  | byt j=>obtain ⟨t',rfl⟩:=ry;exact PySem.W.eq_bytes (fin_bl I q dec_byt)
  | _=>exact absurd (show false=true from hs) Bool.false_ne_true
 | _=>cases y<;>exact absurd (show false=true from hs) Bool.false_ne_true
theorem op_ne:OpR X (compareOp .NotEq) rNe:=by
 intro pins s σ H x y v u Q I rx ry h
 obtain ⟨hs,q⟩:=h
 cases x with
 | non=>
  cases rx
  cases y with
  | non=>cases ry;exact PySem.EqNone.ne_none_none (fin_bl I q (by simp))
  | bl j=>cases ry;exact PySem.EqNone.ne_none_bool (fin_bl I q (by simp))
  | int j=>obtain ⟨t',rfl⟩:=ry;exact PySem.EqNone.ne_none_int (fin_bl I q (by simp))
  | str j=>obtain ⟨t',rfl⟩:=ry;exact PySem.EqNone.ne_none_str (fin_bl I q (by simp))
  | _=>exact absurd (show false=true from hs) Bool.false_ne_true
 | bl i=>
  cases rx
  cases y with
  | non=>cases ry;exact PySem.EqNone.ne_bool_none (fin_bl I q (by simp))
  | bl j=>cases ry;exact ne_bool (fin_bl I q (congrArg not dec_bl))
  | str j=>obtain ⟨t',rfl⟩:=ry;exact PySem.EqMixed.ne_bool_str (fin_bl I q (by simp))
  | _=>exact absurd (show false=true from hs) Bool.false_ne_true
 | int i=>
  obtain ⟨t,rfl⟩:=rx
  cases y with
  | non=>cases ry;exact PySem.EqNone.ne_int_none (fin_bl I q (by simp))
  | int j=>obtain ⟨t',rfl⟩:=ry;exact ne_int (fin_bl I q (congrArg not dec_int))
  | str j=>obtain ⟨t',rfl⟩:=ry;exact PySem.EqMixed.ne_int_str (fin_bl I q (by simp))
  | _=>exact absurd (show false=true from hs) Bool.false_ne_true
 | str i=>
  obtain ⟨t,rfl⟩:=rx
  cases y with
  | non=>cases ry;exact PySem.EqNone.ne_str_none (fin_bl I q (by simp))
  | bl j=>cases ry;exact PySem.EqMixed.ne_str_bool (fin_bl I q (by simp))
  | int j=>obtain ⟨t',rfl⟩:=ry;exact PySem.EqMixed.ne_str_int (fin_bl I q (by simp))
  | str j=>obtain ⟨t',rfl⟩:=ry;exact ne_str (fin_bl I q (congrArg not dec_str))
  | _=>exact absurd (show false=true from hs) Bool.false_ne_true
 | byt i=>
  obtain ⟨t,rfl⟩:=rx
  cases y with
  | byt j=>obtain ⟨t',rfl⟩:=ry;exact PySem.W.ne_bytes (fin_bl I q (congrArg not dec_byt))
  | _=>exact absurd (show false=true from hs) Bool.false_ne_true
 | _=>cases y<;>exact absurd (show false=true from hs) Bool.false_ne_true
theorem op_lt:OpR X (compareOp .Lt) (rI0 fun i j=>.bl (decide (i < j))):=opB0 fun _ _ _ _ _ _ _ q=>lt_int q
theorem op_le:OpR X (compareOp .LtE) (rI0 fun i j=>.bl (decide (i<=j))):=opB0 fun _ _ _ _ _ _ _ q=>le_int q
theorem op_gt:OpR X (compareOp .Gt) (rI0 fun i j=>.bl (decide (j < i))):=opB0 fun _ _ _ _ _ _ _ q=>gt_int q
theorem op_ge:OpR X (compareOp .GtE) (rI0 fun i j=>.bl (decide (j<=i))):=opB0 fun _ _ _ _ _ _ _ q=>ge_int q
theorem OpR.or {f:Value->Value->Sem Value} {r r':R2} (h:OpR X f r) (h':OpR X f r'):OpR X f (fun x y H Q=>r x y H Q\/r' x y H Q):=by
 intro pins s σ H x y v u Q I rx ry q
 rcases q with q | q
 ·exact h pins s σ H x y v u Q I rx ry q
 ·exact h' pins s σ H x y v u Q I rx ry q
theorem nomark (b:Expr) {op:CmpOp} (h:op≠.In:=by decide) (h2:op≠.NotIn:=by decide):behindInMarks op b=false:=by
 have e1:(op == CmpOp.In)=false:=by cases op<;>first | rfl | exact absurd rfl h
 have e2:(op == CmpOp.NotIn)=false:=by cases op<;>first | rfl | exact absurd rfl h2
 cases b<;>simp [behindInMarks,e1,e2]
theorem pe_cmpR {op:CmpOp} {r:R2} (ho:OpR X (compareOp op) r) (ha:PE X a ta) (hb:PE X b tb) (hm:behindInMarks op b=false):PE X (.Compare a [op] [b] pos) (tOp r ta tb):=by
 intro pins s σ H Q I h
 exact wpAny_Compare1 (binT ha hb I h fun v u s2 x y H2 I2 rx ry q=>ho pins s2 σ H2 x y v u Q I2 rx ry q) hm
def TruV (K:PySem.W.Frag) (x:V) (H:Hp) (k:Bool):Prop:=
 match x with
 | .non=>k=false
 | .bl b=>k=b
 | .int i=>k=(i != 0)
 | .str y=>y.length<=sizeLine/\k=((y.length:Int) != 0)
 | .byt y=>y.size<=sizeLine/\k=((y.size:Int) != 0)
 | .ref p=>(∃ xs,SqL K H p xs/\k=!xs.isEmpty)\/(∃ xs,SqT K H p xs/\k=!xs.isEmpty)\/∃ kvs,H p=some (.dK kvs)/\k=!kvs.isEmpty
 | _=>False
theorem isEmpty_kv {κ:Type} {kvs:List (κ×V)} {vs:List (κ×Value)} (r:KV kvs vs):(!vs.isEmpty)=!kvs.isEmpty:=by
 cases r<;>rfl
theorem isEmpty_of {xs:List V} {its:List Value} (r:Vals xs its):(!its.toArray.isEmpty)=!xs.isEmpty:=by
 cases r<;>simp
theorem line63:(sizeLine:Nat) < 2 ^ 63:=by rw [sizeLine_eq];decide
theorem tru_ok:TruR X (fun x H Q=>∃ k,TruV X.K x H k/\Q k H):=by
 intro pins s σ H x v Q I rx h
 obtain ⟨k,e,q⟩:=h
 have hl:=line63
 have hs:sizeLine=16777216:=sizeLine_eq
 cases x with
 | non=>
  cases rx
  have e':k=false:=e
  subst e'
  exact truthy_none ⟨H,I,q⟩
 | bl b=>
  cases rx
  have e':k=b:=e
  subst e'
  exact wpAny_truthy_bool ⟨H,I,q⟩
 | int i=>
  obtain ⟨t,rfl⟩:=rx
  have e':k=(i != 0):=e
  subst e'
  exact PySem.P.truthy_int ⟨H,I,q⟩
 | str y=>
  obtain ⟨t,rfl⟩:=rx
  obtain ⟨hy,e'⟩ : y.length<=sizeLine/\k=((y.length:Int) != 0):=e
  subst e'
  exact PySem.P.truthy_str (by omega) ⟨H,I.tok _,q⟩
 | byt y=>
  obtain ⟨t,rfl⟩:=rx
  obtain ⟨hy,e'⟩ : y.size<=sizeLine/\k=((y.size:Int) != 0):=e
  subst e'
  exact PySem.W.truthy_bytes (by omega) ⟨H,I.tok _,q⟩
 | ref p=>
  cases rx
  have e':(∃ xs,SqL X.K H p xs/\k=!xs.isEmpty)\/(∃ xs,SqT X.K H p xs/\k=!xs.isEmpty)\/∃ kvs,H p=some (.dK kvs)/\k=!kvs.isEmpty:=e
  rcases e' with ⟨xs,hx,e'⟩ | ⟨xs,hx,e'⟩ | ⟨kvs,hx,e'⟩
  ·subst e'
   obtain ⟨its,r,pl,hz⟩:=I.list hx
   have hlen:=r.length
   exact wpAny_truthy_list pl.isList (by simp only [List.size_toArray];omega) ⟨H,I.tok _,by rw [isEmpty_of r];exact q⟩
  ·subst e'
   obtain ⟨its,r,pl,hz⟩:=I.tuple hx
   have hlen:=r.length
   exact truthy_tuple pl (by simp only [List.size_toArray];omega) ⟨H,I.tok _,by rw [isEmpty_of r];exact q⟩
  ·subst e'
   obtain ⟨hz,hS,vs,r,m⟩ : kvs.length<=sizeLine/\(p == sysModules)=false/\∃ vs,KV kvs vs/\s.heap.DictOf (mixKind X.prog X.w) p vs:=I.hok p _ hx
   have hlen:kvs.length=vs.length:=Paired.length r
   exact wpAny_truthy_dict hS m (by omega) ⟨H,I.tok _,by rw [isEmpty_kv r];exact q⟩
 | _=>exact (show False from e).elim
theorem op_add_str:OpR X (binaryOp .Add) (fun x y H Q=>∃ i j,x = .str i/\y = .str j/\i.length+j.length<=sizeLine/\Q (.str (i++j)) H):=by
 intro pins s σ H x y v u Q I rx ry h
 obtain ⟨i,j,rfl,rfl,hz,q⟩:=h
 obtain ⟨t,rfl⟩:=rx
 obtain ⟨t',rfl⟩:=ry
 exact add_str (fun t' tk=>⟨.str (i++j),H,I.tok _,⟨_,rfl⟩,q⟩) hz
theorem vals1 {x:V} {us:List Value} (r:Vals [x] us):∃ u,us=[u]/\RelV x u:=by
 cases r with
 | cons r1 r2=>cases r2;exact ⟨_,rfl,r1⟩
theorem vals2 {x y:V} {us:List Value} (r:Vals [x,y] us):∃ u w',us=[u,w']/\RelV x u/\RelV y w':=by
 cases r with
 | cons r1 r2=>
  cases r2 with
  | cons r3 r4=>cases r4;exact ⟨_,_,rfl,r1,r3⟩
theorem call_max2 (hc:X.calm=true):CallR X (.builtin "max") (fun xs H Q=>∃ i j,xs=[.int i,.int j]/\Q (.int (if j > i then j else i)) H):=by
 intro pins s σ H xs us Q I r h
 obtain ⟨i,j,rfl,q⟩:=h
 obtain ⟨u,w',rfl,⟨t,rfl⟩,⟨t',rfl⟩⟩:=vals2 r
 refine max_two_ints (I.ok.hd hc) fun h' tk k=>⟨_,H,I.kept k,?_,q⟩
 by_cases hj:j > i
 ·rw [if_pos hj,if_pos hj];exact ⟨_,rfl⟩
 ·rw [if_neg hj,if_neg hj];exact ⟨_,rfl⟩
theorem call_min2 (hc:X.calm=true):CallR X (.builtin "min") (fun xs H Q=>∃ i j,xs=[.int i,.int j]/\Q (.int (if j < i then j else i)) H):=by
 intro pins s σ H xs us Q I r h
 obtain ⟨i,j,rfl,q⟩:=h
 obtain ⟨u,w',rfl,⟨t,rfl⟩,⟨t',rfl⟩⟩:=vals2 r
 refine min_two_ints (I.ok.hd hc) fun h' tk k=>⟨_,H,I.kept k,?_,q⟩
 by_cases hj:j < i
 ·rw [if_pos hj,if_pos hj];exact ⟨_,rfl⟩
 ·rw [if_neg hj,if_neg hj];exact ⟨_,rfl⟩
theorem call_int1:CallR X (.type "int") (fun xs H Q=>(∃ i,xs=[.int i]/\Q (.int i) H)\/∃ k,xs=[.bl k]/\Q (.int (if k then 1 else 0)) H):=by
 intro pins s σ H xs us Q I r h
 rcases h with ⟨i,rfl,q⟩ | ⟨k,rfl,q⟩
 ·obtain ⟨u,rfl,t,rfl⟩:=vals1 r
  exact call_int_int ⟨.int i,H,I,⟨_,rfl⟩,q⟩
 ·obtain ⟨u,rfl,r1⟩:=vals1 r
  cases r1
  exact call_int_bool ⟨.int (if k then 1 else 0),H,I.tok _,⟨_,rfl⟩,q⟩
end
end L2
namespace L2
open PySem PySem.Spec PyProof.Rows
structure ObjM (h:Heap) (x dx C:Addr) (mA:Str->Option Value):Prop where
 obj:h.get? x=some (PySem.W.instObj C dx)
 ns:h.Ns1 dx mA
 ne:dx≠x
theorem lookIn_ns {h:Heap} {dx:Addr} {mA:Str->Option Value} (n:h.Ns1 dx mA):∃ od,h.get? dx=some od/\∀ name,PySem.W.lookIn name od=some (mA name):=by
 obtain ⟨o,es,ep,ho,hd,hk,_,hm⟩:=n
 refine ⟨o,ho,fun name=>?_⟩
 have e:=hm name
 unfold nsFind findBy at e
 rw [<-Array.find?_toList] at e
 unfold PySem.W.lookIn
 rw [hd]
 dsimp only
 split
 ·rename_i y q
  rw [q] at e
  exact congrArg some e
 ·rename_i q
  rw [q] at e
  have a:es.toList.any (·.refKey)=false:=by
   rw [List.any_eq_false]
   intro y hy
   obtain ⟨z,t,hkey⟩:=hk y (Array.mem_toList_iff.mp hy)
   simp [DictEntry.refKey,hkey]
  have a':¬ es.toList.any (·.refKey)=true:=by rw [a];exact Bool.false_ne_true
  rw [if_neg a']
  exact congrArg some e
theorem ObjM.look {h:Heap} {x dx C:Addr} {mA:Str->Option Value} (I:ObjM h x dx C mA):∃ od,PySem.W.InstAt h x (PySem.W.instObj C dx) C (some od)/\∀ name,PySem.W.lookIn name od=some (mA name):=
 let ⟨od,ho,hl⟩:=lookIn_ns I.ns
 ⟨od,⟨I.obj,rfl,rfl,ho⟩,hl⟩
section
variable {prog:Program} {w:World} {A:Around} {E:Value->Shared->Prop} {s:Shared} {K:PySem.W.Frag} {x dx C f:Addr} {mA:Str->Option Value} {name:Str} {v:Value}
theorem get_map {expr:Bool} {Q:Value->Shared->Prop} (X:K.In s.heap) (I:ObjM s.heap x dx C mA) (hg:PySem.W.plainGet K C name=true) (hh:PySem.W.hasDictIn K C=true)
  (ha:PySem.W.findIn K (.ref C) name=some none) (hv:mA name=some v) (hv':PySem.W.handedIn v=true) (h:Q v { s with toks:=s.toks+1 }) :
  wpAny (model prog w) A (getAttr (.ref x) name expr) Q E s:=by
 obtain ⟨od,J,hl⟩:=I.look
 exact PySem.W.get_value X J (PySem.W.plainGet_of hg).1 (PySem.W.findObj_own hh ha rfl (by rw [hl,hv])) hv' h
theorem get_meth {pl:Sem Bool} {Q:Value×List Value->Shared->Prop} (X:K.In s.heap) (I:ObjM s.heap x dx C mA) (hg:PySem.W.plainGet K C name=true)
  (hf:PySem.W.findIn K (.ref C) name=some (some (.ref f))) (ht:PySem.W.isFn K (.ref f)=true) (hv:mA name=none) (h:Q (.ref f,[.ref x]) s) :
  wpAny (model prog w) A (getMethod (.ref x) name pl) Q E s:=by
 obtain ⟨od,J,hl⟩:=I.look
 exact PySem.W.method_fn X J (PySem.W.plainGet_of hg).1 (PySem.W.plainGet_of hg).2 hf (beq_iff_eq.mp ht) (by show (PySem.W.lookIn name od).map (·.isSome)=some false;rw [hl,hv];rfl) h
theorem set_map {ns:List Str} {Q:Unit->Shared->Prop} (X:K.In s.heap) (I:ObjM s.heap x dx C mA)
  (hs:PySem.W.findIn K (.ref C) "__setattr__" = some (some (.builtin "object.__setattr__"))) (hp:PySem.W.plainOver K C=true) (ht:PySem.W.takerIn K C name=some none) (hh:PySem.W.hasDictIn K C=true)
  (hw:PySem.Within mA ns) (hsz:ns.length<=sizeLine)
  (h:∀ h',ObjM h' x dx C (fun y=>if y=name then some v else mA y)->Heap.SameBut dx s.heap h'->Q () { s with heap:=h',toks:=s.toks+2 }) :
  wpAny (model prog w) A (setAttr (.ref x) name v) Q E s:=by
 obtain ⟨od,J,hl⟩:=I.look
 refine PySem.W.set_plain X J hs (PySem.W.osa_open (s:={ s with toks:=s.toks+1 }) (r:=none) X J hp ht fun b=>?_)
 obtain ⟨cd,hc,hd'⟩:=PySem.W.any_some hh
 have hx:s.heap.get? x=some ⟨.ref C,some dx,.plain,#[]⟩:=I.obj
 refine wpAny_bind (wpAny_pure (wpAny_bind (wpAny_bind (wpAny_loadPart hx (wpAny_bind (PySem.W.Looks.here (s:={ s with toks:=s.toks+1 }) (PySem.W.looks_clsIn X hc) ?_))))))
 rw [hd']
 refine wpAny_pure (a:=some dx) (wpAny_bind (wpAny_pure (wpAny_bind ?_)))
 refine wpAny_nsSet1 (s:={ s with toks:=s.toks+1 }) I.ns fun h' hn2 hs2=>?_
 obtain ⟨oD,esD,epD,hoD,hdD,hcD⟩:=hn2.count (PySem.Within.cons name v hw)
 refine wpAny_bind (wpAny_lookBehind hoD (by rw [hdD];exact pastItsLine_dict (Nat.le_trans hcD (by rw [List.length_cons];omega))) ?_)
 exact wpAny_pure (h _ ⟨(hs2.2 _ (Ne.symm I.ne)).trans I.obj,hn2,I.ne⟩ hs2)
theorem make_map {R:Result->Shared->Prop} {vs:List Value} {kw:List (Str×Value)} (X:K.In s.heap) (hm:PySem.W.makesIn K C=true)
  (hi:PySem.W.findIn K (.ref C) "__init__" = some (some (.ref f))) (hf:PySem.W.typeIn K (.ref f)=some (.type "function"))
  (h:codeAny (model prog w) (A.under (.builtin "type.__call__" ⟨.ref C :: vs,kw⟩)) (.call (.ref f) ⟨.ref (s.heap.objs.size+1) :: vs,kw⟩) (PySem.W.InitBack (s.heap.objs.size+1) R)
   { s with heap:=(s.heap.push PySem.W.emptyDict).push (PySem.W.instObj C s.heap.objs.size) }) :
  codeAny (model prog w) A (.call (.ref C) ⟨vs,kw⟩) R s:=by
 obtain ⟨hh,g,d,t,os⟩:=s
 exact PySem.W.make_core (PySem.W.makes_of X hm) (PySem.W.looks_findIn X hi) (fun self=>PySem.W.bind_fn X self hf) (.inl rfl) h
end
def putF (f:Str) (v:V):List (Str×V)->List (Str×V)
 | []=>[(f,v)]
 | (g,x) :: r=>if g=f then (g,v) :: r else (g,x) :: putF f v r
theorem lookup_putF (f g:Str) (v:V):∀ fs:List (Str×V),(putF f v fs).lookup g=if g=f then some v else fs.lookup g
 | []=>by
  show List.lookup g [(f,v)]=_
  by_cases h:g=f
  ·have hb:(g == f)=true:=beq_iff_eq.mpr h
   simp only [List.lookup,hb,if_pos h]
  ·have hb:(g == f)=false:=beq_eq_false_iff_ne.mpr h
   simp only [List.lookup,hb,if_neg h]
 | (k,x) :: r=>by
  have ih:=lookup_putF f g v r
  rw [show putF f v ((k,x) :: r)=(if k=f then (k,v) :: r else (k,x) :: putF f v r) from rfl]
  by_cases hk:k=f
  ·rw [if_pos hk]
   by_cases h:g=k
   ·have hb:(g == k)=true:=beq_iff_eq.mpr h
    simp only [List.lookup,hb,if_pos (h.trans hk)]
   ·have hb:(g == k)=false:=beq_eq_false_iff_ne.mpr h
    simp only [List.lookup,hb,if_neg (fun e:g=f=>h (e.trans hk.symm))]
  ·rw [if_neg hk]
   by_cases h:g=k
   ·have hb:(g == k)=true:=beq_iff_eq.mpr h
    simp only [List.lookup,hb,if_neg (fun e:g=f=>hk (h.symm.trans e))]
   ·have hb:(g == k)=false:=beq_eq_false_iff_ne.mpr h
    simp only [List.lookup,hb]
    exact ih
theorem keys_putF (f:Str) (v:V):∀ fs:List (Str×V),f∈(putF f v fs).map (·.1)/\∀ g,g∈fs.map (·.1)->g∈(putF f v fs).map (·.1)
 | []=>⟨by simp [putF],fun g h=>by simp at h⟩
 | (k,x) :: r=>by
  obtain ⟨i1,i2⟩:=keys_putF f v r
  rw [show putF f v ((k,x) :: r)=(if k=f then (k,v) :: r else (k,x) :: putF f v r) from rfl]
  by_cases hk:k=f
  ·rw [if_pos hk]
   subst hk
   exact ⟨by simp,fun g h=>by simpa using h⟩
  ·rw [if_neg hk]
   refine ⟨?_,fun g h=>?_⟩
   ·rw [List.map_cons]
    exact List.mem_cons_of_mem _ i1
   ·rw [List.map_cons] at h ⊢
    rcases List.mem_cons.mp h with e | e
    ·exact List.mem_cons.mpr (.inl e)
    ·exact List.mem_cons_of_mem _ (i2 g e)
theorem length_putF (f:Str) (v:V):∀ fs:List (Str×V),(putF f v fs).length<=fs.length+1
 | []=>by simp [putF]
 | (k,x) :: r=>by
  have ih:=length_putF f v r
  rw [show putF f v ((k,x) :: r)=(if k=f then (k,v) :: r else (k,x) :: putF f v r) from rfl]
  by_cases hk:k=f
  ·rw [if_pos hk,List.length_cons,List.length_cons];omega
  ·rw [if_neg hk,List.length_cons,List.length_cons];omega
theorem RelO.some_of {v:V} {o:Option Value} (r:RelO (some v) o):∃ u,o=some u/\RelV v u:=by
 cases o with
 | none=>exact (show False from r).elim
 | some u=>exact ⟨u,rfl,r⟩
theorem RelO.none_of {o:Option Value} (r:RelO none o):o=none:=by
 cases o with
 | none=>rfl
 | some u=>exact (show False from r).elim
theorem handed_of {v:V} {u:Value} (r:RelV v u):PySem.W.handedIn u=true:=by
 cases v with
 | non=>cases (show u=Value.none from r);rfl
 | bl b=>cases (show u=Value.bool b from r);rfl
 | int i=>obtain ⟨t,e⟩:=(show ∃ t,u=Value.int i t from r);cases e;rfl
 | str x=>obtain ⟨t,e⟩:=(show ∃ t,u=Value.str x t from r);cases e;rfl
 | byt b=>obtain ⟨t,e⟩:=(show ∃ t,u=Value.bytes b t from r);cases e;rfl
 | flt b=>obtain ⟨t,e⟩:=(show ∃ t,u=Value.float b t from r);cases e;rfl
 | ref a=>cases (show u=Value.ref a from r);rfl
 | ty n=>cases (show u=Value.type n from r);rfl
section
variable {P:Program} {w:World} {H H':Hp} {h h':Heap} {a C dx:Addr} {fs fs':List (Str×V)}
theorem ins_get (hok:HOk P w H h) (e:H a=some (.ins C dx fs)):∃ mA,ObjM h a dx C mA/\(∀ f,RelO (fs.lookup f) (mA f))/\PySem.Within mA (fs.map (·.1))/\fs.length<=1000/\H dx=some (.own a):=by
 obtain ⟨d,z,ne,ob,mA,n,r,q⟩:=(show ObjOk P w H h a (.ins C dx fs) from hok a _ e)
 exact ⟨mA,⟨ob,n,ne⟩,r,q,z,d⟩
end
structure Cls (K:PySem.W.Frag) (C:Addr):Prop where
 pg:PySem.W.plainGet K C Str.empty=true
 hd:PySem.W.hasDictIn K C=true
 po:PySem.W.plainOver K C=true
 sa:PySem.W.findIn K (.ref C) "__setattr__" = some (some (.builtin "object.__setattr__"))
theorem Cls.get {K:PySem.W.Frag} {C:Addr} (c:Cls K C) (f:Str):PySem.W.plainGet K C f=true:=c.pg
def NoAttr (K:PySem.W.Frag) (C:Addr) (f:Str):Prop:=PySem.W.findIn K (.ref C) f=some none
theorem NoAttr.taker {K:PySem.W.Frag} {C:Addr} {f:Str} (n:NoAttr K C f):PySem.W.takerIn K C f=some none:=by
 unfold PySem.W.takerIn
 rw [show PySem.W.findIn K (.ref C) f=some none from n]
 rfl
structure Meth (K:PySem.W.Frag) (C:Addr) (m:Str) (f:Addr):Prop where
 at_:PySem.W.findIn K (.ref C) m=some (some (.ref f))
 fn:PySem.W.isFn K (.ref f)=true
 kp:PySem.W.keepIn K (.ref f)=true
section
variable {X:Cx} {pins:List (Addr×Obj)} {σ:St} {H:Hp} {s:Shared} {a C dx:Addr} {fs:List (Str×V)} {f:Str} {v:V} {A:Around} {E:Value->Shared->Prop}
theorem getattr_ok {b:Bool} {Q:Value->Shared->Prop} (I:Inv X pins σ H s) (e:H a=some (.ins C dx fs)) (c:Cls X.K C) (n:NoAttr X.K C f) (l:fs.lookup f=some v)
  (h:∀ u s',Inv X pins σ H s'->RelV v u->Q u s'):wpAny (model X.prog X.w) A (getAttr (.ref a) f b) Q E s:=by
 obtain ⟨mA,O,r,_,_,_⟩:=ins_get I.hok e
 obtain ⟨u,hu,ru⟩:=RelO.some_of (v:=v) (o:=mA f) (by rw [<-l];exact r f)
 exact get_map I.kIn O (c.get f) c.hd n hu (handed_of ru) (h u _ (I.tok _) ru)
theorem getmeth_ok {m:Str} {g:Addr} {pl:Sem Bool} {Q:Value×List Value->Shared->Prop} (I:Inv X pins σ H s) (e:H a=some (.ins C dx fs)) (c:Cls X.K C) (k:Meth X.K C m g) (l:fs.lookup m=none)
  (h:Q (.ref g,[.ref a]) s):wpAny (model X.prog X.w) A (getMethod (.ref a) m pl) Q E s:=by
 obtain ⟨mA,O,r,_,_,_⟩:=ins_get I.hok e
 have hn:mA m=none:=RelO.none_of (by rw [<-l];exact r m)
 exact get_meth I.kIn O (c.get m) k.at_ k.fn hn h
theorem setattr_ok {y:V} {u:Value} {Q:Unit->Shared->Prop} (I:Inv X pins σ H s) (e:H a=some (.ins C dx fs)) (c:Cls X.K C) (n:NoAttr X.K C f) (hl:fs.length < 1000) (ry:RelV y u)
  (h:∀ s',Inv X pins σ (upd H a (.ins C dx (putF f y fs))) s'->Q () s'):wpAny (model X.prog X.w) A (setAttr (.ref a) f u) Q E s:=by
 obtain ⟨mA,O,r,wi,_,ho⟩:=ins_get I.hok e
 have hz:(fs.map (·.1)).length<=sizeLine:=by rw [List.length_map,sizeLine_eq];omega
 refine set_map I.kIn O c.sa c.po n.taker c.hd wi hz fun h' O' sb=>h _ ?_
 have hd:∃ o,h'.get? dx=some o:=let ⟨o,_,_,e',_⟩:=O'.ns;⟨o,e'⟩
 refine I.write (x:=a) (e:=dx) (by rw [e];exact True.intro) (.inr ho) (fun b q hb z=>(sb.2 b hb).trans z) hd ?_
 refine ⟨by rw [upd_ne O.ne];exact ho,?_,O.ne,O'.obj,_,O'.ns,fun g=>?_,fun g hg=>?_⟩
 ·have:=length_putF f y fs;omega
 ·show RelO ((putF f y fs).lookup g) (if g=f then some u else mA g)
  rw [lookup_putF]
  by_cases q:g=f
  ·rw [if_pos q,if_pos q];exact ry
  ·rw [if_neg q,if_neg q];exact r g
 ·by_cases q:g=f
  ·rw [q];exact (keys_putF f y fs).1
  ·refine (keys_putF f y fs).2 g (wi g fun z=>hg ?_)
   show (if g=f then some u else mA g)=none
   rw [if_neg q];exact z
theorem Inv.made (I:Inv X pins σ H s):Inv X pins σ (upd (upd H s.heap.objs.size (.own (s.heap.objs.size+1))) (s.heap.objs.size+1) (.ins C s.heap.objs.size []))
  { s with heap:=(s.heap.push PySem.W.emptyDict).push (PySem.W.instObj C s.heap.objs.size) }:=by
 have e1:(s.heap.push PySem.W.emptyDict).get? s.heap.objs.size=some PySem.W.emptyDict:=Heap.get?_push_size s.heap rfl
 have e2:((s.heap.push PySem.W.emptyDict).push (PySem.W.instObj C s.heap.objs.size)).get? (s.heap.objs.size+1)=some (PySem.W.instObj C s.heap.objs.size):=by
  have:=Heap.get?_push_size (s.heap.push PySem.W.emptyDict) (o:=PySem.W.instObj C s.heap.objs.size) rfl
  rwa [Heap.size_push] at this
 have e3:(s.heap.push PySem.W.emptyDict).Ns s.heap.objs.size (fun _=>none):=⟨PySem.W.emptyDict,#[],_,e1,rfl,(fun e he=>absurd he (by simp)),fun _=>rfl⟩
 have I1:=I.laid (a:=s.heap.objs.size) (o:=.own (s.heap.objs.size+1)) (h':=s.heap.push PySem.W.emptyDict) (t':=s.toks) (fun b u q=>Heap.get?_push_of_some _ q) (Nat.le_refl _) ⟨_,e1⟩
 refine I1.laid (a:=s.heap.objs.size+1) (o:=.ins C s.heap.objs.size []) (t':=s.toks) (fun b u q=>Heap.get?_push_of_some _ q) (Nat.le_of_eq (Heap.size_push _ _)) ?_
 have ne:s.heap.objs.size≠s.heap.objs.size+1:=Nat.ne_of_lt (Nat.lt_succ_self _)
 refine ⟨by rw [upd_ne ne,upd_same],Nat.zero_le _,ne,e2,fun _=>none,(Heap.Ns1.of_empty e3).at fun o q=>Heap.get?_push_of_some _ q,fun _=>True.intro,fun y hy=>absurd rfl hy⟩
theorem attr_of {prog:Program} {w:World} {env:Env} {e:Expr} {f:Str} {pos:Pos} {s:Shared} {Q:Value->Shared->Prop} (hb:attributeBase e f env (eval e env)=eval e env)
  (h:wpAny (model prog w) A (eval e env) (fun o s₁=>wpAny (model prog w) A (getAttr o f true) Q E s₁) E s):wpAny (model prog w) A (eval (.Attribute e f pos) env) Q E s:=
 Attribute_any_ h (by rw [arm_eval_Attribute,hb])
end
def tFld (K:PySem.W.Frag) (ta:TE) (f:Str):TE:=fun σ H Q=>ta σ H fun x H1=>∃ a C dx fs v,x = .ref a/\H1 a=some (.ins C dx fs)/\Cls K C/\NoAttr K C f/\fs.lookup f=some v/\Q v H1
def sFld (K:PySem.W.Frag) (ta tv:TE) (f:Str):TS:=fun D σ H=>tv σ H fun y H1=>ta σ H1 fun x H2=>∃ a C dx fs,x = .ref a/\H2 a=some (.ins C dx fs)/\Cls K C/\NoAttr K C f/\fs.length < 1000 ∧
 D.nx σ (upd H2 a (.ins C dx (putF f y fs)))
section
variable {X:Cx} {o e value:Expr} {f:Str} {pos pos' tpos:Pos} {ta tv:TE}
theorem pe_fld (he:PE X e ta) (hb:attributeBase e f X.env (eval e X.env)=eval e X.env):PE X (.Attribute e f pos) (tFld X.K ta f):=by
 intro pins s σ H Q I h
 refine attr_of hb (thn (he pins s σ H _ I h) fun u s1 ⟨x,H1,I1,rx,a,C,dx,fs,v,ex,ea,c,n,l,q⟩=>?_)
 subst ex
 obtain rfl:u=Value.ref a:=rx
 exact getattr_ok I1 ea c n l fun u' s2 I2 ru=>⟨v,H1,I2,ru,q⟩
theorem ps_fld (ha:PE X o ta) (hv:PE X value tv) (hs:swapsWith value (some (.Attribute o f pos')) pos.line X.env=pure false):PS X (.Assign [.Attribute o f pos'] value pos) (sFld X.K ta tv f):=by
 intro pins s σ H D I h
 refine plainObj_wpAny_Assign_Attribute (thn (hv pins s σ H _ I h) fun u s1 ⟨y,H1,I1,ry,q⟩=>thn (ha pins s1 σ H1 _ I1 q) fun ov s2 ⟨x,H2,I2,rx,a,C,dx,fs,ex,ea,c,n,l,q2⟩=>?_) hs
 subst ex
 obtain rfl:ov=Value.ref a:=rx
 exact setattr_ok I2 ea c n l ry fun s3 I3=>⟨σ,_,I3,q2⟩
end
section
variable {X:Cx} {pins:List (Addr×Obj)} {σ:St} {H:Hp} {s:Shared} {A:Around} {E:Value->Shared->Prop} {Q:Value->Shared->Prop} {c:Value} {b:Bool}
end
end L2
namespace L2
open PySem PySem.Spec PyProof.Rows
structure Room (k:Nat) (A:Around):Prop where
 hd:A.handled=none
 dp:A.depth+3 * k+5 < recursionLimit
 un:A.units+16 * k+200 < cLine
theorem Room.mono {j k:Nat} {A:Around} (r:Room k A) (h:j<=k):Room j A:=⟨r.hd,by have:=r.dp;omega,by have:=r.un;omega⟩
theorem Room.deeper {k:Nat} {A:Around} (r:Room (k+1) A) (env:Env):Room k (A.deeper env):=
 ⟨r.hd,by have:=r.dp;show A.depth+1+3 * k+5 < _;omega,by have:=r.un;show A.units+3+16 * k+200 < _;omega⟩
theorem Room.in1 {k:Nat} {A:Around} (r:Room (k+1) A):Room k A.in1:=
 ⟨r.hd,by have:=r.dp;show A.depth+3 * k+5 < _;omega,by have:=r.un;show A.units+1+16 * k+200 < _;omega⟩
theorem make_depth {A:Around} {C:Addr} {us:List Value} {kw:List (Str×Value)}:(A.under (.builtin "type.__call__" ⟨.ref C :: us,kw⟩)).depth=A.depth+1:=by
 first | rfl | simp [Around.under,Code.weight,Code.isCreation,Code.isGuard,Code.isCaller,Code.frames,Code.isFrame,guardIds]
theorem make_units {A:Around} {C:Addr} {us:List Value} {kw:List (Str×Value)}:(A.under (.builtin "type.__call__" ⟨.ref C :: us,kw⟩)).units=A.units+1:=by
 first | rfl | simp [Around.under,Code.cUnits,Code.frames,Code.isFrame]
theorem Room.make {k:Nat} {A:Around} (r:Room (k+1) A) (C:Addr) (us:List Value) (kw:List (Str×Value)):Room k (A.under (.builtin "type.__call__" ⟨.ref C :: us,kw⟩)):=
 ⟨r.hd,by have:=r.dp;rw [make_depth];omega,by have:=r.un;rw [make_units];omega⟩
theorem Room.depth {k:Nat} {A:Around} (r:Room k A):A.depth < recursionLimit:=by have:=r.dp;omega
theorem Room.units {k:Nat} {A:Around} (r:Room k A):A.units+64 < cLine:=by have:=r.un;omega
def tNil:TA:=fun _ H Q=>Q [] H
def tCons (ta:TE) (tr:TA):TA:=fun σ H Q=>ta σ H fun x H1=>tr σ H1 fun xs H2=>Q (x :: xs) H2
section
variable {X:Cx} {e:Expr} {es:List Expr} {te:TE} {t:TA} {pos:Pos}
theorem pa_nil:PA X [] tNil:=fun _ _ _ _ H Q I h=>Calls.spliced_nil ⟨[],H,I,.nil,h⟩
theorem pa_cons (ha:PE X e te) (hr:PA X es t) (hs:starEach (e :: es) X.env=(false,eval e X.env) :: starEach es X.env:=by rfl):PA X (e :: es) (tCons te t):=by
 intro pos pins s σ H Q I h
 rw [hs]
 show wpAny _ _ (spliced ((false,eval e X.env) :: backTo pos (starEach es X.env))) _ _ s
 refine Calls.spliced_cons (thn (ha pins s σ H _ I h) fun u s1 ⟨x,H1,I1,r1,q1⟩=>?_)
 exact thn (hr pos pins s1 σ H1 _ I1 q1) fun us s2 ⟨xs,H2,I2,r2,q2⟩=>⟨x :: xs,H2,I2,.cons r1 r2,q2⟩
def tTup (t:TA):TE:=fun σ H Q=>t σ H fun xs H1=>xs.length<=sizeLine/\∀ p,H1 p=none->Q (.ref p) (upd H1 p (.tup xs))
def tLst (t:TA):TE:=fun σ H Q=>t σ H fun xs H1=>xs.length<=sizeLine/\∀ p,H1 p=none->Q (.ref p) (upd H1 p (.lst xs))
theorem pe_tup {x1} (h:PA X es t):PE X (.Tuple es x1 pos) (tTup t):=by
 intro pins s σ H Q I hq
 refine wpAny_Tuple_spliced (thn (h pos pins s σ H _ I hq) fun us s1 ⟨xs,H1,I1,r,z,q⟩=>⟨by rw [<-r.length];exact z,?_⟩)
 have hf:H1 s1.heap.objs.size=none:=I1.hok.fresh (Nat.le_refl _)
 refine ⟨.ref s1.heap.objs.size,upd H1 s1.heap.objs.size (.tup xs),I1.laid (t':=s1.toks) (fun b u e=>Heap.get?_push_of_some _ e) (Nat.le_refl _) ?_,rfl,q _ hf⟩
 exact ⟨z,us,r,⟨_,Heap.get?_push_size _ rfl,rfl,_,rfl⟩⟩
theorem pe_lst (h:PA X es t):PE X (.List es pos) (tLst t):=by
 intro pins s σ H Q I hq
 refine wpAny_List_spliced (thn (h pos pins s σ H _ I hq) fun us s1 ⟨xs,H1,I1,r,z,q⟩=>⟨by rw [<-r.length];exact z,?_⟩)
 have hf:H1 s1.heap.objs.size=none:=I1.hok.fresh (Nat.le_refl _)
 refine ⟨.ref s1.heap.objs.size,upd H1 s1.heap.objs.size (.lst xs),I1.laid (t':=s1.toks) (fun b u e=>Heap.get?_push_of_some _ e) (Nat.le_refl _) ?_,rfl,q _ hf⟩
 exact ⟨z,us,0,r,Heap.get?_push_size _ rfl⟩
end
abbrev Sp:=List V->Hp->VK->XK->Prop
abbrev CXT:=List Env->Hp->Shared->XK->Value->Shared->Prop
structure Env0 (P:Program) (w:World) (K:PySem.W.Frag) (mg:Str->Option Value) (base:Heap) (A:Around) (outer:List Env) (s:Shared) (H:Hp):Prop where
 frames:A.frames=some outer
 mod:Mod K mg base
 bs:∀ b o,base.get? b=some o->s.heap.get? b=some o/\H b=none
 bsz:base.objs.size<=s.heap.objs.size
 funs:s.heap.FunFrames base outer
 frf:∀ b∈frs outer,H b=none
 hok:HOk P w H s.heap
 bare:AllBare s.gens
def CE (outer:List Env) (P:Program) (w:World) (H:Hp) (s:Shared) (Q:VK) (u:Value) (s':Shared):Prop:=
 ∃ v H',s'.os=s.os/\AllBare s'.gens/\Un (frs outer) [] H H' s.heap s'.heap/\HOk P w H' s'.heap/\RelV v u/\Q v H'
def CR (CX:CXT) (outer:List Env) (P:Program) (w:World) (H:Hp) (s:Shared) (Q:VK) (E:XK) (r:Result) (s':Shared):Prop:=
 match r with
 | .ok (.ret u)=>CE outer P w H s Q u s'
 | .ok _=>False
 | .error e=>CX outer H s E e s'
structure FnOk (P:Program) (w:World) (K:PySem.W.Frag) (mg:Str->Option Value) (base:Heap) (CX:CXT) (k:Nat) (f:Addr) (fd:FuncData) (ps:List Str) (sp:Sp):Prop where
 len:∀ vs H Q E,sp vs H Q E->vs.length=ps.length
 run:∀ (A:Around) (outer:List Env) (s:Shared) (H:Hp) (args:Args) (us:List Value) (vs:List V) (Q:VK) (E:XK),Room k A->Env0 P w K mg base A outer s H->BindsTo s fd args (ps.zip us)->Vals vs us->sp vs H Q E →
  codeAny (model P w) A (.call (.ref f) args) (CR CX outer P w H s Q E) s
theorem FnOk.mono {P:Program} {w:World} {K:PySem.W.Frag} {mg:Str->Option Value} {base:Heap} {CX:CXT} {j k:Nat} {f:Addr} {fd:FuncData} {ps:List Str} {sp:Sp} (F:FnOk P w K mg base CX j f fd ps sp) (h:j<=k) :
  FnOk P w K mg base CX k f fd ps sp:=⟨F.len,fun A outer s H args us vs Q E hr=>F.run A outer s H args us vs Q E (hr.mono h)⟩
theorem FnOk.imp {P:Program} {w:World} {K:PySem.W.Frag} {mg:Str->Option Value} {base:Heap} {CX:CXT} {k:Nat} {f:Addr} {fd:FuncData} {ps:List Str} {sp sp':Sp} (F:FnOk P w K mg base CX k f fd ps sp)
  (h:∀ vs H Q E,sp' vs H Q E->sp vs H Q E):FnOk P w K mg base CX k f fd ps sp':=
 ⟨fun vs H Q E q=>F.len vs H Q E (h _ _ _ _ q),fun A outer s H args us vs Q E hr he hb hv hs=>F.run A outer s H args us vs Q E hr he hb hv (h _ _ _ _ hs)⟩
theorem Env0.make {P:Program} {w:World} {K:PySem.W.Frag} {mg:Str->Option Value} {base:Heap} {A:Around} {outer:List Env} {s:Shared} {H:Hp} (e:Env0 P w K mg base A outer s H) (C:Addr) (us:List Value) (kw:List (Str×Value)) :
  Env0 P w K mg base (A.under (.builtin "type.__call__" ⟨.ref C :: us,kw⟩)) outer s H:=⟨by first | exact e.frames | (simpa [Around.under,Code.envs,Code.isFrame,pushEnvs] using e.frames),e.mod,e.bs,e.bsz,e.funs,e.frf,e.hok,e.bare⟩
theorem Env0.in1 {P:Program} {w:World} {K:PySem.W.Frag} {mg:Str->Option Value} {base:Heap} {A:Around} {outer:List Env} {s:Shared} {H:Hp} (e:Env0 P w K mg base A outer s H) :
  Env0 P w K mg base A.in1 outer s H:=⟨e.frames,e.mod,e.bs,e.bsz,e.funs,e.frf,e.hok,e.bare⟩
section
variable {X:Cx} {pins:List (Addr×Obj)} {σ:St} {H:Hp} {s s':Shared}
theorem Inv.env0 (I:Inv X pins σ H s):Env0 X.prog X.w X.K X.mg X.base X.A X.stack s H:=
 ⟨I.ok.frames,I.ok.mod,I.bs,Nat.le_trans I.ok.bsz I.sz,I.stack,I.stkFree,I.hok,I.bare⟩
theorem Inv.after {Q:VK} {u:Value} (I:Inv X pins σ H s) (h:CE X.stack X.prog X.w H s Q u s'):EP X pins σ Q u s':=by
 obtain ⟨v,H',os,bare,un,hok,r,q⟩:=h
 obtain ⟨hh,g,d,t,os'⟩:=s'
 obtain rfl:os'=s.os:=os
 exact ⟨v,H',I.call (h':=hh) (g':=g) (d':=d) (t':=t) (ch:=[]) un hok bare (fun b z=>absurd z (by simp)),r,q⟩
end
def tCall (sp:Sp) (dvs:List V) (E:XK) (t:TA):TE:=fun σ H Q=>t σ H fun vs H1=>sp (vs++dvs) H1 Q E
def tMeth (C:Addr) (m:Str) (sp:Sp) (dvs:List V) (E:XK) (ta:TE) (t:TA):TE:=fun σ H Q=>ta σ H fun x H1=>∃ a dx fs,x = .ref a/\H1 a=some (.ins C dx fs)/\fs.lookup m=none ∧
 t σ H1 fun vs H2=>sp (x :: (vs++dvs)) H2 Q E
def tMake (C:Addr) (sp:Sp) (dvs:List V) (E:XK) (t:TA):TE:=fun σ H Q=>t σ H fun vs H1=>∀ x dx,H1 x=none->H1 dx=none->dx≠x →
 sp (.ref x :: (vs++dvs)) (upd (upd H1 dx (.own x)) x (.ins C dx [])) (fun v H2=>v = .non/\Q (.ref x) H2) E
def Binds (K:PySem.W.Frag) (fd:FuncData) (ps:List Str) (ds:List Value):Prop:=
 ∀ (s:Shared) (us:List Value),K.In s.heap->(us++ds).length=ps.length->BindsTo s fd ⟨us,[]⟩ (ps.zip (us++ds))
theorem Binds.all {K:PySem.W.Frag} {fd:FuncData} {ps:List Str} (h:∀ us:List Value,us.length=ps.length->bindArgs fd ⟨us,[]⟩=pure (ps.zip us)):Binds K fd ps []:=fun s us _ hl=>by
 rw [List.append_nil] at hl ⊢
 exact .of_eq (h us hl)
def Passes (CX:CXT) (X:Cx) (E:XK):Prop:=∀ (pins:List (Addr×Obj)) (σ:St) (H:Hp) (s:Shared) (e:Value) (s':Shared),Inv X pins σ H s->CX X.stack H s E e s'->X.xe e s'
section
variable {X:Cx} {CX:CXT} {k:Nat} {f C:Addr} {fd:FuncData} {ps:List Str} {sp:Sp} {dvs:List V} {ds:List Value} {E:XK} {x m:Str} {p pos apos:Pos} {e o:Expr} {es:List Expr} {ta:TE} {t:TA}
theorem run_fn {pins:List (Addr×Obj)} {σ:St} {H:Hp} {s:Shared} {Q:VK} {us:List Value} {vs:List V} (F:FnOk X.prog X.w X.K X.mg X.base CX k f fd ps sp) (hr:Room k X.A) (hb:Binds X.K fd ps ds) (hd:Vals dvs ds) (hx:Passes CX X E)
  (I:Inv X pins σ H s) (r:Vals vs us) (h:sp (vs++dvs) H Q E):wpAny (model X.prog X.w) X.A (call (.ref f) us) (EP X pins σ Q) X.xe s:=by
 have r2:Vals (vs++dvs) (us++ds):=r.append hd
 have hl:(us++ds).length=ps.length:=by rw [<-r2.length];exact F.len _ _ _ _ h
 refine wpAny_call (codeAny_mono (F.run X.A X.stack s H ⟨us,[]⟩ (us++ds) (vs++dvs) Q E hr I.env0 (hb s us I.kIn hl) r2 h) fun r s' hq=>?_)
 cases r with
 | error e=>exact hx pins σ H s e s' I hq
 | ok fl=>
  cases fl with
  | ret u=>exact I.after hq
  | next=>exact False.elim hq
  | brk=>exact False.elim hq
  | cont=>exact False.elim hq
theorem pe_call (F:FnOk X.prog X.w X.K X.mg X.base CX k f fd ps sp) (hr:Room k X.A) (hg:Gl X x) (hm:X.mg x=some (.ref f)) (hk:PySem.W.keepIn X.K (.ref f)=true) (hb:Binds X.K fd ps ds) (hd:Vals dvs ds) (hx:Passes CX X E)
  (ha:PA X (e :: es) t) (hdb:(x == ("__debug__" : Str))=false:=by decide) (he:starEach (e :: es) X.env=(false,eval e X.env) :: starEach es X.env:=by rfl) (hpl:(backTo pos (starEach es X.env)).any (·.1)=false:=by rfl) :
  PE X (.Call (.Name x p) (e :: es) [] pos) (tCall sp dvs E t):=by
 intro pins s σ H Q I h
 refine wpAny_Call_Name_kw (ld_glob I hg hm ?_ hdb)
 refine PySem.W.callWith_K (h₀:=X.base) I.ok.mod.kin hk (thn (ha pos pins s σ H _ I h) fun us s1 ⟨vs,H1,I1,r,q⟩=>⟨I1.kIn,?_⟩) he hpl
 exact run_fn F hr hb hd hx I1 r q
theorem pe_meth {pl:Sem Bool} (he:PE X o ta) (c:Cls X.K C) (hm:Meth X.K C m f) (F:FnOk X.prog X.w X.K X.mg X.base CX k f fd ps sp) (hr:Room k X.A) (hb:Binds X.K fd ps ds) (hd:Vals dvs ds) (hx:Passes CX X E) (ha:PA X (e :: es) t)
  (hst:starEach (e :: es) X.env=(false,eval e X.env) :: starEach es X.env:=by rfl) (hpl:(backTo pos (starEach es X.env)).any (·.1)=false:=by rfl)
  (ht:eval (.Call (.Attribute o m apos) (e :: es) [] pos) X.env=(do
   let ov <-eval o X.env
   standAt apos.atName
   let (f,first) <-holding [ov] (getMethod ov m pl)
   callWith pos f first (backTo pos (starEach (e :: es) X.env)) (backToKw pos (keywordEach [] X.env))):=by rfl) :
  PE X (.Call (.Attribute o m apos) (e :: es) [] pos) (tMeth C m sp dvs E ta t):=by
 intro pins s σ H Q I h
 refine PySem.W.methodCall_KW (pl:=pl) (thn (he pins s σ H _ I h) fun u s1 ⟨x,H1,I1,rx,a,dx,fs,ex,ea,l,q⟩=>?_) ht
 subst ex
 obtain rfl:u=Value.ref a:=rx
 refine getmeth_ok I1 ea c hm l ?_
 refine PySem.W.callWith_K (first:=[.ref a]) (h₀:=X.base) I.ok.mod.kin hm.kp (thn (ha pos pins s1 σ H1 _ I1 q) fun us s2 ⟨vs,H2,I2,r,q2⟩=>⟨I2.kIn,?_⟩) hst hpl
 exact run_fn (us:=.ref a :: us) (vs:=.ref a :: vs) F hr hb hd hx I2 (.cons rfl r) q2
theorem pe_meth0 {pl:Sem Bool} (he:PE X o ta) (c:Cls X.K C) (hm:Meth X.K C m f) (F:FnOk X.prog X.w X.K X.mg X.base CX k f fd ps sp) (hr:Room k X.A) (hb:Binds X.K fd ps ds) (hd:Vals dvs ds) (hx:Passes CX X E)
  (ht:eval (.Call (.Attribute o m apos) [] [] pos) X.env=(do
   let ov <-eval o X.env
   standAt apos.atName
   let (f,first) <-holding [ov] (getMethod ov m pl)
   callWith pos f first (backTo pos (starEach [] X.env)) (backToKw pos (keywordEach [] X.env))):=by rfl) :
  PE X (.Call (.Attribute o m apos) [] [] pos) (tMeth C m sp dvs E ta tNil):=by
 intro pins s σ H Q I h
 refine PySem.W.methodCall_KW (pl:=pl) (thn (he pins s σ H _ I h) fun u s1 ⟨x,H1,I1,rx,a,dx,fs,ex,ea,l,q⟩=>?_) ht
 subst ex
 obtain rfl:u=Value.ref a:=rx
 refine getmeth_ok I1 ea c hm l ?_
 exact PySem.W.callWith_K0 (first:=[.ref a]) I1.kIn hm.kp (run_fn (us:=[.ref a]) (vs:=[.ref a]) F hr hb hd hx I1 (.cons rfl .nil) q)
structure Mk (K:PySem.W.Frag) (C f:Addr):Prop where
 makes:PySem.W.makesIn K C=true
 init:PySem.W.findIn K (.ref C) "__init__" = some (some (.ref f))
 fn:PySem.W.isFn K (.ref f)=true
 kp:PySem.W.keepIn K (.ref C)=true
theorem run_make {pins:List (Addr×Obj)} {σ:St} {H:Hp} {s:Shared} {Q:VK} {us:List Value} {vs:List V} (M:Mk X.K C f) (F:FnOk X.prog X.w X.K X.mg X.base CX k f fd ps sp) (hr:Room (k+1) X.A) (hb:Binds X.K fd ps ds) (hd:Vals dvs ds)
  (hx:Passes CX X E) (I:Inv X pins σ H s) (r:Vals vs us)
  (h:∀ x dx,H x=none->H dx=none->dx≠x->sp (.ref x :: (vs++dvs)) (upd (upd H dx (.own x)) x (.ins C dx [])) (fun v H2=>v = .non/\Q (.ref x) H2) E) :
  wpAny (model X.prog X.w) X.A (call (.ref C) us) (EP X pins σ Q) X.xe s:=by
 have hq:=h (s.heap.objs.size+1) s.heap.objs.size (I.hok.fresh (Nat.le_succ _)) (I.hok.fresh (Nat.le_refl _)) (Nat.ne_of_lt (Nat.lt_succ_self _))
 have I2:=Inv.made (C:=C) I
 have r2:Vals (V.ref (s.heap.objs.size+1) :: (vs++dvs)) (Value.ref (s.heap.objs.size+1) :: (us++ds)):=.cons rfl (r.append hd)
 have hl:(Value.ref (s.heap.objs.size+1) :: us++ds).length=ps.length:=by
  have e:=r2.length
  rw [F.len _ _ _ _ hq] at e
  exact e.symm
 refine wpAny_call (make_map (f:=f) I.kIn M.makes M.init (beq_iff_eq.mp M.fn) (codeAny_mono (F.run _ X.stack _ _ ⟨Value.ref (s.heap.objs.size+1) :: us,[]⟩ (Value.ref (s.heap.objs.size+1) :: (us++ds)) _ _ E (hr.make C us [])
  (I2.env0.make C us []) (hb _ (Value.ref (s.heap.objs.size+1) :: us) I2.kIn hl) r2 hq) fun r s' hq'=>?_))
 cases r with
 | error e=>exact hx pins σ _ _ e s' I2 hq'
 | ok fl=>
  cases fl with
  | ret u=>
   obtain ⟨v,H',I3,rv,ev,q3⟩:=I2.after hq'
   subst ev
   exact ⟨rv,⟨V.ref (s.heap.objs.size+1),H',I3,rfl,q3⟩⟩
  | next=>exact False.elim hq'
  | brk=>exact False.elim hq'
  | cont=>exact False.elim hq'
theorem pe_make0 (M:Mk X.K C f) (F:FnOk X.prog X.w X.K X.mg X.base CX k f fd ps sp) (hr:Room (k+1) X.A) (hg:Gl X x) (hm:X.mg x=some (.ref C)) (hb:Binds X.K fd ps ds) (hd:Vals dvs ds) (hx:Passes CX X E)
  (hdb:(x == ("__debug__" : Str))=false:=by decide):PE X (.Call (.Name x p) [] [] pos) (tMake C sp dvs E tNil):=by
 intro pins s σ H Q I h
 refine wpAny_Call_Name_kw (ld_glob I hg hm ?_ hdb)
 exact PySem.W.callWith_K0 I.kIn M.kp (run_make (us:=[]) M F hr hb hd hx I .nil h)
end
section
variable {X:Cx} {CX:CXT} {k:Nat} {f C:Addr} {fd:FuncData} {ps ks:List Str} {sp:Sp} {E:XK} {x m:Str} {p pos apos kpos:Pos} {e o:Expr} {es:List Expr} {kws:List Keyword} {te ta:TE} {t tk:TA} {nm:Option Str}
variable {g:List Value->List Value->List Value} {gV:List V->List V->List V}
end
structure FnScope (N P:List Str) (sc:Scope):Prop where
 kind:sc.kind = .function
 co:sc.isCoroutine=false
 gen:sc.isGenerator=false
 nd:N.Nodup
 pre:N.take P.length=P
 par:∀ x∈P,sc.names.lookup x=some .local\/sc.names.lookup x=some .cell
 nofree:∀ y∈sc.names,y.2≠.free
theorem bindL_out {kindOf:Str->Option NameKind} {x:Str}:∀ {binds:List (Str×Value)} {m:Str->Option Value},(∀ v,(x,v) ∉ binds)->bindL kindOf binds m x=m x
 | [],_,_=>rfl
 | (n,v) :: r,m,h=>by
  unfold bindL
  rw [bindL_out fun w hw=>h w (List.mem_cons_of_mem _ hw)]
  split
  ·have:x≠n:=by rintro rfl;exact h v List.mem_cons_self
   simp [this]
  ·rfl
theorem bindC_out {kindOf:Str->Option NameKind} {x:Str}:∀ {binds:List (Str×Value)} {m:Str->Option Value},(∀ v,(x,v) ∉ binds)->bindC kindOf binds m x=m x
 | [],_,_=>rfl
 | (n,v) :: r,m,h=>by
  unfold bindC
  rw [bindC_out fun w hw=>h w (List.mem_cons_of_mem _ hw)]
  split
  ·rfl
  ·have:x≠n:=by rintro rfl;exact h v List.mem_cons_self
   simp [this]
theorem bindL_get {kindOf:Str->Option NameKind} {x:Str} {v:Value}:∀ {P:List Str} {vs:List Value} {i:Nat} {m:Str->Option Value},P.Nodup->P[i]? = some x->vs[i]? = some v->kindOf x=some .local →
  bindL kindOf (P.zip vs) m x=some v
 | [],_,_,_,_,h,_,_=>by simp at h
 | _ :: _,[],_,_,_,_,h,_=>by simp at h
 | p :: P,w :: vs,0,m,nd,h1,h2,hk=>by
  simp at h1 h2;subst h1;subst h2
  show bindL kindOf ((p,w) :: P.zip vs) m p=_
  unfold bindL
  rw [bindL_out fun v hv=>(List.nodup_cons.mp nd).1 (List.of_mem_zip hv).1,if_pos hk]
  simp
 | p :: P,w :: vs,i+1,m,nd,h1,h2,hk=>by
  show bindL kindOf ((p,w) :: P.zip vs) m x=_
  unfold bindL
  exact bindL_get (i:=i) (List.nodup_cons.mp nd).2 (by simpa using h1) (by simpa using h2) hk
theorem bindC_get {kindOf:Str->Option NameKind} {x:Str} {v:Value}:∀ {P:List Str} {vs:List Value} {i:Nat} {m:Str->Option Value},P.Nodup->P[i]? = some x->vs[i]? = some v->kindOf x≠some .local →
  bindC kindOf (P.zip vs) m x=some v
 | [],_,_,_,_,h,_,_=>by simp at h
 | _ :: _,[],_,_,_,_,h,_=>by simp at h
 | p :: P,w :: vs,0,m,nd,h1,h2,hk=>by
  simp at h1 h2;subst h1;subst h2
  show bindC kindOf ((p,w) :: P.zip vs) m p=_
  unfold bindC
  rw [bindC_out fun v hv=>(List.nodup_cons.mp nd).1 (List.of_mem_zip hv).1,if_neg hk]
  simp
 | p :: P,w :: vs,i+1,m,nd,h1,h2,hk=>by
  show bindC kindOf ((p,w) :: P.zip vs) m x=_
  unfold bindC
  exact bindC_get (i:=i) (List.nodup_cons.mp nd).2 (by simpa using h1) (by simpa using h2) hk
def start (N:List Str) (vs:List V):St:=vs.map some++List.replicate (N.length - vs.length) none
def cxOf (CX:CXT) (P:Program) (w:World) (K:PySem.W.Frag) (mg:Str->Option Value) (base:Heap) (N:List Str) (qual:Str) (scope:Scope) (f:Addr) (cd:Value) (A:Around) (outer:List Env) (s:Shared) (H:Hp) (E:XK):Cx where
 prog:=P
 w:=w
 K:=K
 mg:=mg
 base:=base
 A:=A.deeper (envOfC qual scope s.heap.objs.size f cd)
 N:=N
 s₀:=s
 H₀:=H
 env:=envOfC qual scope s.heap.objs.size f cd
 outer:=outer
 stack:=envOfC qual scope s.heap.objs.size f cd :: outer
 ex:=[]
 calm:=true
 fn:=fun _=>true
 pn:=[]
 xe:=fun e s'=>wpAny (model P w) (A.deeper (envOfC qual scope s.heap.objs.size f cd)) (leaving (envOfC qual scope s.heap.objs.size f cd) e) (fun _ s''=>CX outer H s E e s'') (fun e' s''=>CX outer H s E e' s'') s'
theorem cell_has {sc:Scope} {n:Nat} {x:Str} (h:sc.names.lookup x=some .cell):∃ c,(cellsFrom n sc.names []).lookup x=some c:=by
 have q:=PySem.W.cellsFrom_some sc.names n [] (.inl h)
 exact Option.isSome_iff_exists.mp q
theorem inv_start {CX:CXT} {P:Program} {w:World} {K:PySem.W.Frag} {mg:Str->Option Value} {base:Heap} {N ps:List Str} {qual:Str} {scope:Scope} {f:Addr} {cd:Value} {A:Around} {outer:List Env} {s s1:Shared} {H:Hp} {E:XK} {us:List Value} {vs:List V}
  (S:FnScope N ps scope) (hd:A.handled=none) (e0:Env0 P w K mg base A outer s H) (hl:vs.length=ps.length) (r:Vals vs us)
  (x:InCallC s s.heap.objs.size (bindL (envOfC qual scope s.heap.objs.size f cd).kindOf (ps.zip us) fun _=>none) (cellsFrom (s.heap.objs.size+1) scope.names []) (bindC (envOfC qual scope s.heap.objs.size f cd).kindOf (ps.zip us) fun _=>none) s1) :
  Inv (cxOf CX P w K mg base N qual scope f cd A outer s H E) [] (start N vs) H s1:=by
 have hpl:ps.length<=N.length:=by have:=congrArg List.length S.pre;rw [List.length_take] at this;omega
 obtain ⟨h1,tk,rfl,hk⟩:=x.done
 have noA:∀ b:Addr,b ∉ (cxOf CX P w K mg base N qual scope f cd A outer s H E).ex:=fun b z=>absurd (show b∈([]:List Addr) from z) (by simp)
 refine ⟨⟨e0.mod,S.kind,rfl,rfl,Nat.le_refl _,fun y z c h1 h2=>?_,fun y hy=>?_,fun y c _ h=>?_,fun _=>hd,Around.frames_deeper e0.frames,.inr ⟨rfl,rfl⟩,fun b z=>absurd z (noA b),e0.bs,e0.bsz,fun b _ _=>noA b,fun b z=>absurd z (noA b),e0.funs,e0.frf⟩,
  rfl,e0.bare,Un.kept hk,⟨_,x.toInCall.ns,fun i y v h1 h2 h3=>?_⟩,fun y c h=>⟨_,x.cell y c h⟩,e0.hok.fresh (Nat.le_refl _),fun y c h=>?_,fun p hp=>absurd (show p∈([]:List (Addr×Obj)) from hp) (by simp),e0.hok.kept hk,?_⟩
 ·exact name_of_addr x.apart (PySem.mem_of_lookup h1) (PySem.mem_of_lookup h2)
 ·have hy:scope.names.lookup y=some .cell\/scope.names.lookup y=some .free:=hy
  rcases hy with hy | hy
  ·exact cell_has hy
  ·exact absurd rfl (S.nofree _ (PySem.mem_of_lookup hy))
 ·exact Nat.le_of_lt (x.above y c (PySem.mem_of_lookup h))
 ·have hi:i < vs.length:=by
   unfold start at h2
   by_cases hi:i < vs.length
   ·exact hi
   ·rw [List.getElem?_append_right (by simpa using hi)] at h2
    rw [List.getElem?_replicate] at h2
    split at h2<;>cases h2
  have ha:vs[i]? = some v:=by
   unfold start at h2
   rw [List.getElem?_append_left (by simpa using hi),List.getElem?_map] at h2
   cases e:vs[i]? with
   | none=>rw [e] at h2;cases h2
   | some a=>rw [e] at h2;cases h2;rfl
  obtain ⟨u,hu,rv⟩:=r.get ha
  have hp:ps[i]? = some y:=by
   rw [<-S.pre,List.getElem?_take_of_lt (by omega)];exact h1
  have ndP:ps.Nodup:=by rw [<-S.pre];exact S.nd.sublist (List.take_sublist _ _)
  refine ⟨u,⟨rv,fun _ z=>nomatch z⟩,?_⟩
  rcases S.par y (List.mem_of_getElem? hp) with k | k
  ·exact .inl ⟨k,bindL_get ndP hp hu k⟩
  ·obtain ⟨c,e⟩:=cell_has (n:=s.heap.objs.size+1) k
   refine .inr ⟨.inl k,c,e,?_⟩
   have q:=x.cell y c e
   rw [bindC_get ndP hp hu (by show scope.names.lookup y≠_;rw [k];decide)] at q
   exact q
 ·exact e0.hok.fresh (Nat.le_of_lt (x.above y c (PySem.mem_of_lookup h)))
 ·unfold start
  show _=N.length
  rw [List.length_append,List.length_map,List.length_replicate]
  omega
theorem fn_of {CX:CXT} {P:Program} {w:World} {K:PySem.W.Frag} {mg:Str->Option Value} {base:Heap} {k:Nat} {f:Addr} {name qual:Str} {params:Arguments} {body:List Stmt} {scope:Scope} {dV kV doc pm cdv ct oc:Value} {an od:Option Addr}
  {osl:Array (Option Value)} {N ps:List Str} {sp:Sp} (lk:K.lookup f=some ⟨oc,od,.func (PySem.W.fnOf name qual params body scope dV kV doc pm an cdv ct),osl⟩) (hcd:PySem.W.codeIn K cdv qual=true) (S:FnScope N ps scope)
  (len:∀ vs H Q E,sp vs H Q E->vs.length=ps.length)
  (hbody:∀ (A:Around) (outer:List Env) (s:Shared) (H:Hp) (vs:List V) (Q:VK) (E:XK),Room k (A.deeper (envOfC qual scope s.heap.objs.size f cdv))->sp vs H Q E →
   ∃ t,PSs (cxOf CX P w K mg base N qual scope f cdv A outer s H E) body t/\t { nx:=fun _ H'=>Q .non H',rt:=Q } (start N vs) H) :
  FnOk P w K mg base CX (k+1) f (PySem.W.fnOf name qual params body scope dV kV doc pm an cdv ct) ps sp:=by
 refine ⟨len,fun A outer s H args us vs Q E hr e0 hb r hsp=>?_⟩
 have hl:=len _ _ _ _ hsp
 have KX:K.In s.heap:=e0.mod.kin.keeps fun b o e=>(e0.bs b o e).1
 have lim:s.heap.NoLimit:=e0.mod.nolimit.keeps fun b o e=>(e0.bs b o e).1
 have hkind:∀ y∈ps.zip us,scope.names.lookup y.1=some .local\/(scope.names.lookup y.1=some .cell/\((cellsFrom (s.heap.objs.size+1) scope.names []).lookup y.1).isSome=true):=fun ⟨n,v⟩ hy=>by
  rcases S.par n (List.of_mem_zip hy).1 with q | q
  ·exact .inl q
  ·exact .inr ⟨q,PySem.W.cellsFrom_some _ _ _ (.inl q)⟩
 refine codeAny_call_function hr.depth (KX _ _ lk) rfl S.co S.gen rfl (PySem.W.codeRec_of KX hcd) (hb _ _ _ _ ?_)
 refine wpAny_newFunctionEnv_cells S.kind hkind fun env he s1 x=>?_
 subst he
 refine ⟨lim.keeps x.toInCall.keep,codeAny_func ?_⟩
 obtain ⟨t,ht,hq⟩:=hbody A outer s H vs Q E (hr.deeper _) hsp
 have I:Inv (cxOf CX P w K mg base N qual scope f cdv A outer s H E) [] (start N vs) H s1:=inv_start S hr.hd e0 hl r x
 refine wpAny_mono (ht [] s1 (start N vs) H _ I hq) (fun fl s' hs=>?_) fun e s' hs=>hs
 have fin:∀ {σ':St} {H':Hp} {v:V} {u:Value},Inv (cxOf CX P w K mg base N qual scope f cdv A outer s H E) [] σ' H' s'->RelV v u->Q v H'->CE outer P w H s Q u s':=
  fun {σ' H' v u} J rv q=>⟨v,H',J.os,J.bare,J.base,J.hok,rv,q⟩
 cases fl with
 | ret u=>
  obtain ⟨v,σ',H',J,rv,q⟩:=hs
  exact fin J rv q
 | next=>
  obtain ⟨σ',H',J,q⟩:=hs
  exact fin (v:=V.non) (u:=Value.none) J rfl q
 | brk=>
  obtain ⟨_,_,_,q⟩:=hs
  exact False.elim q
 | cont=>
  obtain ⟨_,_,_,q⟩:=hs
  exact False.elim q
end L2
namespace L2
open PySem PySem.Spec PyProof.Rows
section
variable {X:Cx} {x:Str} {p pos:Pos} {e:Expr} {es:List Expr} {t:TA} {id T:String} {r:List V->Hp->VK->Prop}
def tCB (r:List V->Hp->VK->Prop) (t:TA):TE:=fun σ H Q=>t σ H fun vs H1=>r vs H1 Q
theorem pe_callB (hc:CallR X (.builtin id) r) (hg:Gl X x) (hm:X.mg x=none) (hv:bootBuiltins x=some (.builtin id)) (ha:PA X (e :: es) t) (hn:x≠"__name__" := by decide) (hdb:(x == ("__debug__" : Str))=false:=by decide)
  (he:starEach (e :: es) X.env=(false,eval e X.env) :: starEach es X.env:=by rfl) (hpl:(backTo pos (starEach es X.env)).any (·.1)=false:=by rfl):PE X (.Call (.Name x p) (e :: es) [] pos) (tCB r t):=by
 intro pins s σ H Q I h
 refine wpAny_Call_Name_kw (ld_blt I hg hm hv ?_ hn hdb)
 exact PyProof.Rows.callWith_builtin1 (thn (ha pos pins s σ H _ I h) fun us s1 ⟨vs,H1,I1,r1,q1⟩=>hc pins s1 σ H1 vs us Q I1 r1 q1) he hpl
theorem pe_callTy (hc:CallR X (.type T) r) (hg:Gl X x) (hm:X.mg x=none) (hv:bootBuiltins x=some (.type T)) (ha:PA X (e :: es) t) (hn:x≠"__name__" := by decide) (hdb:(x == ("__debug__" : Str))=false:=by decide)
  (he:starEach (e :: es) X.env=(false,eval e X.env) :: starEach es X.env:=by rfl) (hpl:(backTo pos (starEach es X.env)).any (·.1)=false:=by rfl):PE X (.Call (.Name x p) (e :: es) [] pos) (tCB r t):=by
 intro pins s σ H Q I h
 refine wpAny_Call_Name_kw (ld_blt I hg hm hv ?_ hn hdb)
 exact PyProof.Rows.callWith_type1 (thn (ha pos pins s σ H _ I h) fun us s1 ⟨vs,H1,I1,r1,q1⟩=>hc pins s1 σ H1 vs us Q I1 r1 q1) he hpl
end
end L2
namespace HT
open PySem PyProof.Rows
section
open PySem.SeqAt
open PySem.AutoSeq1 (wpAny_loadPart')
open PySem.MeetsSeq PySem.MeetsSeq2 PySem.MeetsSeq3
end
section
variable {prog:Program} {w:World} {A:Around} {E:Value->Shared->Prop} {s:Shared}
def sIx (n d:Nat):Option Int->Nat
 | none=>d
 | some v=>if v < 0 then (v+(n:Int)).toNat else min v.toNat n
theorem sIx_none (n d:Nat):sIx n d none=d:=rfl
theorem sIx_nat (n d k:Nat):sIx n d (some (k:Int))=min k n:=by
 show (if (k:Int) < 0 then ((k:Int)+(n:Int)).toNat else min (k:Int).toNat n)=min k n
 rw [if_neg (by omega),Int.toNat_natCast]
end
end HT
namespace L2
open PySem PySem.Spec PyProof.Rows
abbrev TO:=St->Hp->(Option Int->Hp->Prop)->Prop
def PO (X:Cx) (e:Option Expr) (t:TO):Prop:=
 ∀ (pins:List (Addr×Obj)) (s:Shared) (σ:St) (H:Hp) (Q:Option Int->Hp->Prop),Inv X pins σ H s->t σ H Q →
  wpAny (model X.prog X.w) X.A (evalPart e X.env) (fun u s'=>∃ o H',Inv X pins σ H' s'/\IsPart u o/\Q o H') X.xe s
def tNoPart:TO:=fun _ H Q=>Q none H
section
variable {X:Cx} {e:Expr} {te:TE} {lo hi:Option Expr} {tl th:TO} {pos p2:Pos}
theorem po_none:PO X none tNoPart:=by
 intro pins s σ H Q I h
 rw [evalPart_none]
 exact wpAny_pure ⟨none,H,I,.none,h⟩
def SlR (X:Cx) (r:V->Option Int->Option Int->Hp->VK->Prop):Prop:=
 ∀ (pins:List (Addr×Obj)) (s:Shared) (σ:St) (H:Hp) (x:V) (v vl vu:Value) (lo hi:Option Int) (sl:Addr) (Q:VK),Inv X pins σ H s->RelV x v->s.heap.IsSliceOf sl vl vu .none->IsPart vl lo->IsPart vu hi->r x lo hi H Q →
  ∃ T id,typeLookup (.type T) "__getitem__" = pure (some (.builtin id))/\s.TypeIs v T/\wpAny (model X.prog X.w) X.A (getItem v (.ref sl)) (EP X pins σ Q) X.xe s
theorem SlR.or {r r':V->Option Int->Option Int->Hp->VK->Prop} (h:SlR X r) (h':SlR X r'):SlR X (fun x lo hi H Q=>r x lo hi H Q\/r' x lo hi H Q):=by
 intro pins s σ H x v vl vu lo hi sl Q I rx hs pl pu q
 rcases q with q | q
 ·exact h pins s σ H x v vl vu lo hi sl Q I rx hs pl pu q
 ·exact h' pins s σ H x v vl vu lo hi sl Q I rx hs pl pu q
def tSl (r:V->Option Int->Option Int->Hp->VK->Prop) (te:TE) (tl th:TO):TE:=fun σ H Q=>te σ H fun x H1=>tl σ H1 fun l H2=>th σ H2 fun u H3=>r x l u H3 Q
theorem pe_slice {r:V->Option Int->Option Int->Hp->VK->Prop} (hr:SlR X r) (he:PE X e te) (hl:PO X lo tl) (hu:PO X hi th):PE X (.Subscript e (.Slice lo hi none p2) pos) (tSl r te tl th):=by
 intro pins s σ H Q I h
 refine Subscript_ (thn (he pins s σ H _ I h) fun v s1 ⟨x,H1,I1,r1,q1⟩=>?_)
 refine wpAny_Slice (thn (hl pins s1 σ H1 _ I1 q1) fun vl s2 ⟨l,H2,I2,pl,q2⟩=>thn (hu pins s2 σ H2 _ I2 q2) fun vu s3 ⟨u,H3,I3,pu,q3⟩=>?_)
 rw [evalPart_none]
 refine wpAny_pure ?_
 have I4:Inv X pins σ H3 { s3 with heap:=s3.heap.push { cls:=.type "slice",data:=.fields #[vl,vu,.none] } }:=I3.kept (t':=s3.toks) fun b ob q=>Heap.get?_push_of_some _ q
 obtain ⟨T,id,hT,ht,hg⟩:=hr pins { s3 with heap:=s3.heap.push { cls:=.type "slice",data:=.fields #[vl,vu,.none] } } σ H3 x v vl vu l u s3.heap.objs.size Q I4 r1 (Heap.IsSliceOf.new ..) pl pu q3
 show wpAny (model X.prog X.w) X.A (subscriptTail e (.Slice lo hi none p2) v (.ref s3.heap.objs.size)) (EP X pins σ Q) X.xe { s3 with heap:=s3.heap.push { cls:=.type "slice",data:=.fields #[vl,vu,.none] } }
 exact tail_any (ops:=[.ref s3.heap.objs.size,v]) ht hT hg (by with_unfolding_all rfl)
def cutV (xs:List V) (lo hi:Option Int):List V:=(xs.drop (HT.sIx xs.length 0 lo)).take (HT.sIx xs.length xs.length hi - HT.sIx xs.length 0 lo)
theorem cutV_length (xs:List V) (lo hi:Option Int):(cutV xs lo hi).length<=xs.length:=by
 unfold cutV
 rw [List.length_take,List.length_drop]
 omega
end
end L2
namespace L2
open PySem PySem.Spec PyProof.Rows
def ixN (n:Nat) (i:Int):Option Nat:=if 0<=i then (if i < n then some i.toNat else none) else if -(n:Int)<=i then some (i+n).toNat else none
def atI {α:Type} (xs:List α) (i:Int):Option α:=(ixN xs.length i).bind fun j=>xs[j]?
theorem ixN_seq {n:Nat} {i:Int} {j:Nat} (h:ixN n i=some j):seqIndex? i n=some j/\j < n/\-(n:Int)<=i/\i < n:=by
 unfold ixN at h
 by_cases h0:0<=i
 ·rw [if_pos h0] at h
  by_cases h1:i < n
  ·rw [if_pos h1] at h
   have e:i.toNat=j:=Option.some.inj h
   exact ⟨by rw [seqIndex_of h0 h1,e],by omega,by omega,h1⟩
  ·rw [if_neg h1] at h;cases h
 ·rw [if_neg h0] at h
  by_cases h1 : -(n:Int)<=i
  ·rw [if_pos h1] at h
   have e:(i+n).toNat=j:=Option.some.inj h
   exact ⟨by rw [seqIndex_neg (by omega) h1,e],by omega,h1,by omega⟩
  ·rw [if_neg h1] at h;cases h
theorem atI_get {α:Type} {xs:List α} {i:Int} {v:α} (h:atI xs i=some v):∃ j,seqIndex? i xs.length=some j/\xs[j]? = some v/\j < xs.length/\-(xs.length:Int)<=i/\i < xs.length:=by
 unfold atI at h
 cases e:ixN xs.length i with
 | none=>rw [e] at h;cases h
 | some j=>
  rw [e] at h
  obtain ⟨h1,h2,h3,h4⟩:=ixN_seq e
  exact ⟨j,h1,h,h2,h3,h4⟩
theorem atI_nat {α:Type} {xs:List α} {j:Nat} {v:α} (h:xs[j]? = some v):atI xs (j:Int)=some v:=by
 have hj:j < xs.length:=(List.getElem?_eq_some_iff.mp h).1
 have e:ixN xs.length (j:Int)=some j:=by
  unfold ixN
  rw [if_pos (by omega),if_pos (by omega)];simp
 unfold atI;rw [e];exact h
theorem atI_last {α:Type} (xs:List α) (v:α):atI (xs++[v]) (-1)=some v:=by
 have hl:(xs++[v]).length=xs.length+1:=by simp
 have e:ixN (xs++[v]).length (-1)=some xs.length:=by
  unfold ixN
  rw [hl,if_neg (by decide),if_pos (by omega)]
  congr 1
  omega
 unfold atI
 rw [e]
 show (xs++[v])[xs.length]? = some v
 simp
def PlainIx (b:Expr):Prop:=∀ o i,subscripted b false o i=operate [o,i] (getItem o i)
def IxR (X:Cx) (r:R2):Prop:=
 ∀ (value slice:Expr) (pins:List (Addr×Obj)) (s:Shared) (σ:St) (H:Hp) (x y:V) (v u:Value) (Q:VK),Inv X pins σ H s->RelV x v->RelV y u->r x y H Q →
  subscripted slice false v u=operate [v,u] (getItem v u)->wpAny (model X.prog X.w) X.A (subscriptTail value slice v u) (EP X pins σ Q) X.xe s
section
variable {X:Cx} {a b:Expr} {ta tb:TE} {pos:Pos}
theorem IxR.or {r r':R2} (h:IxR X r) (h':IxR X r'):IxR X (fun x y H Q=>r x y H Q\/r' x y H Q):=by
 intro value slice pins s σ H x y v u Q I rx ry q hs
 rcases q with q | q
 ·exact h value slice pins s σ H x y v u Q I rx ry q hs
 ·exact h' value slice pins s σ H x y v u Q I rx ry q hs
theorem pe_ix {r:R2} (hr:IxR X r) (ha:PE X a ta) (hb:PE X b tb) (hs:PlainIx b):PE X (.Subscript a b pos) (tOp r ta tb):=by
 intro pins s σ H Q I h
 exact Subscript_ (binT ha hb I h fun v u s2 x y H2 I2 rx ry q=>hr a b pins s2 σ H2 x y v u Q I2 rx ry q (hs _ _))
def rIxL (K:PySem.W.Frag):R2:=fun x y H Q=>∃ p xs i v,x = .ref p/\y = .int i/\SqL K H p xs/\atI xs i=some v/\Q v H
def rIxT (K:PySem.W.Frag):R2:=fun x y H Q=>∃ p xs i v,x = .ref p/\y = .int i/\SqT K H p xs/\atI xs i=some v/\Q v H
def rIxS:R2:=fun x y H Q=>∃ z i c,x = .str z/\y = .int i/\z.length<=sizeLine/\atI z.cps.toList i=some c/\Q (.str ⟨#[c]⟩) H
theorem ix_list:IxR X (rIxL X.K):=by
 intro value slice pins s σ H x y v u Q I rx ry h hs
 obtain ⟨p,xs,i,z,rfl,rfl,hq,he,q⟩:=h
 cases rx
 obtain ⟨t,rfl⟩:=ry
 obtain ⟨its,r,pl,hz⟩:=I.list hq
 obtain ⟨j,h1,h2,h3,h4,h5⟩:=atI_get he
 obtain ⟨w,ew,rw'⟩:=r.get h2
 have hl:=r.length
 have hn:=line63
 have fin:EP X pins σ Q w s:=⟨z,H,I,rw',q⟩
 by_cases h0:0<=i
 ·have hj:i.toNat=j:=by
   rw [seqIndex_of h0 h5] at h1
   exact Option.some.inj h1
  exact item_listR pl.isList h0 (by omega) (by rw [hj];simpa using ew) fin hs
 ·have hj:(i+(its.toArray.size:Int)).toNat=j:=by
   rw [seqIndex_neg (by omega) h4] at h1
   rw [List.size_toArray,<-hl]
   exact Option.some.inj h1
  exact subscriptTail_builtinR (x:=w) pl.isList.typeIs slot_list_getitem.lookup
   (wpAny_getItem_list_neg (Q:=fun r s'=>r=w/\EP X pins σ Q r s') pl.isList (by omega) (by rw [List.size_toArray]<;>omega) (by omega) (by rw [hj];simpa using ew) ⟨rfl,fin⟩) hs
theorem ix_tup:IxR X (rIxT X.K):=by
 intro value slice pins s σ H x y v u Q I rx ry h hs
 obtain ⟨p,xs,i,z,rfl,rfl,hq,he,q⟩:=h
 cases rx
 obtain ⟨t,rfl⟩:=ry
 obtain ⟨its,r,pl,hz⟩:=I.tuple hq
 obtain ⟨j,h1,h2,h3,h4,h5⟩:=atI_get he
 obtain ⟨w,ew,rw'⟩:=r.get h2
 have hl:=r.length
 have hn:=line63
 have fin:EP X pins σ Q w s:=⟨z,H,I,rw',q⟩
 exact subscriptTail_builtinR (x:=w) pl.typeIs slot_tuple_getitem.lookup
  (getItem_tuple (j:=j) (Q:=fun r s'=>r=w/\EP X pins σ Q r s') pl (by omega) (by omega) (by rw [List.size_toArray,<-hl];exact h1) (by simpa using ew) ⟨rfl,fin⟩) hs
theorem ix_str:IxR X rIxS:=by
 intro value slice pins s σ H x y v u Q I rx ry h hs
 obtain ⟨z,i,c,rfl,rfl,hz,he,q⟩:=h
 obtain ⟨t,rfl⟩:=rx
 obtain ⟨t',rfl⟩:=ry
 obtain ⟨j,h1,h2,h3,h4,h5⟩:=atI_get he
 have hl:z.cps.toList.length=z.length:=by simp [Str.length]
 rw [hl] at h1 h4 h5
 have hn:=line63
 exact tail_any (typeIs_str s z t) slot_str_getitem.lookup (getItem_str (c:=c) (by
  have e1:decide (i < -(2 ^ 63:Int))=false:=decide_eq_false (by omega)
  have e2:decide (i ≥ 2 ^ 63)=false:=decide_eq_false (by omega)
  rw [e1,e2,Bool.or_false]) (by rw [h1];simpa using h2) ⟨.str ⟨#[c]⟩,H,I.tok _,⟨_,rfl⟩,q⟩) hs
def rIx (K:PySem.W.Frag):R2:=fun x y H Q=>rIxL K x y H Q\/rIxT K x y H Q\/rIxS x y H Q
theorem ix_seq:IxR X (rIx X.K):=ix_list.or (ix_tup.or ix_str)
theorem mapSeq_set (its:List Value) (n j:Nat) (u:Value):Obj.mapSeq (·.setIfInBounds j u) { cls:=.type "list",data:=.seq its.toArray n }={ cls:=.type "list",data:=.seq (its.set j u).toArray n }:=by
 simp [Obj.mapSeq]
theorem Inv.lst {pins:List (Addr×Obj)} {σ:St} {H:Hp} {s:Shared} {p:Addr} {xs:List V} (I:Inv X pins σ H s) (h:H p=some (.lst xs)) :
  ∃ (its:List Value) (n:Nat),Vals xs its/\s.heap.get? p=some { cls:=.type "list",data:=.seq its.toArray n }/\xs.length<=sizeLine:=by
 obtain ⟨z,its,n,r,e⟩:=I.hok p _ h
 exact ⟨its,n,r,e,z⟩
theorem Inv.lstUpd {pins:List (Addr×Obj)} {σ:St} {H:Hp} {s:Shared} {p:Addr} {xs ys:List V} {its its':List Value} {n n':Nat} {f:Obj->Obj} (I:Inv X pins σ H s) (h:H p=some (.lst xs))
  (ho:s.heap.get? p=some { cls:=.type "list",data:=.seq its.toArray n }) (hf:f { cls:=.type "list",data:=.seq its.toArray n }={ cls:=.type "list",data:=.seq its'.toArray n' }) (r:Vals ys its') (hz:ys.length<=sizeLine) (t:Nat) :
  Inv X pins σ (upd H p (.lst ys)) { s with heap:=s.heap.update p f,toks:=t }:=by
 have e:(s.heap.update p f).get? p=some { cls:=.type "list",data:=.seq its'.toArray n' }:=by
  rw [Heap.get?_update_self f ho (by rw [hf]<;>rfl),hf]
 refine I.write (x:=p) (e:=p) (by rw [h];trivial) (.inl rfl) (fun b u hb q=>(Heap.get?_update_other _ _ (Ne.symm hb)).trans q) ⟨_,e⟩ ?_
 exact ⟨hz,its',n',r,e⟩
def rSetL:V->V->V->Hp->(Hp->Prop)->Prop:=fun o i v H Q=>∃ p xs k j,o = .ref p/\i = .int k/\H p=some (.lst xs)/\ixN xs.length k=some j/\Q (upd H p (.lst (xs.set j v)))
theorem set_list:PSet X rSetL:=by
 intro pins s σ H o i v ov iv u Q I ro ri rv h
 obtain ⟨p,xs,k,j,rfl,rfl,hp,hj,q⟩:=h
 cases ro
 obtain ⟨t,rfl⟩:=ri
 obtain ⟨its,n,r,ho,hz⟩:=I.lst hp
 obtain ⟨h1,h2,h3,h4⟩:=ixN_seq hj
 have hl:=r.length
 have hn:=line63
 have I':Inv X pins σ (upd H p (.lst (xs.set j v))) { s with heap:=s.heap.update p (Obj.mapSeq (·.setIfInBounds j u)) }:=
  I.lstUpd hp ho (mapSeq_set its n j u) (r.set rv j) (by rw [List.length_set];exact hz) s.toks
 by_cases h0:0<=k
 ·have hk:k.toNat=j:=by
   rw [seqIndex_of h0 h4] at h1
   exact Option.some.inj h1
  exact PySem.W.ki_setAt ho h0 (by omega) (by rw [List.size_toArray,<-hl];exact h4) (by rw [hk];exact ⟨_,I',q⟩)
 ·have hk:(k+(its.toArray.size:Int)).toNat=j:=by
   rw [seqIndex_neg (by omega) h3] at h1
   rw [List.size_toArray,<-hl]
   exact Option.some.inj h1
  exact PySem.W.ki_setBack ho (by omega) (by rw [List.size_toArray,<-hl];exact h3) (by omega) (by rw [hk];exact ⟨_,I',q⟩)
theorem slice_bounds (lo hi:Option Int) (n:Nat):(sliceBounds lo hi none n).1=((HT.sIx n 0 lo:Nat):Int)/\(sliceBounds lo hi none n).2.1=((HT.sIx n n hi:Nat):Int)/\(sliceBounds lo hi none n).2.2=1:=by
 refine ⟨?_,?_,rfl⟩
 ·cases lo with
  | none=>simp [sliceBounds,HT.sIx]
  | some i=>
   simp only [sliceBounds,HT.sIx,Option.getD_none,show (1:Int) > 0 by decide,if_true]
   by_cases h:i < 0
   ·simp only [h,if_true]<;>omega
   ·simp only [h,if_false]<;>omega
 ·cases hi with
  | none=>simp [sliceBounds,HT.sIx]
  | some i=>
   simp only [sliceBounds,HT.sIx,Option.getD_none,show (1:Int) > 0 by decide,if_true]
   by_cases h:i < 0
   ·simp only [h,if_true]<;>omega
   ·simp only [h,if_false]<;>omega
theorem slicePick_cut (its:List Value) (lo hi:Option Int):slicePick its.toArray lo hi none=((its.drop (HT.sIx its.length 0 lo)).take (HT.sIx its.length its.length hi - HT.sIx its.length 0 lo)).toArray:=by
 obtain ⟨h1,h2,h3⟩:=slice_bounds lo hi its.toArray.size
 unfold slicePick
 rw [h1,h2,h3]
 simp only [sliceRange_one,pick_run,List.size_toArray]<;>rfl
def rSlL (K:PySem.W.Frag):V->Option Int->Option Int->Hp->VK->Prop:=fun x lo hi H Q=>∃ a xs,x = .ref a/\SqL K H a xs/\∀ p,H p=none->Q (.ref p) (upd H p (.lst (cutV xs lo hi)))
theorem sl_list:SlR X (rSlL X.K):=by
 intro pins s σ H x v vl vu lo hi sl Q I rx hs pl pu h
 obtain ⟨a,xs,rfl,hx,q⟩:=h
 cases rx
 obtain ⟨its,r,ht,hz⟩:=I.list hx
 have hlen:=r.length
 refine ⟨"list",_,slot_list_getitem.lookup,ht.isList.typeIs,?_⟩
 refine wpAny_getItem_list_slice ht.isList hs pl pu .none (by simp) ?_ (by rw [List.size_toArray]<;>omega)
 rw [slicePick_cut,<-hlen]
 refine ⟨.ref s.heap.objs.size,_,I.laid (t':=s.toks) (o:=.lst (cutV xs lo hi)) (fun b ob q=>Heap.get?_push_of_some _ q) (Nat.le_refl _) ?_,rfl,q _ (I.hok.fresh (Nat.le_refl _))⟩
 exact ⟨Nat.le_trans (cutV_length xs lo hi) hz,_,0,(r.drop (HT.sIx xs.length 0 lo)).take (HT.sIx xs.length xs.length hi - HT.sIx xs.length 0 lo),Heap.get?_push_size _ rfl⟩
def flatV:V->Bool
 | .non=>true
 | .bl _=>true
 | .int _=>true
 | .str _=>true
 | _=>false
def eqV:V->V->Bool
 | .non,.non=>true
 | .bl a,.bl b=>a == b
 | .bl a,.int b=>(if a then 1 else 0) == b
 | .int a,.bl b=>a == (if b then 1 else 0)
 | .int a,.int b=>a == b
 | .str a,.str b=>a == b
 | _,_=>false
theorem eqAt_V {A:Around} {s:Shared} {y x:V} {u v:Value} (ry:RelV y u) (rx:RelV x v) (fy:flatV y=true) (fx:flatV x=true):SeqAt.EqAt A s u v (eqV y x):=by
 cases y with
 | non=>
  cases ry
  cases x with
  | non=>cases rx;exact SeqAt.EqAt.same _
  | bl b=>cases rx;exact SeqAt.EqAt.none_bool b
  | int b=>obtain ⟨t,rfl⟩:=rx;exact SeqAt.EqAt.none_int b t
  | str b=>obtain ⟨t,rfl⟩:=rx;exact SeqAt.EqAt.none_str b t
  | _=>exact absurd (show false=true from fx) Bool.false_ne_true
 | bl a=>
  cases ry
  cases x with
  | non=>cases rx;exact SeqAt.EqAt.bool_none a
  | bl b=>cases rx;exact SeqAt.EqAt.bool_bool a b
  | int b=>obtain ⟨t,rfl⟩:=rx;exact SeqAt.EqAt.bool_int a b t
  | str b=>obtain ⟨t,rfl⟩:=rx;exact SeqAt.EqAt.bool_str a b t
  | _=>exact absurd (show false=true from fx) Bool.false_ne_true
 | int a=>
  obtain ⟨t',rfl⟩:=ry
  cases x with
  | non=>cases rx;exact SeqAt.EqAt.int_none a t'
  | bl b=>cases rx;exact SeqAt.EqAt.int_bool a t' b
  | int b=>obtain ⟨t,rfl⟩:=rx;exact SeqAt.EqAt.int_int a t' b t
  | str b=>obtain ⟨t,rfl⟩:=rx;exact SeqAt.EqAt.int_str a t' b t
  | _=>exact absurd (show false=true from fx) Bool.false_ne_true
 | str a=>
  obtain ⟨t',rfl⟩:=ry
  cases x with
  | non=>cases rx;exact SeqAt.EqAt.str_none a t'
  | bl b=>cases rx;exact SeqAt.EqAt.str_bool a t' b
  | int b=>obtain ⟨t,rfl⟩:=rx;exact SeqAt.EqAt.str_int a t' b t
  | str b=>obtain ⟨t,rfl⟩:=rx;exact SeqAt.EqAt.str_str a t' b t
  | _=>exact absurd (show false=true from fx) Bool.false_ne_true
 | _=>exact absurd (show false=true from fy) Bool.false_ne_true
def eqU (x:V) (u:Value):Bool:=match u with
 | .none=>eqV .non x
 | .bool b=>eqV (.bl b) x
 | .int i _=>eqV (.int i) x
 | .str z _=>eqV (.str z) x
 | _=>false
theorem eqU_of {x y:V} {u:Value} (r:RelV y u) (f:flatV y=true):eqU x u=eqV y x:=by
 cases y with
 | non=>cases r;rfl
 | bl b=>cases r;rfl
 | int i=>obtain ⟨t,rfl⟩:=r;rfl
 | str z=>obtain ⟨t,rfl⟩:=r;rfl
 | _=>exact absurd (show false=true from f) Bool.false_ne_true
theorem any_eqU {x:V}:∀ {xs:List V} {us:List Value},Vals xs us->xs.all flatV=true->us.any (eqU x)=xs.any fun y=>eqV y x
 | _,_,.nil,_=>rfl
 | y :: xs,u :: us,.cons r t,f=>by
  rw [List.all_cons,Bool.and_eq_true] at f
  rw [List.any_cons,List.any_cons,eqU_of r f.1,any_eqU t f.2]
theorem mem_eqAt {A:Around} {s:Shared} {x:V} {v:Value} (rx:RelV x v) (fx:flatV x=true):∀ {xs:List V} {us:List Value},Vals xs us->xs.all flatV=true->∀ u∈us,SeqAt.EqAt A s u v (eqU x u)
 | _,_,.nil,_=>fun u hu=>by cases hu
 | y :: xs,u :: us,.cons r t,f=>fun u' hu=>by
  rw [List.all_cons,Bool.and_eq_true] at f
  rcases List.mem_cons.mp hu with rfl | hu
  ·rw [eqU_of r f.1];exact eqAt_V r rx f.1 fx
  ·exact mem_eqAt rx fx t f.2 u' hu
def inV (x:V) (xs:List V):Bool:=xs.any fun y=>eqV y x
def rIn (K:PySem.W.Frag) (neg:Bool):R2:=fun x y H Q=>∃ p xs,y = .ref p/\(SqL K H p xs\/SqT K H p xs)/\flatV x=true/\xs.all flatV=true/\Q (.bl (if neg then !inV x xs else inV x xs)) H
theorem op_in_seq:OpR X (compareOp .In) (rIn X.K false):=by
 intro pins s σ H x y v u Q I rx ry h
 obtain ⟨p,xs,rfl,hq,fx,fs,q⟩:=h
 cases ry
 rcases hq with hq | hq
 ·obtain ⟨its,r,pl,hz⟩:=I.list hq
  refine SeqAt.in_listAt (eqU x) pl.isList (fun w hw=>mem_eqAt rx fx r fs w (by simpa using hw)) ⟨.bl _,H,I,rfl,?_⟩
  rw [show its.toArray.any (eqU x)=its.any (eqU x) by simp,any_eqU r fs]
  exact q
 ·obtain ⟨its,r,pl,hz⟩:=I.tuple hq
  refine SeqAt.in_tupleAt (eqU x) pl (fun w hw=>mem_eqAt rx fx r fs w (by simpa using hw)) ⟨.bl _,H,I,rfl,?_⟩
  rw [show its.toArray.any (eqU x)=its.any (eqU x) by simp,any_eqU r fs]
  exact q
theorem call_len_seq:CallR X (.builtin "len") (fun xs H Q=>∃ p ys,xs=[.ref p]/\(SqL X.K H p ys\/SqT X.K H p ys)/\Q (.int ys.length) H):=by
 intro pins s σ H xs us Q I r h
 obtain ⟨p,ys,rfl,hq,q⟩:=h
 obtain ⟨u,rfl,rx⟩:=vals1 r
 cases rx
 have hn:=line63
 rcases hq with hq | hq
 ·obtain ⟨its,r',pl,hz⟩:=I.list hq
  have hlen:=r'.length
  exact Calls.call_len_list pl.isList (by simp only [List.size_toArray]<;>omega) ⟨.int ys.length,H,I.tok _,⟨s.toks+1,by rw [List.size_toArray,hlen]⟩,q⟩
 ·obtain ⟨its,r',pl,hz⟩:=I.tuple hq
  have hlen:=r'.length
  exact len_tuple pl (by simp only [List.size_toArray]<;>omega) ⟨.int ys.length,H,I.tok _,⟨s.toks+1,by rw [List.size_toArray,hlen]⟩,q⟩
theorem call_len_str:CallR X (.builtin "len") (fun xs H Q=>∃ z,xs=[.str z]/\z.length<=sizeLine/\Q (.int z.length) H):=by
 intro pins s σ H xs us Q I r h
 obtain ⟨z,rfl,hz,q⟩:=h
 obtain ⟨u,rfl,t,rfl⟩:=vals1 r
 have hn:=line63
 exact len_str (by omega) ⟨.int z.length,H,I.tok _,⟨_,rfl⟩,q⟩
theorem CallR.or {f:Value} {r r':List V->Hp->VK->Prop} (h:CallR X f r) (h':CallR X f r'):CallR X f (fun xs H Q=>r xs H Q\/r' xs H Q):=by
 intro pins s σ H xs us Q I rs q
 rcases q with q | q
 ·exact h pins s σ H xs us Q I rs q
 ·exact h' pins s σ H xs us Q I rs q
theorem call_tuple_of:CallR X (.type "tuple") (fun xs H Q=>∃ p ys,xs=[.ref p]/\((SqL X.K H p ys/\∀ l,H l=none->Q (.ref l) (upd H l (.tup ys)))\/(SqT X.K H p ys/\Q (.ref p) H))):=by
 intro pins s σ H xs us Q I r h
 obtain ⟨p,ys,rfl,h⟩:=h
 obtain ⟨u,rfl,rx⟩:=vals1 r
 cases rx
 rcases h with ⟨hq,q⟩ | ⟨hq,q⟩
 ·obtain ⟨its,r',pl,hz⟩:=I.list hq
  have hlen:=r'.length
  refine call_tuple_list pl.isList (fun h' kp=>?_) (by simp only [List.size_toArray]<;>omega)
  have I1:Inv X pins σ H { s with heap:=h' }:=I.kept (t':=s.toks) kp
  have I2:Inv X pins σ (upd H h'.objs.size (.tup ys)) { s with heap:=h'.push { cls:=.type "tuple",data:=.seq its.toArray } }:=
   I1.laid (t':=s.toks) (fun b o e=>Heap.get?_push_of_some _ e) (Nat.le_refl _) (show ObjOk X.prog X.w _ _ _ (.tup ys) from ⟨hz,its,r',IsTup.new _ _⟩)
  exact ⟨.ref h'.objs.size,_,I2,rfl,q _ (I1.hok.fresh (Nat.le_refl _))⟩
 ·obtain ⟨its,r',pl,hz⟩:=I.tuple hq
  exact call_tuple_same pl ⟨.ref p,H,I,rfl,q⟩
def tyV (K:PySem.W.Frag) (T:String) (x:V) (H:Hp):Prop:=match x with
 | .str _=>T = "str"
 | .int _=>T = "int"
 | .ref p=>(T = "list"/\∃ xs,SqL K H p xs)\/(T = "tuple"/\∃ o,K.lookup p=some o/\o.cls = .type "tuple"/\o.dict=none) ∨
   (T = "dict"/\((∃ kvs,H p=some (.dK kvs))\/∃ kvs,H p=some (.dT kvs)))\/(T = "set"/\∃ S n,H p=some (.set S n))
 | _=>False
theorem tyV_is {pins:List (Addr×Obj)} {σ:St} {H:Hp} {s:Shared} {T:String} {x:V} {v:Value} (I:Inv X pins σ H s) (r:RelV x v) (ty:tyV X.K T x H) :
  s.TypeIs v T/\∀ a,v = .ref a->∃ ob,s.heap.get? a=some ob/\ob.dict=none:=by
 cases x with
 | str z=>
  obtain ⟨t,rfl⟩:=r
  cases (show T = "str" from ty)
  exact ⟨typeIs_str s z t,fun _ e=>nomatch e⟩
 | int i=>
  obtain ⟨t,rfl⟩:=r
  cases (show T = "int" from ty)
  exact ⟨typeIs_int s i t,fun _ e=>nomatch e⟩
 | ref p=>
  cases r
  rcases ty with ⟨rfl,xs,hq⟩ | ⟨rfl,o,hk,hc,hd⟩ | ⟨rfl,hk⟩ | ⟨rfl,S,n,hk⟩
  ·obtain ⟨its,_,pl,_⟩:=I.list hq
   refine ⟨pl.isList.typeIs,fun a e=>?_⟩
   cases e
   obtain ⟨o,n,e,c,hd,_⟩:=pl
   exact ⟨o,e,hd⟩
  ·refine ⟨⟨o,I.kIn p o hk,hc⟩,fun a e=>?_⟩
   cases e
   exact ⟨o,I.kIn _ o hk,hd⟩
  ·have z:∃ o,s.heap.get? p=some o/\o.ExactDict:=by
    rcases hk with ⟨kvs,hk⟩ | ⟨kvs,hk⟩
    ·obtain ⟨_,_,_,_,o,_,_,e,ex,_⟩:=I.hok p _ hk
     exact ⟨o,e,ex⟩
    ·obtain ⟨_,_,_,_,o,_,_,e,ex,_⟩:=I.hok p _ hk
     exact ⟨o,e,ex⟩
   obtain ⟨o,e,ex⟩:=z
   refine ⟨⟨o,e,ex.1⟩,fun a e2=>?_⟩
   cases e2
   exact ⟨o,e,ex.2.1⟩
  ·obtain ⟨o,_,_,_,e,ex,_⟩:=I.hok p _ hk
   refine ⟨⟨o,e,ex.1⟩,fun a e2=>?_⟩
   cases e2
   exact ⟨o,e,ex.2.1⟩
 | _=>exact False.elim ty
variable {o e:Expr} {es:List Expr} {to:TE} {t:TA} {name:Str} {apos cpos:Pos} {T id:String} {r:V->List V->Hp->VK->Prop}
/- xs.append(e),list.index on a module's tuple .. are MtR facts of 06m -/
end
end L2
namespace L2
open PySem PySem.Spec PyProof.Rows
def MtM (X:Cx) (id:String) (r:V->List V->Hp->VK->Prop):Prop:=
 ∀ (pins:List (Addr×Obj)) (s:Shared) (σ:St) (H:Hp) (x:V) (xs:List V) (v:Value) (us:List Value) (Q:VK),Inv X pins σ H s->RelV x v->Vals xs us->r x xs H Q →
  wpAny (model X.prog X.w) X.A (call (.builtin id) (v :: us)) (EP X pins σ Q) X.xe s
theorem Vals.one:∀ {x:V} {us:List Value},Vals [x] us->∃ u,us=[u]/\RelV x u
 | _,_,.cons r .nil=>⟨_,rfl,r⟩
theorem Vals.zero:∀ {us:List Value},Vals [] us->us=[]
 | _,.nil=>rfl
theorem Vals.dropLast {xs:List V} {us:List Value} (h:Vals xs us):Vals xs.dropLast us.dropLast:=by
 induction h with
 | nil=>exact .nil
 | cons r t ih=>
  cases t with
  | nil=>exact .nil
  | cons q t'=>exact .cons r ih
theorem Vals.rep {xs:List V} {us:List Value} (h:Vals xs us):∀ k:Nat,Vals (List.replicate k xs).flatten (List.replicate k us).flatten
 | 0=>.nil
 | k+1=>by
  rw [List.replicate_succ,List.replicate_succ,List.flatten_cons,List.flatten_cons]
  exact Vals.append h (Vals.rep h k)
theorem foldl_rep (its:List Value):∀ (k:Nat) (acc:List Value),
  List.foldl (fun x1 x2=>x1++x2) acc.toArray (List.replicate k its.toArray)=(acc++(List.replicate k its).flatten).toArray
 | 0,acc=>by simp
 | k+1,acc=>by
  have e:acc.toArray++its.toArray=(acc++its).toArray:=by simp
  have e2:(acc++its)++(List.replicate k its).flatten=acc++(List.replicate (k+1) its).flatten:=by
   rw [List.replicate_succ,List.flatten_cons,List.append_assoc]
  rw [<-e2,<-foldl_rep its k (acc++its),<-e,List.replicate_succ,List.foldl_cons]
section
variable {X:Cx} {pins:List (Addr×Obj)} {σ:St} {H:Hp} {s:Shared} {l b:Addr} {xs ys zs:List V}
theorem Inv.lset {its its':List Value} {n:Nat} {f:Array Value->Array Value} {t':Nat} (I:Inv X pins σ H s) (hH:H l=some (.lst xs))
  (e:s.heap.get? l=some { cls:=.type "list",data:=.seq its.toArray n }) (hf:f its.toArray=its'.toArray) (hv:Vals ys its') (hz:ys.length<=sizeLine) :
  Inv X pins σ (upd H l (.lst ys)) { s with heap:=s.heap.update l (Obj.mapSeq f),toks:=t' }:=by
 have q:=PySem.IsL.update e f
 rw [hf] at q
 refine I.write (x:=l) (e:=l) (by rw [hH];exact trivial) (.inl rfl) (fun b' u hb hu=>(Heap.get?_update_other s.heap (Obj.mapSeq f) (Ne.symm hb)).trans hu) ⟨_,q⟩ ?_
 exact ⟨hz,its',_,hv,q⟩
theorem Inv.lnew {its:List Value} {t':Nat} (I:Inv X pins σ H s) (hv:Vals ys its) (hz:ys.length<=sizeLine) :
  Inv X pins σ (upd H s.heap.objs.size (.lst ys)) { s with heap:=s.heap.push { cls:=.type "list",data:=.seq its.toArray },toks:=t' }:=
 I.laid (fun _ _ q=>Heap.get?_push_of_some _ q) (Nat.le_refl _) ⟨hz,its,0,hv,Heap.get?_push_size _ rfl⟩
theorem Inv.fresh (I:Inv X pins σ H s):H s.heap.objs.size=none:=I.hok.fresh (Nat.le_refl _)
theorem Inv.lstM (I:Inv X pins σ H s) (hH:H l=some (.lst xs)):xs.length<=sizeLine/\∃ (its:List Value) (n:Nat),Vals xs its/\xs.length=its.length/\s.heap.get? l=some { cls:=.type "list",data:=.seq its.toArray n }:=by
 obtain ⟨z,its,n,r,e⟩:=I.hok l _ hH
 exact ⟨z,its,n,r,r.length,e⟩
theorem notLongL {n:Nat} (h:n<=sizeLine):Builtin.List.listTooLong n=false:=by
 unfold Builtin.List.listTooLong
 exact decide_eq_false (by omega)
end
section
variable {X:Cx}
def rAppend:V->List V->Hp->VK->Prop:=fun x vs H Q=>∃ l xs y,x = .ref l/\vs=[y]/\H l=some (.lst xs)/\xs.length < sizeLine/\Q .non (upd H l (.lst (xs++[y])))
theorem mt_append:MtM X "list.append" rAppend:=by
 intro pins s σ H x vs v us Q I rx rv h
 obtain ⟨l,xs,y,rfl,rfl,hH,hz,q⟩:=h
 cases rx
 obtain ⟨u,rfl,ru⟩:=rv.one
 obtain ⟨z,its,n,r,hl,e⟩:=I.lstM hH
 refine call_meets F.slot_list_append ⟨_,e,rfl⟩ F.entry_list_append (F.args_list_append_2 _ _) (PySem.list_append l its.toArray n u (by rw [List.size_toArray];omega)) ⟨e,?_⟩
 refine ⟨.non,_,I.lset (its':=its++[u]) hH e (by simp) (r.append (.cons ru .nil)) ?_,rfl,q⟩
 rw [List.length_append,List.length_singleton]
 omega
def rCat:R2:=fun x y H Q=>∃ l b xs zs,x = .ref l/\y = .ref b/\H l=some (.lst xs)/\H b=some (.lst zs)/\xs.length+zs.length<=sizeLine/\∀ p,H p=none->Q (.ref p) (upd H p (.lst (xs++zs)))
theorem op_cat:OpR X (binaryOp .Add) rCat:=by
 intro pins s σ H x y v u Q I rx ry h
 obtain ⟨l,b,xs,zs,rfl,rfl,hH,hB,hz,q⟩:=h
 cases rx
 cases ry
 obtain ⟨z,its,n,r,hl,e⟩:=I.lstM hH
 obtain ⟨z2,its2,n2,r2,hl2,e2⟩:=I.lstM hB
 refine PySem.P.add_list e e2 ?_ (by rw [List.size_toArray,List.size_toArray];omega)
 have ea:its.toArray++its2.toArray=(its++its2).toArray:=by simp
 rw [ea]
 exact ⟨.ref _,_,I.lnew (t':=s.toks) (r.append r2) (by rw [List.length_append];omega),rfl,q _ I.fresh⟩
def rRep:R2:=fun x y H Q=>∃ l k xs,x = .ref l/\y = .int k/\H l=some (.lst xs)/\-(2 ^ 63)<=k/\k < 2 ^ 63/\xs.length * k.toNat<=sizeLine ∧
 ∀ p,H p=none->Q (.ref p) (upd H p (.lst (List.replicate k.toNat xs).flatten))
theorem len_rep {α:Type} (xs:List α) (k:Nat):(List.replicate k xs).flatten.length=k * xs.length:=by
 induction k with
 | zero=>simp
 | succ k ih=>rw [List.replicate_succ,List.flatten_cons,List.length_append,ih,Nat.succ_mul,Nat.add_comm]
theorem op_rep:OpR X (binaryOp .Mult) rRep:=by
 intro pins s σ H x y v u Q I rx ry h
 obtain ⟨l,k,xs,rfl,rfl,hH,h1,h2,hz,q⟩:=h
 cases rx
 obtain ⟨t,rfl⟩:=ry
 obtain ⟨z,its,n,r,hl,e⟩:=I.lstM hH
 have hlen:its.toArray.size * k.toNat<=sizeLine:=by rw [List.size_toArray,<-hl];exact hz
 have hcap:¬ its.toArray.size * k.toNat > (2 ^ 63 - 1) / 8:=by
  have:(sizeLine:Nat)<=(2 ^ 63 - 1) / 8:=by decide
  omega
 have hfit:¬ (!Builtin.List.listFitsIndex k)=true:=by
  rw [fitsIndex_both h1 h2]
  exact Bool.false_ne_true
 have hlong:¬ Builtin.List.listTooLong (its.toArray.size * k.toNat)=true:=by
  rw [notLongL hlen]
  exact Bool.false_ne_true
 have hnew:List.foldl (fun x1 x2=>x1++x2) #[] (List.replicate (if its.toArray.isEmpty=true then 0 else k.toNat) its.toArray)=(List.replicate k.toNat its).flatten.toArray:=by
  have f0:∀ m:Nat,List.foldl (fun x1 x2=>x1++x2) #[] (List.replicate m its.toArray)=(List.replicate m its).flatten.toArray:=fun m=>by
   have:=foldl_rep its m []
   rw [List.nil_append] at this
   exact this
  rw [f0]
  cases its with
  | nil=>simp
  | cons a r'=>rw [if_neg (by simp)]
 refine wpAny_binaryOp_repeat_ref (T:= "list") (U:= "int") (by decide) ⟨_,e,rfl⟩ (fun s'=>typeIs_int s' k t) noFill_list_mul F.fills_int_mul F.slot_int_rmul repeat_list F.slot_int_index.lookup
  (call_meets F.slot_int_rmul (typeIs_int s k t) F.entry_int_rmul (F.args_int_rmul_2 _ _) (int___rmul___int_list k t l its.toArray n)
   ⟨e,rfl,⟨_,e,rfl⟩,call_meets F.slot_list_mul ⟨_,e,rfl⟩ F.entry_list_mul (F.args_list_mul_2 _ _) (AutoListH.list___mul___list_int_3 l its.toArray n k t hfit hcap hlong) ⟨e,?_⟩⟩)
 rw [hnew]
 exact ⟨.ref _,_,I.lnew (t':=s.toks) (r.rep k.toNat) (by rw [len_rep,Nat.mul_comm];exact hz),rfl,q _ I.fresh⟩
end
section
variable {prog:Program} {w:World} {A:Around} {E:Value->Shared->Prop} {s:Shared}
set_option maxRecDepth 100000 in
end
section
variable {X:Cx}
end
end L2
namespace Att
open PySem PySem.W PySem.Calls PyProof.Rows
theorem ints_of_wellAll {P:Params} {h:Heap}:∀ (ns:List Int) (vs:List Value),WellAll P h vs (ns.map WData.int)->IntsAre vs ns:=by
 intro ns
 induction ns with
 | nil=>
  intro vs w
  rw [List.map_nil] at w
  cases w
  exact .nil
 | cons n ns ih=>
  intro vs w
  rw [List.map_cons] at w
  cases w with
  | cons a b=>
   cases a
   exact .cons _ _ (ih _ b)
theorem script_of {l:OpenLaw} {n:Nat} (hn:l.most=some n) {P:Params} {h:Heap} {args:List WData} {vals:List Value}
  (hpre:l.row.toRowW.claim.pre args=true) (hwl:WellAll P h vals args) :
  ∃ a vs ns,vals=[Value.ref a]/\args=[WData.list (ns.map WData.int)]/\h.get? a=some { cls:=.type "list",data:=.seq vs.toArray }/\IntsAre vs ns/\ns.length<=n:=by
 have hsh:WShape.hasAll [] args [.list .int]=true:=(pre_splitW hpre).1
 have hc:l.pre.holds [] { args:=args }=true:=(pre_splitW hpre).2
 obtain ⟨d,r,rfl,h1,h2⟩:=hasAllW_cons hsh
 obtain rfl:=hasAllW_nil h2
 obtain ⟨xs,rfl,h3⟩:=hasW_list h1
 obtain ⟨ns,rfl⟩:=items_int h3
 have hlen:ns.length<=n:=by
  unfold OpenLaw.pre at hc
  have h4:(WTm.not (.lt (.lit (.int (n:Int))) (.len (.arg 0)))).holds [] { args:=[.list (ns.map .int)] }=true:=by
   have h4:=(holds_andW hc).1
   rw [hn] at h4
   exact h4
  have h5:=condW_of h4 (w_not (w_lt w_lit (w_len_list (w_arg rfl))))
  rw [List.length_map] at h5
  refine Nat.le_of_not_lt fun q=>?_
  have q':(n:Int) < ((ns.length:Nat):Int):=by omega
  first
   | (rw [decide_eq_true q'] at h5;exact absurd h5 (by decide))
   | (simp at h5;omega)
 cases hwl with
 | cons w1 w2=>
  cases w2
  cases w1 with
  | list ho hall=>exact ⟨_,_,ns,rfl,rfl,ho,ints_of_wellAll ns _ hall,hlen⟩
theorem post_true (l:OpenLaw) (args:List WData):l.row.toRowW.claim.post args (.bool true) args=true:=
 postW_of (r:=l.row.toRowW) (X:=(true == true))
  (show WShape.has [] (.bool true) .bool=true by first | rfl | decide | simp [WShape.has,WShape.arms,WShape.armsAll])
  (show (WTm.eq .res (.lit (.bool true))).value [] { args:=args,res:=some (.bool true),after:=args }=some (.bool (true == true)) from w_eq_bool (w_res rfl) w_lit) rfl
theorem attach_call {l:OpenLaw} {n:Nat} {q:Program} {loose:List Str} {XP:(Str->Option Value)->Heap->Prop} {YP:World->Heap->Prop} {d:DefRec}
  (hn:l.most=some n) (hdf:d.params.defaults=[])
  (call:∀ (w:World) (s₀ s₁:Shared) (mg mb:Str->Option Value) (fa:Addr) (o:Obj) (pm cd doc:Value) (a:Addr) (vs:List Value) (ns:List Int),
   Ground q loose [] XP w s₀ mg mb s₁.heap->YP w s₁.heap →
   s₁.heap.get? fa=some o->o.data = .func (docDef d.name d.params d.body d.scope pm cd doc)->s₁.heap.CodeRec cd d.name->mg d.name=some (.ref fa) →
   s₁.heap.get? a=some { cls:=.type "list",data:=.seq vs.toArray }->IntsAre vs ns->ns.length<=n->s₁.gens = #[] →
   codeAny (model l.prog w) callerA (.call (.ref fa) ⟨[.ref a],[]⟩) (fun r s'=>r = .ok (.ret (.bool true))/\OldK s₁.heap s'.heap/\s'.os=s₁.os/\AllBare s'.gens) s₁) :
  WalkO q loose XP YP l.row.toRowW d [] (fun f vs=>PySem.call f vs):=by
 intro w s₀ s₁ mg mb G Y fa o pm cd doc dV kV ho hd hcd hD hmg hg args vals as hpre hlay hrd hwl hlo
 obtain rfl:dV = .none:=Dflts.none hD hdf
 obtain rfl:kV = .none:=Dflts.noKw hD
 obtain ⟨a,vs,ns,rfl,rfl,hobj,hints,hlen⟩:=script_of hn hpre hwl
 refine enter_call (codeAny_mono (call w s₀ s₁ mg mb fa o pm cd doc a vs ns G Y ho (fd_plain hd) hcd hmg hobj hints hlen hg) fun r s' hq=>?_)
 obtain ⟨rfl,h2,h3,h4⟩:=hq
 exact ⟨.inl ⟨.bool true,.bool true,[],rfl,fun _=>rfl,.bool true,post_true l _,fun _=>⟨List.Pairwise.nil,fun _ hm=>(nomatch hm)⟩⟩,h2,h3,h4⟩
section
variable {prog:Program} {w:World} {A:Around} {E:Value->Shared->Prop} {s:Shared} {K:Frag}
end
end Att
namespace L2
open PySem PySem.Spec PyProof.Rows
theorem vals_ints:∀ {vs:List Value} {ns:List Int},IntsAre vs ns->Vals (ns.map V.int) vs
 | _,_,.nil=>.nil
 | _,_,.cons n t h=>.cons ⟨t,rfl⟩ (vals_ints h)
def Only (H:Hp):Prop:=∀ b,H b=none\/∃ o xs,H b=some (.frz o (.lst xs))
theorem law_call {P:Program} {w:World} {K:PySem.W.Frag} {mg mb:Str->Option Value} {CX:CXT} {k:Nat} {fa a:Addr} {fd:FuncData} {x:Str} {sp:Sp} {s₁:Shared} {vs:List Value} {ns:List Int}
  (KX:K.In s₁.heap) (hns:s₁.heap.Ns mainGlobals mg) (hb:s₁.heap.Ns builtinsNs mb) (hbb:∀ x:Str,x≠"__name__"->mb x=bootBuiltins x) (hlim:s₁.heap.NoLimit) (hg:s₁.gens = #[])
  (ha:s₁.heap.get? a=some { cls:=.type "list",data:=.seq vs.toArray }) (hi:IntsAre vs ns) (hl:ns.length<=sizeLine) (hr:Room k callerA)
  (F:∀ base:Heap,K.In base->base.Ns mainGlobals mg->FnOk P w K mg base CX k fa fd [x] sp) (hbind:∀ (s:Shared) (u:Value),BindsTo s fd ⟨[u],[]⟩ [(x,u)])
  (hsp:∀ H:Hp,Only H->SqL K H a (ns.map V.int)->sp [.ref a] H (fun v _=>v = .bl true) fun _ _ _=>False)
  (hCX:∀ H e s',CX [] H s₁ (fun _ _ _=>False) e s'->False) :
  codeAny (model P w) callerA (.call (.ref fa) ⟨[.ref a],[]⟩) (fun r s'=>r = .ok (.ret (.bool true))/\OldK s₁.heap s'.heap/\s'.os=s₁.os/\AllBare s'.gens) s₁:=by
 have rv:=vals_ints hi
 have lenV:=hi.length
 have core:∀ H:Hp,Only H->SqL K H a (ns.map V.int)->HOk P w H s₁.heap->(∀ b,H b≠none->b=a)->(H a≠none->K.lookup a=none) →
   codeAny (model P w) callerA (.call (.ref fa) ⟨[.ref a],[]⟩) (fun r s'=>r = .ok (.ret (.bool true))/\OldK s₁.heap s'.heap/\s'.os=s₁.os/\AllBare s'.gens) s₁:=by
  intro H hO hS hok hA hK
  have base_of:∀ {b:Addr} {o:Obj},s₁.heap.get? b=some o->H b=none->(hidT s₁.heap H).get? b=some o:=fun e n=>hidT_get e n
  have noA:∀ {b:Addr} {o:Obj} {es:Array DictEntry} {ep:Nat},s₁.heap.get? b=some o->o.data = .dict es ep->H b=none:=fun {b o es ep} e d=>by
   cases q:H b with
   | none=>rfl
   | some u=>
    have e':b=a:=hA b (by rw [q];simp)
    subst e'
    rw [ha] at e;cases e
    have d':Data.seq vs.toArray _=Data.dict es ep:=d
    cases d'
  have nsK:∀ {b:Addr} {m:Str->Option Value},s₁.heap.Ns b m->(hidT s₁.heap H).Ns b m:=fun {b m} ⟨o,es,ep,e,d,r⟩=>⟨o,es,ep,base_of e (noA e d),d,r⟩
  have hKb:K.In (hidT s₁.heap H):=fun b o e=>base_of (KX b o e) (by
   cases q:H b with
   | none=>rfl
   | some u=>
    have e':b=a:=hA b (by rw [q];simp)
    subst e'
    rw [hK (by rw [q];simp)] at e;cases e)
  have hM:Mod K mg (hidT s₁.heap H):=⟨hKb,nsK hns,⟨mb,nsK hb,hbb⟩,let ⟨mc,h1,h2⟩:=hlim;⟨mc,nsK h1,h2⟩⟩
  have e0:Env0 P w K mg (hidT s₁.heap H) callerA [] s₁ H:=⟨rfl,hM,fun b o e=>of_hidT e,Nat.le_of_eq (hidT_size _ _),trivial,fun b hb=>absurd (show b∈([]:List Addr) from hb) (by simp),hok,.of_eq hg⟩
  refine codeAny_mono ((F _ hKb (nsK hns)).run callerA [] s₁ H ⟨[.ref a],[]⟩ [.ref a] [.ref a] _ _ hr e0 (hbind s₁ (.ref a)) (.cons rfl .nil) (hsp H hO hS)) fun r s' h=>?_
  cases r with
  | error e=>exact (hCX H e s' h).elim
  | ok fl=>
   cases fl with
   | next=>exact False.elim h
   | brk=>exact False.elim h
   | cont=>exact False.elim h
   | ret u=>
    obtain ⟨v,H',os,bare,un,hok',r',q⟩:=h
    have q':v = .bl true:=q
    subst q'
    obtain rfl:u=Value.bool true:=r'
    refine ⟨rfl,OldK.of_keep fun b o e=>?_,os,bare⟩
    cases q:H b with
    | none=>exact un.keep b o e q (by intro z;exact absurd (show b∈([]:List Addr) from z) (by simp)) (by simp)
    | some u=>
     rcases hO b with z | ⟨ob,xs,z⟩
     ·rw [q] at z;cases z
     ·have z2:=un.frzs b ob _ z
      obtain ⟨e1,_⟩:=hok b _ z
      obtain ⟨e2,_⟩:=hok' b _ z2
      rw [e] at e1;cases e1
      exact e2
 cases hk:K.lookup a with
 | some o=>
  have e:=KX a o hk
  rw [ha] at e
  cases e
  refine core (fun _=>none) (fun _=>.inl rfl) (.inr ⟨_,vs.toArray,_,hk,rfl,rfl,rfl,by rw [List.size_toArray,lenV];exact hl,by simpa using rv⟩) (fun b u z=>by have z':(none:Option HO)=some u:=z;cases z') (fun b z=>absurd rfl z) fun z=>absurd rfl z
 | none=>
  refine core (fun b=>if b=a then some (.frz { cls:=.type "list",data:=.seq vs.toArray } (.lst (ns.map V.int))) else none) (fun b=>?_) (.inl (.inr ⟨{ cls:=.type "list",data:=.seq vs.toArray },if_pos rfl⟩)) (fun b u z=>?_) (fun b z=>?_) fun _=>hk
  ·by_cases hb:b=a
   ·exact .inr ⟨_,_,if_pos hb⟩
   ·exact .inl (if_neg hb)
  ·by_cases hb:b=a
   ·have z':=(if_pos hb).symm.trans z
    cases z'
    subst hb
    exact ⟨ha,by rw [List.length_map];exact hl,vs,_,rv,ha⟩
   ·have z':=(if_neg hb).symm.trans z
    cases z'
  ·by_cases hb:b=a
   ·exact hb
   ·exact absurd (if_neg hb) z
end L2
namespace L2
open PySem PySem.Spec PyProof.Rows
abbrev KOf {K:PySem.W.Frag} {h:Heap} (_:K.In h):PySem.W.Frag:=K
theorem walk_of {l:PySem.W.OpenLaw} {n k:Nat} {q:Program} {loose:List Str} {XP:(Str->Option Value)->Heap->Prop} {YP:World->Heap->Prop} {d:DefRec} {K:Params->PySem.W.Frag} {CX:World->CXT} {sp:World->Sp} {x:Str}
  (hn:l.most=some n) (hn2:n<=sizeLine) (hdf:d.params.defaults=[]) (hr:Room k callerA)
  (hY:∀ (w:World) (h:Heap),YP w h->(K w.params).In h)
  (F:∀ (w:World) (mg:Str->Option Value) (fa:Addr) (h:Heap),(K w.params).In h->h.Ns mainGlobals mg->mg d.name=some (.ref fa) →
   ∃ fd:FuncData,(∀ (s:Shared) (u:Value),BindsTo s fd ⟨[u],[]⟩ [(x,u)]) ∧
    ∀ base:Heap,(K w.params).In base->base.Ns mainGlobals mg->FnOk l.prog w (K w.params) mg base (CX w) k fa fd [x] (sp w))
  (hsp:∀ (w:World) (H:Hp) (a:Addr) (ns:List Int),ns.length<=n->Only H->SqL (K w.params) H a (ns.map V.int)->sp w [.ref a] H (fun v _=>v = .bl true) fun _ _ _=>False)
  (hCX:∀ (w:World) (H:Hp) (s:Shared) (e:Value) (s':Shared),CX w [] H s (fun _ _ _=>False) e s'->False) :
  PySem.W.WalkO q loose XP YP l.row.toRowW d [] (fun f vs=>PySem.call f vs):=by
 refine Att.attach_call hn hdf fun w s₀ s₁ mg mb fa o pm cd doc a vs ns G Y ho hd hcd hmg hobj hints hlen hg=>?_
 have KX:=hY w _ Y
 obtain ⟨fd,hb,hF⟩:=F w mg fa _ KX G.T.g hmg
 exact law_call KX G.T.g G.T.b G.T.builtins G.T.nolimit hg hobj hints (Nat.le_trans hlen hn2) hr hF hb (fun H hO hS=>hsp w H a ns hlen hO hS) fun H e s'=>hCX w H s₁ e s'
end L2
/- THE LAST THEOREM (shape;LID,My.* are yours):
   My.Adr: a structure of the addresses that your layer names (classes,functions);My.Txt K t: a structure (Prop) of the equations over K;
   My.txt_mk:{K} {implicit addresses ..} (e1:nsIn K mainGlobals "law" = some (some (.ref f))) (e2:K.lookup f=some ⟨oc,od,.func (fnOf "law" "law" params body scope dV kV doc pm an cdv ct),sl⟩) (e3:codeIn K cdv "law" = true) .. : ∃ t,My.Txt K t
set_option maxRecDepth 100000 in
set_option maxHeartbeats 0 in
theorem PySem.Challenge.cw_LID_holds : PySem.Challenge.rw_LID.Holds := by
 w_on;o_law;k_head;(case hw=>w_witness2)
 k_fill
 refine L2.walk_of (l:=PySem.Challenge.rw_LID) (n:=63) (k:=40) (x:= "script") (CX:=fun w=>..) (sp:=fun _=>My.sp_law) rfl (by decide) rfl ⟨rfl,by decide,by decide⟩ (fun w h Y=>PySem.W.kIn_of Y) ?F ?S ?C
 case F=>
  intro w mg fa h KX G hmg
  have T:∃ t,My.Txt (L2.KOf KX) t:=by
   dsimp only [L2.KOf]                          -- K must stand as «<heap const> w.params» for k_is
   refine' My.txt_mk ?e1 ?e2 ?e3 ..
   (case e1=>PySem.W.k_is)                    -- in the order: a name -> its address -> its object -> its parts
   (case e2=>PySem.W.k_is)
   ..
  obtain ⟨t,T⟩:=T
  have e0:=hmg.symm.trans (PySem.W.mg_of KX G T.law)
  cases e0                                       -- fa is the law's own address
  exact ⟨_,fun s u=>.of_eq rfl,fun base kb nb=>My.law_fn T kb nb⟩     -- if «.of_eq rfl» comes too early: refine' ⟨_,?b,fun base kb nb=>My.law_fn T kb nb⟩;exact fun s u=>.of_eq rfl
 case S=>exact fun w H a ns hl hO hS=>..
 case C=>exact ..
(the tactic k_is has no namespace: write k_is) -/
namespace L2
open PySem PySem.Spec PyProof.Rows
def defArgs (s:Stmt):Arguments:=match s with
 | .FunctionDef _ a _ _ _ _ _ _ _ _=>a
 | _=>{ posonlyargs:=[],args:=[],vararg:=none,kwonlyargs:=[],kw_defaults:=[],kwarg:=none,defaults:=[] }
def defBody (s:Stmt):List Stmt:=match s with
 | .FunctionDef _ _ b _ _ _ _ _ _ _=>b
 | _=>[]
def defScope (s:Stmt):Scope:=match s with
 | .FunctionDef _ _ _ _ _ _ sc _ _ _=>sc
 | _=>{ kind:=.function,names:=[],isGenerator:=false,isCoroutine:=false }
abbrev CX0:CXT:=fun _ _ _ _ _ _=>False
abbrev E0:XK:=fun _ _ _=>False
theorem pass0 {X:Cx}:Passes CX0 X E0:=fun _ _ _ _ _ _ _ h=>h.elim
structure Fun (K:PySem.W.Frag) (x qual:Str) (st:Stmt) (f:Addr) (fd:FuncData):Prop where
 ex:∃ (oc:Value) (od:Option Addr) (kV doc pm:Value) (an:Option Addr) (cdv ct:Value) (osl:Array (Option Value)),
  fd=PySem.W.fnOf x qual (defArgs st) (defBody st) (defScope st) .none kV doc pm an cdv ct/\K.lookup f=some ⟨oc,od,.func fd,osl⟩/\PySem.W.codeIn K cdv qual=true
 kp:PySem.W.keepIn K (.ref f)=true
section
variable {P:Program} {w:World} {K:PySem.W.Frag} {mg:Str->Option Value} {base:Heap}
theorem Fun.ok {x qual:Str} {st:Stmt} {f:Addr} {fd:FuncData} {N ps:List Str} {k:Nat} {sp:Sp} (F:Fun K x qual st f fd) (S:FnScope N ps (defScope st)) (len:∀ vs H Q E,sp vs H Q E->vs.length=ps.length)
  (hbody:∀ (cdv:Value) (A:Around) (outer:List Env) (s:Shared) (H:Hp) (vs:List V) (Q:VK) (E:XK),Room k (A.deeper (envOfC qual (defScope st) s.heap.objs.size f cdv))->sp vs H Q E →
   ∃ t,PSs (cxOf CX0 P w K mg base N qual (defScope st) f cdv A outer s H E).nox (defBody st) t/\t { nx:=fun _ H'=>Q .non H',rt:=Q } (start N vs) H):FnOk P w K mg base CX0 (k+1) f fd ps sp:=by
 obtain ⟨oc,od,kV,doc,pm,an,cdv,ct,osl,rfl,lk,hcd⟩:=F.ex
 refine fn_of lk hcd S len fun A outer s H vs Q E hr hsp=>?_
 obtain ⟨t,h,q⟩:=hbody cdv A outer s H vs Q E hr hsp
 exact ⟨t,h.nox,q⟩
theorem Fun.binds {x qual:Str} {st:Stmt} {f:Addr} {fd:FuncData} {ps:List Str} (F:Fun K x qual st f fd)
  (h:∀ (kV doc pm:Value) (an:Option Addr) (cdv ct:Value) (us:List Value),us.length=ps.length->bindArgs (PySem.W.fnOf x qual (defArgs st) (defBody st) (defScope st) .none kV doc pm an cdv ct) ⟨us,[]⟩=pure (ps.zip us)):Binds K fd ps []:=by
 obtain ⟨oc,od,kV,doc,pm,an,cdv,ct,osl,rfl,lk,hcd⟩:=F.ex
 exact .all (h kV doc pm an cdv ct)
theorem fun_mk {x qual:Str} {st:Stmt} {f:Addr} {oc:Value} {od an:Option Addr} {osl:Array (Option Value)} {kV doc pm cdv ct:Value} (l:K.lookup f=some ⟨oc,od,.func (PySem.W.fnOf x qual (defArgs st) (defBody st) (defScope st) .none kV doc pm an cdv ct),osl⟩)
  (c:PySem.W.codeIn K cdv qual=true) (k:PySem.W.keepIn K (.ref f)=true):Fun K x qual st f (PySem.W.fnOf x qual (defArgs st) (defBody st) (defScope st) .none kV doc pm an cdv ct):=⟨⟨oc,od,kV,doc,pm,an,cdv,ct,osl,rfl,l,c⟩,k⟩
end
section
variable {X:Cx}
end
theorem iteF {A B:Prop} (h:B):if false=true then A else B:=by
 rw [if_neg Bool.false_ne_true]
 exact h
theorem iteT {A B:Prop} (h:A):if true=true then A else B:=by
 rw [if_pos rfl]
 exact h
theorem ite2 {c A B:Prop} [Decidable c] (h1:c->A) (h2:¬ c->B):if c then A else B:=by
 by_cases h:c
 ·rw [if_pos h]
  exact h1 h
 ·rw [if_neg h]
  exact h2 h
def Same (H H':Hp):Prop:=∀ b o,H b=some o->H' b=some o
theorem Same.refl (H:Hp):Same H H:=fun _ _ h=>h
theorem Same.trans {H H1 H2:Hp} (a:Same H H1) (b:Same H1 H2):Same H H2:=fun c o h=>b c o (a c o h)
theorem Same.free {H H':Hp} (e:Same H H') {l:Addr} (h:H' l=Option.none):H l=Option.none:=by
 cases q:H l with
 | none=>rfl
 | some o=>
  rw [e l o q] at h
  cases h
theorem Same.seq {K:PySem.W.Frag} {H H':Hp} {a:Addr} {xs:List V} (e:Same H H') (h:SqL K H a xs):SqL K H' a xs:=by
 rcases h with (h | ⟨o,h⟩) | h
 ·exact .inl (.inl (e _ _ h))
 ·exact .inl (.inr ⟨o,e _ _ h⟩)
 ·exact .inr h
end L2
section
namespace L2
open PySem
section
variable {prog:Program} {w:World} {A:Around} {R:Result->Shared->Prop} {s:Shared}
theorem compLoop_any {elt target iter:Expr} {ifs:List Expr} {scope:Scope} {pos:Pos} {it acc:Value} {env:Env} (I:Nat->Shared->Prop)
  (turn:∀ n s,I n s->wpAny (model prog w) A (pyNext it) (fun r s₁=>match r with
   | none=>R (.ok .next) s₁
   | some v=>wpAny (model prog w) A (letOwnedTupleGo target it v) (fun _ s₁'=>wpAny (model prog w) A (assign target env v) (fun _ s₂=>
     wpAny (model prog w) A (forIn ifs true fun c r=>if r=true then do let ok <-isTrue c env (eval c env);pure (ForInStep.yield ok) else pure (ForInStep.yield r)) (fun ok s₃=>
      if ok=true then wpAny (model prog w) A (eval elt env) (fun x s₄=>
       wpAny (model prog w) A (call (.builtin "list.append") [acc,x]) (fun _ s₅=>∃ m,m < n/\I m s₅) (fun _ _=>False) s₄) (fun _ _=>False) s₃
      else ∃ m,m < n/\I m s₃) (fun _ _=>False) s₂) (fun _ _=>False) s₁') (fun _ _=>False) s₁) (fun _ _=>False) s)
  (n:Nat) (h:I n s) :
  codeAny (model prog w) A (.compLoop (.ListComp elt [⟨target,iter,ifs,0⟩] scope pos) 0 it acc env) R s:=by
 refine codeAny_loop rfl I (fun n s hI=>?_) n h
 show wpAny _ A ((compTurn (.ListComp elt [⟨target,iter,ifs,0⟩] scope pos) 0 it acc env).onRaise (fun x=>do noteFrame x env;theTreesLotGoes x)) _ _ s
 refine wpAny_noted ?_
 rw [compTurn_list]
 refine wpAny_bind (wpAny_standAt (wpAny_bind (wpAny_mono (turn n s hI) (fun r s₁ h₁=>?_) fun _ _ h'=>h'.elim)))
 cases r with
 | none=>exact wpAny_pure h₁
 | some v=>
  refine wpAny_bind (wpAny_mono h₁ (fun _ s₁' h₁'=>?_) fun _ _ h'=>h'.elim)
  refine wpAny_bind (wpAny_mono h₁' (fun _ s₂ h₂=>wpAny_bind (wpAny_mono h₂ (fun ok s₃ h₃=>?_) fun _ _ h'=>h'.elim)) fun _ _ h'=>h'.elim)
  cases ok with
  | false=>exact wpAny_pure ⟨rfl,h₃⟩
  | true=>
   exact wpAny_bind (wpAny_bind (wpAny_mono h₃ (fun x s₄ h₄=>wpAny_bind (wpAny_mono h₄ (fun _ s₅ h₅=>wpAny_pure (wpAny_pure ⟨rfl,h₅⟩)) fun _ _ h'=>h'.elim)) fun _ _ h'=>h'.elim))
end
theorem closure_from {env:Env}:∀ (names:List (Str×NameKind)) (acc:List (Str×Addr)),(∀ y∈names,y.2 = .free->∃ c,env.cells.lookup y.1=some c)->(∀ x c,acc.lookup x=some c->env.cells.lookup x=some c) →
  ∃ cl:List (Str×Addr),(forIn names acc fun (x:Str×NameKind) (r:List (Str×Addr))=>(match x with | (name,kind)=>if (kind == NameKind.free)=true then do let a <-cellOf env name;pure (ForInStep.yield ((name,a) :: r)) else pure (ForInStep.yield r):Sem (ForInStep (List (Str×Addr)))))=pure cl ∧
   (∀ x c,cl.lookup x=some c->env.cells.lookup x=some c)/\(∀ y∈names,y.2 = .free->∃ c,cl.lookup y.1=some c)/\∀ x c,acc.lookup x=some c->∃ c',cl.lookup x=some c'
 | [],acc,_,h=>⟨acc,rfl,h,(fun y z=>by cases z),fun _ c e=>⟨c,e⟩⟩
 | (name,kind) :: r,acc,hf,h=>by
  by_cases hk:kind = .free
  ·subst hk
   obtain ⟨c,hc⟩:=hf (name,.free) List.mem_cons_self rfl
   have h2:∀ x d,((name,c) :: acc).lookup x=some d->env.cells.lookup x=some d:=fun x d e=>by
    rw [List.lookup_cons] at e
    cases hx:x == name with
    | true=>rw [hx] at e;cases e;rw [eq_of_beq hx];exact hc
    | false=>rw [hx] at e;exact h x d e
   obtain ⟨cl,e,h3,h4,h5⟩:=closure_from r ((name,c) :: acc) (fun y hy=>hf y (List.mem_cons_of_mem _ hy)) h2
   refine ⟨cl,?_,h3,fun y hy hyf=>?_,fun x d hx=>?_⟩
   ·rw [List.forIn_cons]
    simp only [beq_self_eq_true,if_true,cellOf,hc,pure_bind]
    exact e
   ·rcases List.mem_cons.mp hy with rfl | hy
    ·exact h5 name c (by simp [List.lookup_cons])
    ·exact h4 y hy hyf
   ·cases hxn:x == name with
    | true=>exact h5 x c (by rw [List.lookup_cons,hxn])
    | false=>exact h5 x d (by rw [List.lookup_cons,hxn];exact hx)
  ·obtain ⟨cl,e,h3,h4,h5⟩:=closure_from r acc (fun y hy=>hf y (List.mem_cons_of_mem _ hy)) h
   have hb:(kind == NameKind.free)=false:=by simpa using hk
   refine ⟨cl,?_,h3,fun y hy hyf=>?_,h5⟩
   ·rw [List.forIn_cons]
    simp only [hb,Bool.false_eq_true,if_false,pure_bind]
    exact e
   ·rcases List.mem_cons.mp hy with rfl | hy
    ·exact absurd hyf hk
    ·exact h4 y hy hyf
theorem closure_ok {env:Env} {scope:Scope} (hf:∀ y∈scope.names,y.2 = .free->∃ c,env.cells.lookup y.1=some c) :
  ∃ cl,closureFor scope env=pure cl/\(∀ x c,cl.lookup x=some c->env.cells.lookup x=some c)/\∀ y∈scope.names,y.2 = .free->∃ c,cl.lookup y.1=some c:=by
 obtain ⟨cl,e,h1,h2,_⟩:=closure_from (env:=env) scope.names [] hf (fun x c e=>by simp at e)
 refine ⟨cl,?_,h1,h2⟩
 unfold closureFor
 exact (congrArg (· >>= pure) e).trans (pure_bind _ _)
end L2
end
section
namespace L2
open PySem PySem.Spec PyProof.Rows
abbrev Cx.block (X:Cx) (scope:Scope) (cl:List (Str×Addr)) (C:Addr) (N:List Str) (s:Shared) (H:Hp) (fp:List Addr):Cx:=
 { X with N:=N,s₀:=s,H₀:=H,env:=compEnvC scope cl C X.env,outer:=X.stack,ex:=fp,fn:=fun _=>false,pn:=[],xe:=fun _ _=>False,xct:=none }
def compOk (osc:Scope) (oN:List Str) (sc:Scope) (N:List Str) (js:List Nat):Bool:=
 sc.names.all (fun y=>y.2 != .cell) && (sc.names.all (fun y=>y.2 != .local || sc.names.lookup y.1 == some .local) && (decide (js.length<=N.length) &&
  (sc.names.all (fun y=>y.2 != .free || (osc.names.lookup y.1 == some .cell || osc.names.lookup y.1 == some .free)) &&
   (List.range js.length).all (fun i=>match N[N.length - js.length+i]?,oN[js.getD i 0]? with | some x,some y=>x == y && sc.names.lookup x == some .free | _,_=>false))))
structure CompSc (osc:Scope) (oN:List Str) (sc:Scope) (N:List Str) (js:List Nat):Prop where
 nocell:∀ y∈sc.names,y.2≠.cell
 names:∀ y∈sc.names,y.2 = .local->sc.names.lookup y.1=some .local
 len:js.length<=N.length
 tk:∀ y∈sc.names,y.2 = .free->osc.names.lookup y.1=some .cell\/osc.names.lookup y.1=some .free
 fr:∀ (i j:Nat),js[i]? = some j->∃ x,N[N.length - js.length+i]? = some x/\oN[j]? = some x/\sc.names.lookup x=some .free
theorem compOk_sc {osc:Scope} {oN:List Str} {sc:Scope} {N:List Str} {js:List Nat} (h:compOk osc oN sc N js=true):CompSc osc oN sc N js:=by
 unfold compOk at h
 simp only [Bool.and_eq_true] at h
 obtain ⟨h1,h2,h3,h4,h5⟩:=h
 refine ⟨fun y hy=>?_,fun y hy hl=>?_,of_decide_eq_true h3,fun y hy hf=>?_,fun i j hj=>?_⟩
 ·have:=List.all_eq_true.mp h1 y hy
  simpa using this
 ·have:=List.all_eq_true.mp h2 y hy
  rw [hl] at this
  simpa using this
 ·have:=List.all_eq_true.mp h4 y hy
  rw [hf] at this
  simpa using this
 ·have hi:i < js.length:=(List.getElem?_eq_some_iff.mp hj).1
  have:=List.all_eq_true.mp h5 i (List.mem_range.mpr hi)
  have e:js.getD i 0=j:=by rw [List.getD_eq_getElem?_getD,hj];rfl
  rw [e] at this
  split at this
  ·rename_i x y e1 e2
   simp only [Bool.and_eq_true,beq_iff_eq] at this
   obtain ⟨rfl,h⟩:=this
   exact ⟨x,e1,e2,h⟩
  ·cases this
def blk (n:Nat) (js:List Nat) (σ:St):St:=List.replicate n none++js.map fun j=>(σ[j]?).join
theorem blk_get {n:Nat} {js:List Nat} {σ:St} {i:Nat} {v:V} (h:(blk n js σ)[i]? = some (some v)):∃ k j,i=n+k/\js[k]? = some j/\σ[j]? = some (some v):=by
 unfold blk at h
 by_cases hi:i < n
 ·rw [List.getElem?_append_left (by simpa using hi),List.getElem?_replicate] at h
  split at h<;>cases h
 ·rw [List.getElem?_append_right (by simpa using hi),List.length_replicate,List.getElem?_map] at h
  cases e:js[i - n]? with
  | none=>rw [e] at h;cases h
  | some j=>
   rw [e] at h
   refine ⟨i - n,j,by omega,e,?_⟩
   have h':(σ[j]?).join=some v:=by simpa using h
   cases q:σ[j]? with
   | none=>rw [q] at h';cases h'
   | some o=>
    rw [q] at h'
    have:o=some v:=h'
    rw [this]
theorem relabel_lookup {env:Env}:∀ {names:List (Str×NameKind)} {x:Str} {k:NameKind},
  (names.map fun (n,k)=>if (k == NameKind.free && env.scope.kind == .function && env.kindOf n == some .cell) then (n,NameKind.cell) else (n,k)).lookup x=some k->k = .cell\/k = .free->(∀ y∈names,y.2≠.cell)->(x,NameKind.free)∈names
 | [],_,_,h,_,_=>by simp at h
 | (n,k1) :: r,x,k,h,hk,hc=>by
  have ih:=@relabel_lookup env r x k
  have hc':∀ y∈r,y.2≠.cell:=fun y hy=>hc y (List.mem_cons_of_mem _ hy)
  have h1:k1≠.cell:=hc (n,k1) List.mem_cons_self
  have h:List.lookup x ((if (k1 == NameKind.free && env.scope.kind == .function && env.kindOf n == some .cell)=true then (n,NameKind.cell) else (n,k1)) :: _)=some k:=h
  by_cases c:(k1 == NameKind.free && env.scope.kind == .function && env.kindOf n == some .cell)=true
  ·rw [if_pos c,List.lookup_cons] at h
   cases hx:x == n with
   | true=>
    have e:k1 = .free:=by simp only [Bool.and_eq_true,beq_iff_eq] at c;exact c.1.1
    rw [eq_of_beq hx,e]
    exact List.mem_cons_self
   | false=>rw [hx] at h;exact List.mem_cons_of_mem _ (ih h hk hc')
  ·rw [if_neg c,List.lookup_cons] at h
   cases hx:x == n with
   | true=>
    rw [hx] at h
    have e:k1=k:=Option.some.inj h
    have e2:k1 = .free:=by
     rcases hk with z | z
     ·exact absurd (e.trans z) h1
     ·exact e.trans z
    rw [eq_of_beq hx,e2]
    exact List.mem_cons_self
   | false=>rw [hx] at h;exact List.mem_cons_of_mem _ (ih h hk hc')
theorem relabel_free {env:Env}:∀ {names:List (Str×NameKind)} {x:Str},names.lookup x=some .free →
  (names.map fun (n,k)=>if (k == NameKind.free && env.scope.kind == .function && env.kindOf n == some .cell) then (n,NameKind.cell) else (n,k)).lookup x=some .cell ∨
  (names.map fun (n,k)=>if (k == NameKind.free && env.scope.kind == .function && env.kindOf n == some .cell) then (n,NameKind.cell) else (n,k)).lookup x=some .free
 | [],_,h=>by simp at h
 | (n,k1) :: r,x,h=>by
  have ih:=@relabel_free env r x
  show List.lookup x ((if (k1 == NameKind.free && env.scope.kind == .function && env.kindOf n == some .cell)=true then (n,NameKind.cell) else (n,k1)) :: _)=_\/List.lookup x ((if (k1 == NameKind.free && env.scope.kind == .function && env.kindOf n == some .cell)=true then (n,NameKind.cell) else (n,k1)) :: _)=_
  rw [List.lookup_cons] at h
  by_cases c:(k1 == NameKind.free && env.scope.kind == .function && env.kindOf n == some .cell)=true
  ·rw [if_pos c,List.lookup_cons]
   cases hx:x == n with
   | true=>exact .inl rfl
   | false=>rw [hx] at h;exact ih h
  ·rw [if_neg c,List.lookup_cons]
   cases hx:x == n with
   | true=>rw [hx] at h;exact .inr h
   | false=>rw [hx] at h;exact ih h
def PF (X:Cx) (ifs:List Expr) (t:TT):Prop:=
 ∀ (pins:List (Addr×Obj)) (s:Shared) (σ:St) (H:Hp) (Q:Bool->Hp->Prop),Inv X pins σ H s->t σ H Q →
  wpAny (model X.prog X.w) X.A (forIn ifs true fun c r=>if r=true then do let ok <-isTrue c X.env (eval c X.env);pure (ForInStep.yield ok) else pure (ForInStep.yield r)) (TP X pins σ Q) X.xe s
def tYes:TT:=fun _ H Q=>Q true H
theorem pf_nil {X:Cx}:PF X [] tYes:=fun _ _ _ H _ I h=>wpAny_tests_nil ⟨H,I,h⟩
def tComp (n:Nat) (js:List Nat) (wi:TI) (g:TG) (tt:TT) (te:TE):TE:=fun σ H Q=>wi σ H fun J H1=>∀ D,H1 D=none->∃ W:Nat->Nat->St->Hp->List V->Prop,
 (∃ m,W 0 m (blk n js σ) (upd H1 D (.lst [])) [])/\∀ i m τ H2 ys,W i m τ H2 ys->H2 D=some (.lst ys) ∧
  ((J.stop i H2/\Q (.ref D) H2)\/(J.go i H2/\ys.length < sizeLine/\∃ N:St->Hp->List V->Prop,(∀ τ' H' ys',N τ' H' ys'->∃ m',m' < m/\W (i+1) m' τ' H' ys')/\∀ x H3,J.yld i H2 x H3->g x τ H3 fun τ4 H4=>tt τ4 H4 fun b H5=>
   if b=true then te τ4 H5 fun y H6=>H6 D=some (.lst ys)/\N τ4 (upd H6 D (.lst (ys++[y]))) (ys++[y])
   else N τ4 H5 ys))
section
variable {X:Cx}
theorem block_inv {pins:List (Addr×Obj)} {σ:St} {H:Hp} {s:Shared} {h₁:Heap} {tk:Nat} {scope:Scope} {N:List Str} {js:List Nat} {cl:List (Str×Addr)} {fp:List Addr}
  (I:Inv X pins σ H s) (hk:scope.kind = .function) (hN:N.Nodup) (S:CompSc X.env.scope X.N scope N js) (hcl:∀ x c,cl.lookup x=some c->X.env.cells.lookup x=some c) (hcl2:∀ y∈scope.names,y.2 = .free->∃ c,cl.lookup y.1=some c)
  (hf:∀ b∈fp,b < s.heap.objs.size/\b≠X.env.locals/\b ∉ X.fs/\(b∈X.ex\/X.s₀.heap.objs.size<=b)/\(∀ x c,X.env.cells.lookup x=some c->c≠b))
  (hns:h₁.Ns s.heap.objs.size fun _=>none) (old:∀ b o,s.heap.get? b=some o->h₁.get? b=some o) :
  Inv (X.block scope cl s.heap.objs.size N s H fp) [] (blk (N.length - js.length) js σ) H { s with heap:=h₁,toks:=tk }:=by
 have look:∀ x,((relabel scope X.env).names.lookup x=some .cell\/(relabel scope X.env).names.lookup x=some .free)->∃ c,cl.lookup x=some c:=fun x hx=>by
  have hm:(x,NameKind.free)∈scope.names:=by
   rcases hx with z | z
   ·exact relabel_lookup z (.inl rfl) S.nocell
   ·exact relabel_lookup z (.inr rfl) S.nocell
  exact hcl2 _ hm rfl
 refine ⟨⟨I.ok.mod,hk,I.ok.glob,I.ok.blt,Nat.le_refl _,fun x y c h1 h2=>I.ok.inj x y c (hcl x c h1) (hcl y c h2),look,fun x c h=>(by cases h),I.ok.hd,I.ok.frames,.inl rfl,fun b hb=>?_,I.bs,Nat.le_trans I.ok.bsz I.sz,fun b o e hb=>?_,fun b hb z=>?_,I.stack,I.stkFree⟩,
  rfl,I.bare,Un.kept old,⟨_,hns,fun i x v h1 h2 h3=>?_⟩,fun x c h=>?_,I.hok.fresh (Nat.le_refl _),fun x c h=>I.freeC x c (hcl x c h),fun p hp=>absurd (show p∈([]:List (Addr×Obj)) from hp) (by simp),I.hok.kept old,?_⟩
 ·exact ⟨Nat.ne_of_lt (hf b hb).1,fun x c h=>(hf b hb).2.2.2.2 x c (hcl x c h)⟩
 ·rcases (hf b hb).2.2.2.1 with z | z
  ·exact I.ok.noex b o e z
  ·exact absurd (Nat.lt_of_lt_of_le (Heap.lt_size e) (Nat.le_trans I.ok.bsz z)) (Nat.lt_irrefl _)
 ·rcases List.mem_cons.mp (I.stkSub b z) with q | q
  ·exact (hf b hb).2.1 q
  ·exact (hf b hb).2.2.1 q
 ·obtain ⟨k,j,rfl,hj,hσ⟩:=blk_get h2
  obtain ⟨x',e1,e2,e3⟩:=S.fr k j hj
  rw [e1] at h1
  have ex:x'=x:=Option.some.inj h1
  subst ex
  have ok:=S.tk _ (PySem.mem_of_lookup e3) rfl
  obtain ⟨m,_,hl⟩:=I.loc
  obtain ⟨u,r,l⟩:=hl j x' v e2 hσ (.inr ok)
  refine ⟨u,⟨r.1,fun _ z=>nomatch z⟩,?_⟩
  rcases l with ⟨hk',_⟩ | ⟨_,c,hc,hcell⟩
  ·have hk2:X.env.scope.names.lookup x'=some .local:=hk'
   rcases ok with z | z<;>(rw [hk2] at z;cases z)
  ·obtain ⟨c',hc'⟩:=hcl2 _ (PySem.mem_of_lookup e3) rfl
   have:c'=c:=Option.some.inj ((hcl _ _ hc').symm.trans hc)
   subst this
   obtain ⟨o,ho,hd⟩:=hcell
   exact .inr ⟨relabel_free e3,c',hc',⟨o,old _ _ ho,hd⟩⟩
 ·obtain ⟨v,o,ho,hd⟩:=I.cell x c (hcl x c h)
  exact ⟨v,o,old _ _ ho,hd⟩
 ·show (blk (N.length - js.length) js σ).length=N.length
  unfold blk
  rw [List.length_append,List.length_replicate,List.length_map]
  have:=S.len
  omega
theorem comp_block {pins:List (Addr×Obj)} {σ:St} {H:Hp} {s:Shared} {elt target iter:Expr} {ifs:List Expr} {scope:Scope} {pos:Pos} {N:List Str} {js:List Nat} {cl:List (Str×Addr)} {J:It} {fp:List Addr} {it:Addr} {tn:Nat->Heap->Prop}
  {g:TG} {tt:TT} {te:TE} {E:Value->Shared->Prop} {RR:Value->Addr->Result->Shared->Prop} {Q:VK}
  (hc:X.calm=true) (I:Inv X pins σ H s) (T:Turn X.prog X.w X.K target J fp it tn) (st:tn 0 s.heap) (hf:∀ b∈fp,FpOk X pins H b)
  (hk:scope.kind = .function) (hN:N.Nodup) (S:CompSc X.env.scope X.N scope N js) (hcl:∀ x c,cl.lookup x=some c->X.env.cells.lookup x=some c) (hcl2:∀ y∈scope.names,y.2 = .free->∃ c,cl.lookup y.1=some c)
  (hg:∀ cl C s H fp,PG (X.block scope cl C N s H fp) target g) (ht:∀ cl C s H fp,PF (X.block scope cl C N s H fp) ifs tt) (he:∀ cl C s H fp,PE (X.block scope cl C N s H fp) elt te)
  (h:∀ D,H D=none->∃ W:Nat->Nat->St->Hp->List V->Prop,(∃ m,W 0 m (blk (N.length - js.length) js σ) (upd H D (.lst [])) [])/\∀ i m τ H2 ys,W i m τ H2 ys->H2 D=some (.lst ys) ∧
   ((J.stop i H2/\Q (.ref D) H2)\/(J.go i H2/\ys.length < sizeLine/\∃ N:St->Hp->List V->Prop,(∀ τ' H' ys',N τ' H' ys'->∃ m',m' < m/\W (i+1) m' τ' H' ys')/\∀ x H3,J.yld i H2 x H3->g x τ H3 fun τ4 H4=>tt τ4 H4 fun b H5=>
    if b=true then te τ4 H5 fun y H6=>H6 D=some (.lst ys)/\N τ4 (upd H6 D (.lst (ys++[y]))) (ys++[y])
    else N τ4 H5 ys)))
  (hend:∀ D C H' s',(∃ m,s'.heap.Ns C m)->FpOk X pins H' C->Inv X pins σ H' s'->Q (.ref D) H'->RR (.ref D) C (.ok .next) s') :
  wpAny (model X.prog X.w) X.A (newList []) (fun acc s₃=>wpAny (model X.prog X.w) X.A (newFunctionEnv scope X.env.globals cl [] X.env.qual none .none (some X.env)) (fun cenv s₄=>
   codeAny (model X.prog X.w) X.A (.compStart (.ListComp elt [⟨target,iter,ifs,0⟩] scope pos) 0 (.ref it) acc { cenv with scope:=relabel scope X.env }) (RR acc cenv.locals) s₄) E s₃) E s:=by
 obtain ⟨W,⟨m0,w0⟩,turn⟩:=h s.heap.objs.size I.fresh
 refine wpAny_newObj_type (wpAny_newFunctionEnv S.nocell (by intro y hy;simp at hy) (fun h₁ hns₁ hsb₁=>?_) hk)
 have I3:Inv X pins σ (upd H s.heap.objs.size (.lst [])) { s with heap:=s.heap.push { cls:=.type "list",dict:=none,data:=.seq ([]:List Value).toArray } }:=I.lnew (its:=[]) (ys:=[]) (t':=s.toks) .nil (Nat.zero_le _)
 have hF3:∀ b∈fp,b < s.heap.objs.size:=fun b hb=>by
  obtain ⟨o,e,_⟩:=T.obj 0 s.heap st b hb
  exact Heap.lt_size e
 have st3:tn 0 (s.heap.push { cls:=.type "list",dict:=none,data:=.seq ([]:List Value).toArray }):=T.keep 0 _ _ st fun b hb o e=>Heap.get?_push_of_some _ e
 generalize hs3:({ s with heap:=s.heap.push { cls:=.type "list",dict:=none,data:=.seq ([]:List Value).toArray } }:Shared)=s3 at I3 hns₁ hsb₁ ⊢
 have e3:s3.heap=s.heap.push { cls:=.type "list",dict:=none,data:=.seq ([]:List Value).toArray }:=by rw [<-hs3]
 rw [<-e3] at st3
 have z3:s.heap.objs.size<=s3.heap.objs.size:=by rw [e3,Heap.size_push];exact Nat.le_succ _
 have old:∀ b o,s3.heap.get? b=some o->h₁.get? b=some o:=fun b o e=>hsb₁.extBut b o (Nat.ne_of_lt (Heap.lt_size e)) (Heap.get?_push_of_some _ e)
 have hf3:∀ b∈fp,b < s3.heap.objs.size/\b≠X.env.locals/\b ∉ X.fs/\(b∈X.ex\/X.s₀.heap.objs.size<=b)/\(∀ x c,X.env.cells.lookup x=some c->c≠b):=fun b hb=>
  let ⟨_,q1,q2,q3,q4,_⟩:=hf b hb
  ⟨Nat.lt_of_lt_of_le (hF3 b hb) z3,q1,q2,q3,q4⟩
 have nD:∀ b∈fp,upd H s.heap.objs.size (.lst []) b=none:=fun b hb=>by
  rw [upd_ne (Nat.ne_of_lt (hF3 b hb))]
  exact (hf b hb).1
 have I4:Inv (X.block scope cl s3.heap.objs.size N s3 (upd H s.heap.objs.size (.lst [])) fp) [] (blk (N.length - js.length) js σ) (upd H s.heap.objs.size (.lst [])) { s3 with heap:=h₁,toks:=s3.toks+([]:List (Str×Value)).length }:=
  block_inv I3 hk hN S hcl hcl2 hf3 hns₁ old
 have st4:tn 0 h₁:=T.keep 0 _ _ st3 fun b hb o e=>old b o e
 have hg':=hg cl s3.heap.objs.size s3 (upd H s.heap.objs.size (.lst [])) fp
 have ht':=ht cl s3.heap.objs.size s3 (upd H s.heap.objs.size (.lst [])) fp
 have he':=he cl s3.heap.objs.size s3 (upd H s.heap.objs.size (.lst [])) fp
 have stat:∀ {H':Hp},(∀ b∈fp,H' b=none)->∀ b∈fp,FpOk (X.block scope cl s3.heap.objs.size N s3 (upd H s.heap.objs.size (.lst [])) fp) [] H' b:=fun hn b hb=>
  ⟨hn b hb,(I4.ok.exf b hb).1,I4.ok.exfs b hb,.inl hb,(I4.ok.exf b hb).2,fun p hp=>absurd (show p∈([]:List (Addr×Obj)) from hp) (by simp)⟩
 have loop:codeAny (model X.prog X.w) X.A (.compLoop (.ListComp elt [⟨target,iter,ifs,0⟩] scope pos) 0 (.ref it) (.ref s.heap.objs.size) (compEnvC scope cl s3.heap.objs.size X.env)) (RR (.ref s.heap.objs.size) s3.heap.objs.size) { s3 with heap:=h₁,toks:=s3.toks+([]:List (Str×Value)).length }:=by
  refine compLoop_any (fun n s'=>∃ i τ H' ys,Inv (X.block scope cl s3.heap.objs.size N s3 (upd H s.heap.objs.size (.lst [])) fp) [] τ H' s'/\tn i s'.heap/\(∀ b∈fp,H' b=none)/\W i n τ H' ys) ?_ m0 ⟨0,_,_,[],I4,st4,nD,w0⟩
  rintro n s5 ⟨i,τ,H5,ys,I5,st5,fr5,w5⟩
  obtain ⟨hD,hw⟩:=turn i n τ H5 ys w5
  rcases hw with ⟨stop,qn⟩ | ⟨go,hz,M,hM,step⟩
  ·refine thn (T.done (X.block scope cl s3.heap.objs.size N s3 (upd H s.heap.objs.size (.lst [])) fp) rfl rfl rfl hc i [] s5 τ H5 (fun _ _=>False) I5 (stat fr5) st5 stop) fun r s6 ⟨hr,I6⟩=>?_
   subst hr
   refine hend _ _ H5 s6 (let ⟨m,hn,_⟩:=I6.loc;⟨m,hn⟩) (I3.fpOk (Nat.le_refl _) I6.free) ?_ qn
   exact I3.call' (ch:=fp) I6.os I6.base I6.hok I6.bare fun b hb=>⟨(hf b hb).2.2.2.1,(hf b hb).2.1,(hf b hb).2.2.2.2.1,(hf b hb).2.2.2.2.2⟩
  ·refine thn (T.item (X.block scope cl s3.heap.objs.size N s3 (upd H s.heap.objs.size (.lst [])) fp) rfl rfl rfl hc i [] s5 τ H5 (fun _ _=>False) I5 (stat fr5) st5 go) fun r s6 ⟨u,hr,h6⟩=>?_
   subst hr
   refine thn h6 fun _ s7 ⟨x,H7,I7,r7,y7,st7,fr7⟩=>?_
   have I7':=I7.pinned (stat fr7) (T.obj _ _ st7)
   refine thn (hg' _ s7 τ H7 x u _ I7' r7 (step x H7 y7)) fun _ s8 ⟨τ8,H8,I8,q8⟩=>?_
   refine thn (ht' _ s8 τ8 H8 _ I8 q8) fun b s9 ⟨H9,I9,q9⟩=>?_
   have again:∀ {τ':St} {H':Hp} {s':Shared} {ys':List V},Inv (X.block scope cl s3.heap.objs.size N s3 (upd H s.heap.objs.size (.lst [])) fp) ([]++pinsAt fp s7.heap) τ' H' s'->M τ' H' ys' →
     ∃ m,m < n/\∃ i τ H' ys,Inv (X.block scope cl s3.heap.objs.size N s3 (upd H s.heap.objs.size (.lst [])) fp) [] τ H' s'/\tn i s'.heap/\(∀ b∈fp,H' b=none)/\W i m τ H' ys:=fun {τ' H' s' ys'} I' hm'=>by
    obtain ⟨m',hm,w'⟩:=hM _ _ _ hm'
    refine ⟨m',hm,i+1,τ',H',ys',I'.unpinned,T.keep _ _ _ st7 fun b hb o e=>(I'.pin (b,o) (List.mem_append_right _ (List.mem_append_right _ (mem_pinsAt hb e)))).1,fun b hb=>?_,w'⟩
    obtain ⟨o,e,d⟩:=T.obj _ _ st7 b hb
    exact (I'.pin (b,o) (List.mem_append_right _ (List.mem_append_right _ (mem_pinsAt hb e)))).2.1
   cases b with
   | false=>exact again I9 q9
   | true=>
    refine thn (he' _ s9 τ8 H9 _ I9 q9) fun y s10 ⟨v10,H10,I10,r10,hD10,q10⟩=>?_
    refine thn (mt_append (X:=X.block scope cl s3.heap.objs.size N s3 (upd H s.heap.objs.size (.lst [])) fp) _ s10 τ8 H10 (.ref s.heap.objs.size) [v10] (.ref s.heap.objs.size) [y] (fun _ H'=>M τ8 H' (ys++[v10])) I10 rfl (.cons r10 .nil) ⟨_,ys,v10,rfl,rfl,hD10,hz,q10⟩) fun _ s11 ⟨_,H11,I11,_,q11⟩=>?_
    exact again I11 q11
 exact codeAny_compStart_list loop (T.self X.A 0 _ _ _ st4 loop)
variable {elt target iter:Expr} {ifs:List Expr} {scope:Scope} {pos spos:Pos} {wi:TI} {g:TG} {tt:TT} {te:TE}
theorem pe_comp (N:List Str) (js:List Nat) (hok:compOk X.env.scope X.N scope N js=true) (hN:N.Nodup) (hc:X.calm=true) (hi:PI X target iter wi)
  (hg:∀ cl C s H fp,PG (X.block scope cl C N s H fp) target g) (ht:∀ cl C s H fp,PF (X.block scope cl C N s H fp) ifs tt) (he:∀ cl C s H fp,PE (X.block scope cl C N s H fp) elt te)
  (hk:scope.kind = .function:=by rfl) (hs:∀ x,foldedSetIterable iter X.env x=pure x:=by intro _;rfl) :
  PE X (.ListComp elt [⟨target,iter,ifs,0⟩] scope pos) (tComp (N.length - js.length) js wi g tt te):=by
 intro pins s σ H Q I h
 have S:=compOk_sc hok
 obtain ⟨cl,hclos,hcl,hcl2⟩:=closure_ok (env:=X.env) (scope:=scope) fun y hy hf=>I.ok.has _ (S.tk y hy hf)
 rw [eval_ListComp]
 refine wpAny_comprehension_free (use:=none) rfl hs hclos hk S.names (thn (hi pins s σ H _ I h) fun v s1 h1=>thn h1 fun itv s2 h2=>?_)
 obtain ⟨it,fp,tn,J,H2,e,I2,T,st2,f2,hw⟩:=h2
 subst e
 refine comp_block (RR:=fun acc C=>compPost (model X.prog X.w) X.A X.xe none (EP X pins σ Q) acc C) (Q:=Q) hc I2 T st2 f2 hk hN S hcl hcl2 hg ht he hw ?_
 rintro D C H' s' ⟨m,hn⟩ ⟨c0,c1,c2,c3,c4,c5⟩ I' q
 exact ⟨m,hn,fun h' hs'=>⟨.ref D,H',I'.turned (t':=s'.toks) (fun b o hb e=>(hs'.2 b hb).trans e) c0 c1 c3 c4 c5,rfl,q⟩⟩
theorem ps_setComp {i:Nat} {y:Str} {py:Pos} (N:List Str) (js:List Nat) (hok:compOk X.env.scope X.N scope N js=true) (hN:N.Nodup) (hc:X.calm=true) (hXN:X.N.Nodup) (hyi:X.N[i]? = some y) (hy:Loc X.env.scope y) (hi:PI X target iter wi)
  (hg:∀ cl C s H fp,PG (X.block scope cl C N s H fp) target g) (ht:∀ cl C s H fp,PF (X.block scope cl C N s H fp) ifs tt) (he:∀ cl C s H fp,PE (X.block scope cl C N s H fp) elt te)
  (hsw:swapsWith (.ListComp elt [⟨target,iter,ifs,0⟩] scope pos) (some (.Name y py)) spos.line X.env=pure true:=by rfl)
  (hk:scope.kind = .function:=by rfl) (hs:∀ x,foldedSetIterable iter X.env x=pure x:=by intro _;rfl) (hf:CanSt X y:=by first | exact ⟨.inl rfl,fun _ z=>nomatch z⟩ | exact ⟨.inr rfl,fun _ z=>nomatch z⟩ | assumption) :
  PS X (.Assign [.Name y py] (.ListComp elt [⟨target,iter,ifs,0⟩] scope pos) spos) (tAsg (tComp (N.length - js.length) js wi g tt te) (gName i)):=by
 intro pins s σ H D I h
 have S:=compOk_sc hok
 obtain ⟨cl,hclos,hcl,hcl2⟩:=closure_ok (env:=X.env) (scope:=scope) fun y hy hf=>I.ok.has _ (S.tk y hy hf)
 rw [exec_Assign_Name_used _ _ _ _ hsw]
 refine wpAny_bind (wpAny_standAt (wpAny_bind ?_))
 show wpAny _ X.A (do let _ <-comprehension (.ListComp elt [⟨target,iter,ifs,0⟩] scope pos) scope X.env _ (newList []) false (eval iter X.env) (some (assign (.Name y py) X.env))) _ _ s
 refine wpAny_bind (wpAny_mono (wpAny_comprehension_free (use:=some (assign (.Name y py) X.env)) (Q:=fun _ s'=>SP X pins D .next s') rfl hs hclos hk S.names
  (thn (hi pins s σ H _ I h) fun v s1 h1=>thn h1 fun itv s2 h2=>?_)) (fun _ s' hq=>wpAny_pure (wpAny_pure hq)) fun _ _ e=>e)
 obtain ⟨it,fp,tn,J,H2,e,I2,T,st2,f2,hw⟩:=h2
 subst e
 refine comp_block (RR:=fun acc C=>compPost (model X.prog X.w) X.A X.xe (some (assign (.Name y py) X.env)) (fun _ s'=>SP X pins D .next s') acc C) (Q:=fun v H'=>D.nx (σ.set i (some v)) H') hc I2 T st2 f2 hk hN S hcl hcl2 hg ht he hw ?_
 rintro E C H' s' ⟨m,hn⟩ ⟨c0,c1,c2,c3,c4,c5⟩ I' q
 show wpAny _ X.A (assign (.Name y py) X.env (.ref E)) _ _ _
 obtain ⟨oC,es,ep,hoC,hdC,hrC⟩:=id hn
 have I2':Inv X (pins++[(C,oC)]) σ H' s':=I'.pins_of fun p hp=>(List.mem_append.mp hp).elim (fun z=>I'.pin p (List.mem_append_right _ z)) fun z=>by
  have e:p=(C,oC):=by simpa using z
  subst e
  exact ⟨hoC,c0,c1,c2,fun v z=>by rw [hdC] at z;cases z⟩
 refine wpAny_assign_Name (store_ok I2' hXN hyi hy (v:=.ref E) rfl (fun s'' I''=>?_) hf)
 have hC2:=(I''.pin (C,oC) (List.mem_append_right _ (List.mem_append_right _ (by simp)))).1
 have I3:Inv X pins (σ.set i (some (.ref E))) H' s'':=I''.unpinned
 exact ⟨m,⟨oC,es,ep,hC2,hdC,hrC⟩,fun h' hs'=>⟨_,H',I3.turned (t':=s''.toks) (fun b o hb e=>(hs'.2 b hb).trans e) c0 c1 c3 c4 c5,q⟩⟩
end
structure ItOk (J:It) (xs:List V) (ok:Hp->Prop):Prop where
 stop:∀ H,ok H->J.stop xs.length H
 go:∀ i H,ok H->i < xs.length->J.go i H
 yld:∀ i H x H',ok H->i < xs.length->J.yld i H x H'->H'=H/\xs[i]? = some x
theorem it_list (K:PySem.W.Frag) (a:Addr) (xs:List V):ItOk (Itl K a) xs fun H=>SqL K H a xs:=
 ⟨fun H h=>⟨xs,h,Nat.le_refl _⟩,fun i H h hi=>⟨xs,xs[i],h,by simp [hi]⟩,fun i H x H' h hi y=>⟨y.1,y.2 xs h⟩⟩
theorem it_range (lo:Int) (n:Nat):ItOk (Itr lo n) ((List.range n).map fun i=>V.int (lo+(i:Nat))) fun _=>True:=
 ⟨fun H _=>by show n<=_;simp,fun i H _ hi=>(by show i < n;simpa using hi),fun i H x H' _ hi y=>⟨y.1,by
  have hi':i < n:=by simpa using hi
  obtain ⟨_,rfl⟩:=y
  simp [hi']⟩⟩
theorem comp_by {J:It} {D:Addr} {xs:List V} {ok:Hp->Prop} {g:TG} {tt:TT} {te:TE} {Q:Hp->Prop} {τ:St} {H:Hp} (IO:ItOk J xs ok) (Pv:Nat->St->Hp->List V->Prop) (hz:xs.length<=sizeLine) (h0:Pv 0 τ H [])
  (hl:∀ i τ H ys,i<=xs.length->Pv i τ H ys->ok H/\H D=some (.lst ys)/\ys.length<=i)
  (hs:∀ i x τ H ys,i < xs.length->xs[i]? = some x->Pv i τ H ys->g x τ H fun τ4 H4=>tt τ4 H4 fun b H5=>
   if b=true then te τ4 H5 fun y H6=>H6 D=some (.lst ys)/\Pv (i+1) τ4 (upd H6 D (.lst (ys++[y]))) (ys++[y]) else Pv (i+1) τ4 H5 ys)
  (hd:∀ τ H ys,Pv xs.length τ H ys->Q H) :
  ∃ W:Nat->Nat->St->Hp->List V->Prop,(∃ m,W 0 m τ H [])/\∀ i m τ H2 ys,W i m τ H2 ys->H2 D=some (.lst ys) ∧
   ((J.stop i H2/\Q H2)\/(J.go i H2/\ys.length < sizeLine/\∃ N:St->Hp->List V->Prop,(∀ τ' H' ys',N τ' H' ys'->∃ m',m' < m/\W (i+1) m' τ' H' ys')/\∀ x H3,J.yld i H2 x H3->g x τ H3 fun τ4 H4=>tt τ4 H4 fun b H5=>
    if b=true then te τ4 H5 fun y H6=>H6 D=some (.lst ys)/\N τ4 (upd H6 D (.lst (ys++[y]))) (ys++[y])
    else N τ4 H5 ys)):=by
 refine ⟨fun i m τ H ys=>m=xs.length - i/\i<=xs.length/\Pv i τ H ys,⟨xs.length,by simp,Nat.zero_le _,h0⟩,?_⟩
 rintro i m τ H ys ⟨rfl,hi,p⟩
 obtain ⟨q,hD,hy⟩:=hl i τ H ys hi p
 refine ⟨hD,?_⟩
 by_cases hlt:i < xs.length
 ·refine .inr ⟨IO.go i H q hlt,by omega,Pv (i+1),fun τ' H' ys' p'=>⟨xs.length - (i+1),by omega,rfl,hlt,p'⟩,fun x H' y=>?_⟩
  obtain ⟨e,hx⟩:=IO.yld i H x H' q hlt y
  subst e
  exact hs i x τ _ ys hlt hx p
 ·have e:i=xs.length:=by omega
  subst e
  exact .inl ⟨IO.stop H q,hd τ H ys p⟩
theorem for_by {J:It} {xs:List V} {ok:Hp->Prop} {g:TG} {tb:TS} {D:Ends} {σ:St} {H:Hp} (IO:ItOk J xs ok) (Pv:Nat->St->Hp->Prop) (h0:Pv 0 σ H) (hl:∀ i σ H,i<=xs.length->Pv i σ H->ok H)
  (hs:∀ i x σ H,i < xs.length->xs[i]? = some x->Pv i σ H->g x σ H fun σ2 H2=>tb { D with nx:=Pv (i+1),ct:=Pv (i+1),bk:=D.nx } σ2 H2) (hd:∀ σ H,Pv xs.length σ H->D.nx σ H) :
  ∃ W:Nat->Nat->St->Hp->Prop,(∃ m,W 0 m σ H)/\∀ i m σ H,W i m σ H →
   (J.stop i H/\D.nx σ H)\/(J.go i H/\∃ N:St->Hp->Prop,(∀ σ' H',N σ' H'->∃ m',m' < m/\W (i+1) m' σ' H')/\∀ x H',J.yld i H x H'->g x σ H' fun σ2 H2=>tb { D with nx:=N,ct:=N,bk:=D.nx } σ2 H2):=by
 refine ⟨fun i m σ H=>m=xs.length - i/\i<=xs.length/\Pv i σ H,⟨xs.length,by simp,Nat.zero_le _,h0⟩,?_⟩
 rintro i m σ H ⟨rfl,hi,p⟩
 have q:=hl i σ H hi p
 by_cases hlt:i < xs.length
 ·refine .inr ⟨IO.go i H q hlt,Pv (i+1),fun σ' H' p'=>⟨xs.length - (i+1),by omega,rfl,hlt,p'⟩,fun x H' y=>?_⟩
  obtain ⟨e,hx⟩:=IO.yld i H x H' q hlt y
  subst e
  exact hs i x σ _ hlt hx p
 ·have e:i=xs.length:=by omega
  subst e
  exact .inl ⟨IO.stop H q,hd σ H p⟩
end L2
end
section
namespace L2
open PySem PySem.Spec PyProof.Rows
section
variable {X:Cx}
def tyN (H:Hp):V->Option String
 | .non=>some "NoneType"
 | .bl _=>some "bool"
 | .int _=>some "int"
 | .str _=>some "str"
 | .ref a=>match H a with
  | some (.lst _)=>some "list"
  | some (.tup _)=>some "tuple"
  | some (.dK _)=>some "dict"
  | _=>none
 | _=>none
theorem call_isinst:CallR X (.builtin "isinstance") (fun xs H Q=>∃ x T Tx,xs=[x,.ty T]/\tyN H x=some Tx/\T∈["int","bool","list","tuple","str"]/\Q (.bl (Tx == T || (Tx == "bool" && T == "int"))) H):=by
 intro pins s σ H xs us Q I r h
 obtain ⟨x,T,Tx,rfl,hT,hm,q⟩:=h
 obtain ⟨u,w',rfl,r1,r2⟩:=vals2 r
 obtain rfl:w' = .type T:=r2
 have no:∀ {b:Bool},b=(Tx == T || (Tx == "bool" && T == "int"))->∀ tk,EP X pins σ Q (.bool b) { s with toks:=tk }:=fun {b} hb tk=>⟨.bl b,H,I.tok _,rfl,by rw [hb];exact q⟩
 have ye:∀ {b:Bool},b=(Tx == T || (Tx == "bool" && T == "int"))->EP X pins σ Q (.bool b) s:=fun {b} hb=>⟨.bl b,H,I,rfl,by rw [hb];exact q⟩
 simp only [List.mem_cons,List.not_mem_nil,or_false] at hm
 cases x with
 | int i=>
  obtain ⟨t,rfl⟩:=r1
  cases hT
  rcases hm with rfl | rfl | rfl | rfl | rfl
  ·exact IsiPair.int_int (ye (by decide))
  ·exact IsiPair.int_bool (no (by decide) _)
  ·exact IsiPair.int_list (no (by decide) _)
  ·exact IsiPair.int_tuple (no (by decide) _)
  ·exact IsiPair.int_str (no (by decide) _)
 | str i=>
  obtain ⟨t,rfl⟩:=r1
  cases hT
  rcases hm with rfl | rfl | rfl | rfl | rfl
  ·exact IsiPair.str_int (no (by decide) _)
  ·exact IsiPair.str_bool (no (by decide) _)
  ·exact IsiPair.str_list (no (by decide) _)
  ·exact IsiPair.str_tuple (no (by decide) _)
  ·exact IsiPair.str_str (ye (by decide))
 | bl i=>
  cases r1
  cases hT
  rcases hm with rfl | rfl | rfl | rfl | rfl
  ·exact IsiPair.bool_int (ye (by decide))
  ·exact IsiPair.bool_bool (ye (by decide))
  ·exact IsiPair.bool_list (no (by decide) _)
  ·exact IsiPair.bool_tuple (no (by decide) _)
  ·exact IsiPair.bool_str (no (by decide) _)
 | ref a=>
  cases r1
  cases hH:H a with
  | none=>simp [tyN,hH] at hT
  | some o=>
   cases o with
   | lst ys=>
    simp [tyN,hH] at hT
    subst hT
    obtain ⟨_,its,n,_,e⟩:=I.hok a _ hH
    have hx:∃ o,s.heap.get? a=some o/\o.cls = .type "list" := ⟨_,e,rfl⟩
    rcases hm with rfl | rfl | rfl | rfl | rfl
    ·exact call_isinstance (isinstance_false_list (by decide +kernel) F.isi_meta_int F.sub_list_int) ⟨hx,no (by decide) _⟩
    ·exact call_isinstance (isinstance_false_list (by decide +kernel) F.isi_meta_bool F.sub_list_bool) ⟨hx,no (by decide) _⟩
    ·exact call_isinstance (isinstance_true (Tx:= "list") F.isi_meta_list F.sub_list_list) ⟨⟨_,e,rfl⟩,ye (by decide)⟩
    ·exact call_isinstance (isinstance_false_list (by decide +kernel) F.isi_meta_tuple F.sub_list_tuple) ⟨hx,no (by decide) _⟩
    ·exact call_isinstance (isinstance_false_list (by decide +kernel) F.isi_meta_str F.sub_list_str) ⟨hx,no (by decide) _⟩
   | tup ys=>
    simp [tyN,hH] at hT
    subst hT
    obtain ⟨_,its,_,o,e,hc,_⟩:=I.hok a _ hH
    have hx:∃ o,s.heap.get? a=some o/\o.cls = .type "tuple" := ⟨_,e,hc⟩
    rcases hm with rfl | rfl | rfl | rfl | rfl
    ·exact call_isinstance (isinstance_false_tuple (by decide +kernel) F.isi_meta_int F.sub_tuple_int) ⟨hx,no (by decide) _⟩
    ·exact call_isinstance (isinstance_false_tuple (by decide +kernel) F.isi_meta_bool F.sub_tuple_bool) ⟨hx,no (by decide) _⟩
    ·exact call_isinstance (isinstance_false_tuple (by decide +kernel) F.isi_meta_list F.sub_tuple_list) ⟨hx,no (by decide) _⟩
    ·exact call_isinstance (isinstance_true (Tx:= "tuple") F.isi_meta_tuple F.sub_tuple_tuple) ⟨⟨_,e,hc⟩,ye (by decide)⟩
    ·exact call_isinstance (isinstance_false_tuple (by decide +kernel) F.isi_meta_str F.sub_tuple_str) ⟨hx,no (by decide) _⟩
   | dK ys=>
    simp [tyN,hH] at hT
    subst hT
    obtain ⟨_,_,vs,_,dd⟩:=I.hok a _ hH
    obtain ⟨o,es,ep,e,hc,_⟩:=dd
    have hx:∃ o,s.heap.get? a=some o/\o.cls = .type "dict" := ⟨o,e,hc.1⟩
    rcases hm with rfl | rfl | rfl | rfl | rfl
    ·exact call_isinstance (isinstance_false_dict (by decide +kernel) F.isi_meta_int F.sub_dict_int) ⟨hx,no (by decide) _⟩
    ·exact call_isinstance (isinstance_false_dict (by decide +kernel) F.isi_meta_bool F.sub_dict_bool) ⟨hx,no (by decide) _⟩
    ·exact call_isinstance (isinstance_false_dict (by decide +kernel) F.isi_meta_list F.sub_dict_list) ⟨hx,no (by decide) _⟩
    ·exact call_isinstance (isinstance_false_dict (by decide +kernel) F.isi_meta_tuple F.sub_dict_tuple) ⟨hx,no (by decide) _⟩
    ·exact call_isinstance (isinstance_false_dict (by decide +kernel) F.isi_meta_str F.sub_dict_str) ⟨hx,no (by decide) _⟩
   | _=>simp [tyN,hH] at hT
 | non=>
  cases r1
  cases hT
  rcases hm with rfl | rfl | rfl | rfl | rfl
  ·exact IsiPair.NoneType_int (no (by decide) _)
  ·exact IsiPair.NoneType_bool (no (by decide) _)
  ·exact IsiPair.NoneType_list (no (by decide) _)
  ·exact IsiPair.NoneType_tuple (no (by decide) _)
  ·exact IsiPair.NoneType_str (no (by decide) _)
 | _=>cases hT
theorem vals_bools:∀ {bs:List Bool} {us:List Value},Vals (bs.map V.bl) us->us=bs.map Value.bool
 | [],us,r=>by cases r;rfl
 | b :: bs,us,r=>by
  cases r with
  | cons r1 r2=>
   cases r1
   rw [vals_bools r2];rfl
theorem all_range (bs:List Bool):(List.range bs.length).all (fun i=>bs.getD i true)=bs.all id:=by
 rw [Bool.eq_iff_iff,List.all_eq_true,List.all_eq_true]
 constructor
 ·intro h b hb
  obtain ⟨i,hi,rfl⟩:=List.mem_iff_getElem.mp hb
  have:=h i (List.mem_range.mpr hi)
  rw [List.getD_eq_getElem?_getD,List.getElem?_eq_getElem hi] at this
  exact this
 ·intro h i hi
  have hi:=List.mem_range.mp hi
  rw [List.getD_eq_getElem?_getD,List.getElem?_eq_getElem hi]
  exact h _ (List.getElem_mem hi)
theorem call_all (hc:X.calm=true):CallR X (.builtin "all") (fun xs H Q=>∃ (p:Addr) (bs:List Bool),xs=[.ref p]/\H p=some (.lst (bs.map V.bl))/\Q (.bl (bs.all id)) H):=by
 intro pins s σ H xs us Q I r h
 obtain ⟨p,bs,rfl,hH,q⟩:=h
 obtain ⟨u,rfl,r1⟩:=vals1 r
 cases r1
 obtain ⟨z,its,n,rv,e⟩:=I.hok p _ hH
 have ei:=vals_bools rv
 subst ei
 have hl:s.heap.IsList p (bs.map Value.bool).toArray:=⟨_,e,rfl,_,rfl⟩
 have hp:p < s.heap.objs.size:=Heap.lt_size e
 refine call_all_walk (wpAny_pyIter_list hl ?_)
 refine ⟨s.heap.objs.size,_,[s.heap.objs.size],_,_,_,(fun i=>bs.getD i true),rfl,Walks.list (A:=X.A.in1) (I.ok.hd hc) s.heap.objs.size p (Nat.ne_of_lt hp) (bs.map Value.bool).toArray,⟨⟨_,Heap.get?_push_size _ rfl,rfl,rfl⟩,hl.push _⟩,?_,fun h' tk hk=>?_⟩
 ·intro i v s' Q' E' hP hQ
  have hP:(bs.map Value.bool).toArray[i]? = some v:=hP
  have hb:∃ b,bs[i]? = some b/\v = .bool b:=by
   rw [List.getElem?_toArray,List.getElem?_map] at hP
   cases e:bs[i]? with
   | none=>rw [e] at hP;cases hP
   | some b=>rw [e] at hP;exact ⟨b,rfl,(Option.some.inj hP).symm⟩
  obtain ⟨b,hb,rfl⟩:=hb
  have e:bs.getD i true=b:=by rw [List.getD_eq_getElem?_getD,hb];rfl
  dsimp only at hQ
  rw [e] at hQ
  exact wpAny_truthy_bool hQ
 ·have hn:(bs.map Value.bool).toArray.size=bs.length:=by simp
  rw [hn,all_range]
  exact ⟨.bl (bs.all id),H,I.kept fun b o e=>hk b o (fun hm=>by
   have:b=s.heap.objs.size:=by simpa using hm
   exact absurd (this ▸ Heap.lt_size e) (Nat.lt_irrefl _)) (Heap.get?_push_of_some _ e),rfl,q⟩
theorem vals_strs:∀ {ws:List Str} {us:List Value},Vals (ws.map V.str) us->StrsAre us ws
 | [],us,r=>by cases r;exact .nil
 | w :: ws,us,r=>by
  cases r with
  | cons r1 r2=>
   obtain ⟨t,rfl⟩:=r1
   exact .cons w t (vals_strs r2)
theorem mt_join:MtM X "str.join" (fun x vs H Q=>∃ (sep:Str) (p:Addr) (ws:List Str),x = .str sep/\vs=[.ref p]/\H p=some (.lst (ws.map V.str))/\(ws.map (·.length)).sum+ws.length * sep.length<=16777216/\Q (.str (Txt.join sep ws)) H):=by
 intro pins s σ H x vs v us Q I rx rv h
 obtain ⟨sep,p,ws,rfl,rfl,hH,hz,q⟩:=h
 obtain ⟨t,rfl⟩:=rx
 obtain ⟨u,rfl,ru⟩:=rv.one
 cases ru
 obtain ⟨z,its,n,r,e⟩:=I.hok p _ hH
 exact join_list (items:=its.toArray) ⟨_,e,rfl,_,rfl⟩ (vals_strs r) hz fun t' k=>⟨.str _,H,I.tok _,⟨_,rfl⟩,q⟩
theorem mt_strip:MtM X "str.strip" (fun x vs H Q=>∃ z y,x = .str z/\vs=[.str y]/\z.length<=sizeLine/\Q (.str (Txt.stripChars z y)) H):=by
 intro pins s σ H x vs v us Q I rx rv h
 obtain ⟨z,y,rfl,rfl,hz,q⟩:=h
 obtain ⟨t,rfl⟩:=rx
 obtain ⟨u,rfl,t',rfl⟩:=rv.one
 exact SC.stripChars (fun t' k=>⟨.str _,H,I.tok _,⟨_,rfl⟩,q⟩) hz
theorem mt_bitlen:MtM X "int.bit_length" (fun x vs H Q=>∃ i,x = .int i/\vs=[]/\Q (.int (Builtin.Int.intBits i)) H):=by
 intro pins s σ H x vs v us Q I rx rv h
 obtain ⟨i,rfl,rfl,q⟩:=h
 obtain ⟨t,rfl⟩:=rx
 obtain rfl:=rv.zero
 exact call_int_bit_length ⟨.int _,H,I.tok _,⟨_,rfl⟩,q⟩
theorem sl_str:SlR X (fun x lo hi H Q=>∃ z,x = .str z/\z.length<=sizeLine/\Q (.str (Txt.slice z lo hi)) H):=by
 intro pins s σ H x v vl vu lo hi sl Q I rx hs pl pu h
 obtain ⟨z,rfl,hz,q⟩:=h
 obtain ⟨t,rfl⟩:=rx
 have fin:∀ t' k,EP X pins σ Q (.str (Txt.slice z lo hi) t') { s with toks:=k }:=fun t' k=>⟨.str _,H,I.tok _,⟨_,rfl⟩,q⟩
 refine ⟨"str",_,F.slot_str_getitem.lookup,typeIs_str _ _ _,?_⟩
 cases pl with
 | none=>
  cases pu with
  | none=>exact wpAny_getItem_str_slice (l:=none) (u:=none) (st:=none) hs rfl (post_val_or_str ⟨Nat.le_trans (Txt.slice_le z _ _) hz,fin⟩)
  | int j uj=>exact wpAny_getItem_str_slice (l:=none) (u:=some (j,uj)) (st:=none) hs rfl (post_val_or_str ⟨Nat.le_trans (Txt.slice_le z _ _) hz,fin⟩)
 | int i ui=>
  cases pu with
  | none=>exact wpAny_getItem_str_slice (l:=some (i,ui)) (u:=none) (st:=none) hs rfl (post_val_or_str ⟨Nat.le_trans (Txt.slice_le z _ _) hz,fin⟩)
  | int j uj=>exact wpAny_getItem_str_slice (l:=some (i,ui)) (u:=some (j,uj)) (st:=none) hs rfl (post_val_or_str ⟨Nat.le_trans (Txt.slice_le z _ _) hz,fin⟩)
theorem call_int_bit:CallR X (.type "int") (fun xs H Q=>∃ b:Bool,xs=[.str (if b then ("1" : Str) else "0")]/\Q (.int (if b then 1 else 0)) H):=by
 intro pins s σ H xs us Q I r h
 obtain ⟨b,rfl,q⟩:=h
 obtain ⟨u,rfl,t,rfl⟩:=vals1 r
 cases b with
 | true=>exact PySem.W.KIN.call_text (x:=("1" : Str)) (n:=1) (by decide +kernel) (by decide +kernel) ⟨.int 1,H,I.tok _,⟨_,rfl⟩,q⟩
 | false=>exact PySem.W.KIN.call_text (x:=("0" : Str)) (n:=0) (by decide +kernel) (by decide +kernel) ⟨.int 0,H,I.tok _,⟨_,rfl⟩,q⟩
end
end L2
end
section
namespace L2
open PySem PySem.Spec PyProof.Rows
mutual
inductive DV (H:Hp):V->PyData->Prop
 | non:DV H .non .none
 | bl (b:Bool):DV H (.bl b) (.bool b)
 | int (i:Int):DV H (.int i) (.int i)
 | str (x:Str):DV H (.str x) (.str x)
 | lst {a:Addr} {xs:List V} {ds:List PyData}:H a=some (.lst xs)->DVs H xs ds->DV H (.ref a) (.list ds)
 | tup {a:Addr} {xs:List V} {ds:List PyData}:H a=some (.tup xs)->DVs H xs ds->DV H (.ref a) (.tuple ds)
 | dic {a:Addr}:H a=some (.dK [])->DV H (.ref a) (.dict [])
inductive DVs (H:Hp):List V->List PyData->Prop
 | nil:DVs H [] []
 | cons {x:V} {d:PyData} {xs:List V} {ds:List PyData}:DV H x d->DVs H xs ds->DVs H (x :: xs) (d :: ds)
end
mutual
theorem DV.mono {H H':Hp} (k:Same H H'):∀ {v:V} {d:PyData},DV H v d->DV H' v d
 | _,_,.non=>.non
 | _,_,.bl b=>.bl b
 | _,_,.int i=>.int i
 | _,_,.str x=>.str x
 | _,_,.lst h r=>.lst (k _ _ h) (DVs.mono k r)
 | _,_,.tup h r=>.tup (k _ _ h) (DVs.mono k r)
 | _,_,.dic h=>.dic (k _ _ h)
theorem DVs.mono {H H':Hp} (k:Same H H'):∀ {vs:List V} {ds:List PyData},DVs H vs ds->DVs H' vs ds
 | _,_,.nil=>.nil
 | _,_,.cons h r=>.cons (DV.mono k h) (DVs.mono k r)
end
section
variable {X:Cx} {pins:List (Addr×Obj)} {σ:St} {H:Hp} {s:Shared}
mutual
theorem DV.reads (I:Inv X pins σ H s):∀ {v:V} {d:PyData} {u:Value},DV H v d->d.canLay0=true->RelV v u->∃ as,Reads s.heap u d as
 | _,_,_,.non,_,r=>by cases r;exact ⟨_,.none⟩
 | _,_,_,.bl b,_,r=>by cases r;exact ⟨_,.bool b⟩
 | _,_,_,.int i,_,r=>by obtain ⟨t,rfl⟩:=r;exact ⟨_,.int i t⟩
 | _,_,_,.str x,_,r=>by obtain ⟨t,rfl⟩:=r;exact ⟨_,.str x t⟩
 | _,_,_,.lst h rr,c,r=>by
  cases r
  obtain ⟨_,its,n,rv,e⟩:=I.hok _ _ h
  obtain ⟨as,q⟩:=DVs.reads I rr (by simpa [PyData.canLay0] using c) rv
  exact ⟨_,.list e rfl rfl (by simpa using q)⟩
 | _,_,_,.tup h rr,c,r=>by
  cases r
  obtain ⟨_,its,rv,o,e,hc,n,hd⟩:=I.hok _ _ h
  obtain ⟨as,q⟩:=DVs.reads I rr (by simpa [PyData.canLay0] using c) rv
  exact ⟨_,.tuple e hc hd (by simpa using q)⟩
 | _,_,_,.dic h,c,r=>by simp [PyData.canLay0] at c
theorem DVs.reads (I:Inv X pins σ H s):∀ {vs:List V} {ds:List PyData} {us:List Value},DVs H vs ds->PyData.canLayAll0 ds=true->Vals vs us->∃ as,ReadsAll s.heap us ds as
 | _,_,_,.nil,_,r=>by cases r;exact ⟨_,.nil⟩
 | _,_,_,.cons h rr,c,r=>by
  have c':=by simpa [PyData.canLayAll0] using c
  cases r with
  | cons r1 r2=>
   obtain ⟨as,q⟩:=DV.reads I h c'.1 r1
   obtain ⟨bs,p⟩:=DVs.reads I rr c'.2 r2
   exact ⟨_,.cons q p⟩
end
end
section
variable {X:Cx}
theorem op_eqD (hu:X.A.units+64 < cLine):OpR X (compareOp .Eq) (fun x y H Q=>∃ d e,DV H x d/\DV H y e/\SeqAt.shaped d=true/\SeqAt.shaped e=true/\Q (.bl (PyData.eqv d e)) H):=by
 intro pins s σ H x y v u Q I rx ry h
 obtain ⟨d,e,hd,he,sd,se,q⟩:=h
 obtain ⟨as,ra⟩:=hd.reads I (SeqAt.canLay_of_shaped sd) rx
 obtain ⟨bs,rb⟩:=he.reads I (SeqAt.canLay_of_shaped se) ry
 exact eq_dataH ra rb sd se hu ⟨.bl _,H,I,rfl,q⟩
theorem op_neD (hu:X.A.units+64 < cLine):OpR X (compareOp .NotEq) (fun x y H Q=>∃ d e,DV H x d/\DV H y e/\SeqAt.shaped d=true/\SeqAt.shaped e=true/\Q (.bl (!PyData.eqv d e)) H):=by
 intro pins s σ H x y v u Q I rx ry h
 obtain ⟨d,e,hd,he,sd,se,q⟩:=h
 obtain ⟨as,ra⟩:=hd.reads I (SeqAt.canLay_of_shaped sd) rx
 obtain ⟨bs,rb⟩:=he.reads I (SeqAt.canLay_of_shaped se) ry
 exact ne_dataH ra rb sd se hu ⟨.bl _,H,I,rfl,q⟩
end
mutual
theorem eqv_refl:∀ d:PyData,d.canLay0=true->PyData.eqv d d=true
 | .none,_=>by simp [PyData.eqv]
 | .bool b,_=>by simp [PyData.eqv]
 | .int i,_=>by simp [PyData.eqv]
 | .str x,_=>by simp [PyData.eqv]
 | .list xs,h=>by rw [PyData.eqv];exact eqvAll_refl xs (by simpa [PyData.canLay0] using h)
 | .tuple xs,h=>by rw [PyData.eqv];exact eqvAll_refl xs (by simpa [PyData.canLay0] using h)
 | .dict xs,h=>by simp [PyData.canLay0] at h
theorem eqvAll_refl:∀ ds:List PyData,PyData.canLayAll0 ds=true->PyData.eqvAll ds ds=true
 | [],_=>by simp [PyData.eqvAll]
 | d :: ds,h=>by
  have h':d.canLay0=true/\PyData.canLayAll0 ds=true:=by simpa [PyData.canLayAll0] using h
  rw [PyData.eqvAll,eqv_refl d h'.1,eqvAll_refl ds h'.2];rfl
end
def sg (b:Bool):Nat:=if b then 49 else 48
def bs (w:List Bool):Str:=⟨(w.map sg).toArray⟩
theorem bs_len (w:List Bool):(bs w).length=w.length:=by show ((w.map sg).toArray).size=_;simp
theorem bs_app (v w:List Bool):bs v++bs w=bs (v++w):=by
 show (⟨(v.map sg).toArray++(w.map sg).toArray⟩ : Str)=⟨((v++w).map sg).toArray⟩
 simp
theorem bs_nil:("" : Str)=bs []:=by decide +kernel
theorem bs_get {w:List Bool} {i:Nat} {b:Bool} (h:w[i]? = some b):(bs w).cps[i]? = some (sg b):=by
 show ((w.map sg).toArray)[i]? = _
 simp [h]
theorem bs_if (b:Bool):bs [b]=(if b then ("1" : Str) else "0"):=by cases b<;>decide +kernel
end L2
end
section
namespace L2
open PySem PySem.Spec PyProof.Rows
section
variable {X:Cx} {a b c e o:Expr} {es:List Expr} {pos:Pos}
theorem PE.of {t t':TE} (h:PE X e t) (k:∀ σ H Q,t' σ H Q->t σ H Q):PE X e t':=fun pins s σ H Q I q=>h pins s σ H Q I (k _ _ _ q)
theorem OpR.of {f:Value->Value->Sem Value} {r r':R2} (h:OpR X f r) (k:∀ x y H Q,r' x y H Q->r x y H Q):OpR X f r':=fun pins s σ H x y v u Q I rx ry q=>h pins s σ H x y v u Q I rx ry (k _ _ _ _ q)
def tV (i:Nat):TE:=fun σ H Q=>match σ[i]? with
 | some (some v)=>Q v H
 | _=>False
theorem vr (i:Nat) {x:Str} (hN:X.N[i]? = some x:=by rfl) (hv:Vis X.env.scope x:=by first | exact Or.inl rfl | exact Or.inr (Or.inl rfl) | exact Or.inr (Or.inr rfl)) (hd:(x == ("__debug__" : Str))=false:=by decide)
  (hcd:(x == ("__classdict__" : Str))=false:=by decide):PE X (.Name x pos) (tV i):=(pe_var hN hv hd hcd).of fun σ H Q q=>by
 unfold tV at q
 split at q
 ·exact ⟨_,by assumption,q⟩
 ·exact q.elim
def rN (C:Int->Int->Prop) (g:Int->Int->V):R2:=fun x y H Q=>match x,y with
 | .int i,.int j=>C i j/\Q (g i j) H
 | _,_=>False
def rN0 (g:Int->Int->V):R2:=fun x y H Q=>match x,y with
 | .int i,.int j=>Q (g i j) H
 | _,_=>False
theorem OpR.n {f:Value->Value->Sem Value} {C:Int->Int->Prop} {g:Int->Int->V} (h:OpR X f (rI C g)):OpR X f (rN C g):=h.of fun x y H Q q=>by
 unfold rN at q
 split at q
 ·exact ⟨_,_,rfl,rfl,q⟩
 ·exact q.elim
theorem OpR.n0 {f:Value->Value->Sem Value} {g:Int->Int->V} (h:OpR X f (rI0 g)):OpR X f (rN0 g):=h.of fun x y H Q q=>by
 unfold rN0 at q
 split at q
 ·exact ⟨_,_,rfl,rfl,q⟩
 ·exact q.elim
def rAddU:R2:=fun x y H Q=>match x,y with
 | .int i,.int j=>Q (.int (i+j)) H
 | .str i,.str j=>i.length+j.length<=sizeLine/\Q (.str (i++j)) H
 | .ref p,.ref q=>∃ xs zs,H p=some (.lst xs)/\H q=some (.lst zs)/\xs.length+zs.length<=sizeLine/\∀ n,H n=none->Q (.ref n) (upd H n (.lst (xs++zs)))
 | _,_=>False
theorem op_addU:OpR X (binaryOp .Add) rAddU:=(op_add.or (op_add_str.or op_cat)).of fun x y H Q q=>by
 unfold rAddU at q
 split at q
 ·exact .inl ⟨_,_,rfl,rfl,q⟩
 ·exact .inr (.inl ⟨_,_,rfl,rfl,q⟩)
 ·obtain ⟨xs,zs,h1,h2,h3,h4⟩:=q
  exact .inr (.inr ⟨_,_,xs,zs,rfl,rfl,h1,h2,h3,h4⟩)
 ·exact q.elim
def rMulU:R2:=fun x y H Q=>match x,y with
 | .int i,.int j=>CMul i j/\Q (.int (i * j)) H
 | .ref p,.int k=>∃ xs,H p=some (.lst xs)/\-(2 ^ 63)<=k/\k < 2 ^ 63/\xs.length * k.toNat<=sizeLine/\∀ n,H n=none->Q (.ref n) (upd H n (.lst (List.replicate k.toNat xs).flatten))
 | _,_=>False
theorem op_mulU:OpR X (binaryOp .Mult) rMulU:=(op_mul.or op_rep).of fun x y H Q q=>by
 unfold rMulU at q
 split at q
 ·exact .inl ⟨_,_,rfl,rfl,q⟩
 ·obtain ⟨xs,h1,h2,h3,h4,h5⟩:=q
  exact .inr ⟨_,_,xs,rfl,rfl,h1,h2,h3,h4,h5⟩
 ·exact q.elim
def rEqU:R2:=fun x y H Q=>match x,y with
 | .int i,.int j=>Q (.bl (decide (i=j))) H
 | .str i,.str j=>Q (.bl (decide (i=j))) H
 | .bl i,.bl j=>Q (.bl (decide (i=j))) H
 | .ref p,.ref q=>∃ d e,DV H (.ref p) d/\DV H (.ref q) e/\SeqAt.shaped d=true/\SeqAt.shaped e=true/\Q (.bl (PyData.eqv d e)) H
 | _,_=>False
theorem vint_dec (i j:Int):decide (V.int i=V.int j)=decide (i=j):=by simp
theorem vstr_dec (i j:Str):decide (V.str i=V.str j)=decide (i=j):=by simp
theorem vbl_dec (i j:Bool):decide (V.bl i=V.bl j)=decide (i=j):=by simp
theorem op_eqU (hu:X.A.units+64 < cLine):OpR X (compareOp .Eq) rEqU:=(op_eq.or (op_eqD hu)).of fun x y H Q q=>by
 unfold rEqU at q
 split at q
 ·exact .inl ⟨rfl,by rw [vint_dec];exact q⟩
 ·exact .inl ⟨rfl,by rw [vstr_dec];exact q⟩
 ·exact .inl ⟨rfl,by rw [vbl_dec];exact q⟩
 ·exact .inr q
 ·exact q.elim
def rNeU:R2:=fun x y H Q=>rEqU x y H fun v H'=>match v with
 | .bl k=>Q (.bl (!k)) H'
 | _=>False
theorem op_neU (hu:X.A.units+64 < cLine):OpR X (compareOp .NotEq) rNeU:=(op_ne.or (op_neD hu)).of fun x y H Q q=>by
 unfold rNeU rEqU at q
 split at q
 ·exact .inl ⟨rfl,by rw [vint_dec];exact q⟩
 ·exact .inl ⟨rfl,by rw [vstr_dec];exact q⟩
 ·exact .inl ⟨rfl,by rw [vbl_dec];exact q⟩
 ·exact .inr q
 ·exact q.elim
def getV (H:Hp) (x:V) (i:Int):Option V:=match x with
 | .ref p=>match H p with
  | some (.lst xs)=>atI xs i
  | some (.tup xs)=>atI xs i
  | some (.frz _ (.lst xs))=>atI xs i
  | _=>none
 | .str z=>if z.length<=sizeLine then (atI z.cps.toList i).map fun c=>V.str ⟨#[c]⟩ else none
 | _=>none
theorem getV_lst {H:Hp} {p:Addr} {xs:List V} {i:Int} (h:H p=some (.lst xs)):getV H (.ref p) i=atI xs i:=by simp [getV,h]
theorem getV_tup {H:Hp} {p:Addr} {xs:List V} {i:Int} (h:H p=some (.tup xs)):getV H (.ref p) i=atI xs i:=by simp [getV,h]
def rIxU:R2:=fun x y H Q=>match y with
 | .int i=>∃ v,getV H x i=some v/\Q v H
 | _=>False
theorem ixU:IxR X rIxU:=by
 intro value slice pins s σ H x y v u Q I rx ry q hs
 refine ix_seq value slice pins s σ H x y v u Q I rx ry ?_ hs
 unfold rIxU at q
 split at q
 ·obtain ⟨z,hz,q⟩:=q
  unfold getV at hz
  split at hz
  ·split at hz
   ·rename_i xs hx
    exact .inl ⟨_,xs,_,z,rfl,rfl,SqL.of hx,hz,q⟩
   ·rename_i xs hx
    exact .inr (.inl ⟨_,xs,_,z,rfl,rfl,SqT.of hx,hz,q⟩)
   ·rename_i oo xs hx
    exact .inl ⟨_,xs,_,z,rfl,rfl,.inl (.inr ⟨_,hx⟩),hz,q⟩
   ·cases hz
  ·split at hz
   ·rename_i hl
    obtain ⟨c,hc,rfl⟩:=Option.map_eq_some_iff.mp hz
    exact .inr (.inr ⟨_,_,c,rfl,rfl,hl,hc,q⟩)
   ·cases hz
  ·cases hz
 ·exact q.elim
def rSlU:V->Option Int->Option Int->Hp->VK->Prop:=fun x lo hi H Q=>match x with
 | .ref p=>∃ xs,H p=some (.lst xs)/\∀ n,H n=none->Q (.ref n) (upd H n (.lst (cutV xs lo hi)))
 | .str z=>z.length<=sizeLine/\Q (.str (Txt.slice z lo hi)) H
 | _=>False
theorem slU:SlR X rSlU:=by
 intro pins s σ H x v vl vu lo hi sl Q I rx hs pl pu q
 refine (sl_list.or sl_str) pins s σ H x v vl vu lo hi sl Q I rx hs pl pu ?_
 unfold rSlU at q
 split at q
 ·obtain ⟨xs,h,q⟩:=q
  exact .inl ⟨_,xs,rfl,SqL.of h,q⟩
 ·exact .inr ⟨_,rfl,q⟩
 ·exact q.elim
def tPartU (t:TE):TO:=fun σ H Q=>t σ H fun x H1=>match x with
 | .int i=>Q (some i) H1
 | _=>False
theorem po_someU {te:TE} (h:PE X e te):PO X (some e) (tPartU te):=by
 intro pins s σ H Q I hw
 rw [evalPart_some]
 refine thn (h pins s σ H _ I hw) fun u s1 ⟨x,H1,I1,r1,q1⟩=>?_
 dsimp only at q1
 split at q1
 ·obtain ⟨t,rfl⟩:=r1
  exact ⟨some _,H1,I1,.int _ t,q1⟩
 ·exact q1.elim
def tBU (t:TE):TT:=fun σ H Q=>t σ H fun x H1=>match x with
 | .bl c=>Q c H1
 | _=>False
theorem bu_of {Q:Bool->Hp->Prop} {x:V} {H1:Hp} (q:match x with | .bl c=>Q c H1 | _=>False):∃ c,x = .bl c/\Q c H1:=by
 split at q
 ·exact ⟨_,rfl,q⟩
 ·exact q.elim
theorem pt_cmpU {op:CmpOp} {r:R2} {ta tb:TE} (ho:OpR X (compareOp op) r) (ha:PE X a ta) (hb:PE X b tb) (hm:behindInMarks op b=false:=by first | exact nomark _ | rfl | (with_unfolding_all rfl)):PT X (.Compare a [op] [b] pos) (tBU (tOp r ta tb)):=by
 intro pins s σ H Q I h
 refine wpAny_isTrue_Compare1 (thn (ha pins s σ H _ I h) fun v s1 ⟨x,H1,I1,r1,q1⟩=>thn (hb pins s1 σ H1 _ I1 q1) fun u s2 ⟨y,H2,I2,r2,q2⟩=>
  thn (ho pins s2 σ H2 x y v u _ I2 r1 r2 q2) fun c s3 ⟨z,H3,I3,r3,q3⟩=>?_) hm
 obtain ⟨k,e,q3⟩:=bu_of q3
 subst e
 cases r3
 exact wpAny_truthy_bool ⟨H3,I3,q3⟩
theorem pe_cmpU {op:CmpOp} {r:R2} {ta tb:TE} (ho:OpR X (compareOp op) r) (ha:PE X a ta) (hb:PE X b tb) (hm:behindInMarks op b=false:=by first | exact nomark _ | rfl | (with_unfolding_all rfl)):PE X (.Compare a [op] [b] pos) (tOp r ta tb):=pe_cmpR ho ha hb hm
def tAndU (ta tb:TE):TE:=fun σ H Q=>ta σ H fun x H1=>match x with
 | .bl c=>if c=true then tb σ H1 Q else Q (.bl false) H1
 | _=>False
def tOrU (ta tb:TE):TE:=fun σ H Q=>ta σ H fun x H1=>match x with
 | .bl c=>if c=true then Q (.bl true) H1 else tb σ H1 Q
 | _=>False
def tNotU (ta:TE):TE:=fun σ H Q=>ta σ H fun x H1=>match x with
 | .bl c=>Q (.bl (!c)) H1
 | _=>False
def tChainU (r r':R2) (ta tb tc:TE):TE:=fun σ H Q=>ta σ H fun x H1=>tb σ H1 fun y H2=>r x y H2 fun z H3=>match z with
 | .bl k=>if k=true then tc σ H3 fun w' H4=>r' y w' H4 Q else Q (.bl false) H3
 | _=>False
variable {ta tb tc:TE} {rest:List Expr}
theorem pe_andU (ha:PE X a ta) (hb:PE X (.BoolOp .And (b :: rest) pos) tb):PE X (.BoolOp .And (a :: b :: rest) pos) (tAndU ta tb):=by
 intro pins s σ H Q I h
 refine BoolOp_and (thn (ha pins s σ H _ I h) fun v s1 ⟨x,H1,I1,r1,q1⟩=>?_)
 dsimp only at q1
 split at q1
 ·rename_i c
  cases r1
  refine wpAny_truthy_bool ?_
  cases c with
  | true=>exact hb pins s1 σ H1 Q I1 q1
  | false=>exact ⟨.bl false,H1,I1,rfl,q1⟩
 ·exact q1.elim
theorem pe_orU (ha:PE X a ta) (hb:PE X (.BoolOp .Or (b :: rest) pos) tb):PE X (.BoolOp .Or (a :: b :: rest) pos) (tOrU ta tb):=by
 intro pins s σ H Q I h
 refine BoolOp_or (thn (ha pins s σ H _ I h) fun v s1 ⟨x,H1,I1,r1,q1⟩=>?_)
 dsimp only at q1
 split at q1
 ·rename_i c
  cases r1
  refine wpAny_truthy_bool ?_
  cases c with
  | false=>exact hb pins s1 σ H1 Q I1 q1
  | true=>exact ⟨.bl true,H1,I1,rfl,q1⟩
 ·exact q1.elim
theorem pe_notU (ha:PE X a ta):PE X (.UnaryOp .Not a pos) (tNotU ta):=by
 intro pins s σ H Q I h
 refine UnaryOp_ (thn (ha pins s σ H _ I h) fun v s1 ⟨x,H1,I1,r1,q1⟩=>?_)
 dsimp only at q1
 split at q1
 ·cases r1
  exact not_of (wpAny_truthy_bool ⟨.bl _,H1,I1,rfl,q1⟩)
 ·exact q1.elim
theorem pe_chainU {op op':CmpOp} {r r':R2} (ho:OpR X (compareOp op) r) (ho':OpR X (compareOp op') r') (ha:PE X a ta) (hb:PE X b tb) (hc:PE X c tc)
  (hm:lastMarks [op,op'] [b,c]=false:=by with_unfolding_all rfl):PE X (.Compare a [op,op'] [b,c] pos) (tChainU r r' ta tb tc):=by
 intro pins s σ H Q I h
 refine Compare_chain (thn (ha pins s σ H _ I h) fun v s1 ⟨x,H1,I1,r1,q1⟩=>chain_link (thn (hb pins s1 σ H1 _ I1 q1) fun u s2 ⟨y,H2,I2,r2,q2⟩=>
  thn (ho pins s2 σ H2 x y v u _ I2 r1 r2 q2) fun d s3 ⟨z,H3,I3,r3,q3⟩=>?_)) hm
 dsimp only at q3
 split at q3
 ·rename_i k
  cases r3
  refine wpAny_truthy_bool ?_
  cases k with
  | false=>exact ite_ff ⟨.bl false,H3,I3,rfl,q3⟩
  | true=>exact ite_tt (chain_last (thn (hc pins s3 σ H3 _ I3 q3) fun w' s4 ⟨z',H4,I4,r4,q4⟩=>ho' pins s4 σ H4 y z' u w' Q I4 r2 r4 q4))
 ·exact q3.elim
theorem CallR.of {f:Value} {r r':List V->Hp->VK->Prop} (h:CallR X f r) (k:∀ xs H Q,r' xs H Q->r xs H Q):CallR X f r':=fun pins s σ H xs us Q I rx q=>h pins s σ H xs us Q I rx (k _ _ _ q)
theorem MtM.of {id:String} {r r':V->List V->Hp->VK->Prop} (h:MtM X id r) (k:∀ x xs H Q,r' x xs H Q->r x xs H Q):MtM X id r':=fun pins s σ H x xs v us Q I rx rs q=>h pins s σ H x xs v us Q I rx rs (k _ _ _ _ q)
def lenV (H:Hp) (x:V):Option Nat:=match x with
 | .str z=>if z.length<=sizeLine then some z.length else none
 | .ref p=>match H p with
  | some (.lst xs)=>some xs.length
  | some (.tup xs)=>some xs.length
  | some (.frz _ (.lst xs))=>some xs.length
  | _=>none
 | _=>none
def rLen:List V->Hp->VK->Prop:=fun vs H Q=>match vs with
 | [x]=>∃ k:Nat,lenV H x=some k/\Q (.int k) H
 | _=>False
theorem call_lenU:CallR X (.builtin "len") rLen:=(call_len_seq.or call_len_str).of fun xs H Q q=>by
 unfold rLen at q
 split at q
 ·obtain ⟨k,hk,q⟩:=q
  unfold lenV at hk
  split at hk
  ·split at hk
   ·rename_i hl
    cases hk
    exact .inr ⟨_,rfl,hl,q⟩
   ·cases hk
  ·split at hk
   ·cases hk;exact .inl ⟨_,_,rfl,.inl (SqL.of (by assumption)),q⟩
   ·cases hk;exact .inl ⟨_,_,rfl,.inr (SqT.of (by assumption)),q⟩
   ·cases hk;exact .inl ⟨_,_,rfl,.inl (.inl (.inr ⟨_,by assumption⟩)),q⟩
   ·cases hk
  ·cases hk
 ·exact q.elim
def rListOf:List V->Hp->VK->Prop:=fun vs H Q=>match vs with
 | [.ref p]=>∃ xs,(H p=some (.lst xs)\/H p=some (.tup xs))/\∀ l,H l=none->Q (.ref l) (upd H l (.lst xs))
 | _=>False
def rMax:List V->Hp->VK->Prop:=fun vs H Q=>match vs with
 | [.int i,.int j]=>Q (.int (if j > i then j else i)) H
 | _=>False
theorem call_maxU (hc:X.calm=true):CallR X (.builtin "max") rMax:=(call_max2 hc).of fun xs H Q q=>by
 unfold rMax at q
 split at q
 ·exact ⟨_,_,rfl,q⟩
 ·exact q.elim
def rMin:List V->Hp->VK->Prop:=fun vs H Q=>match vs with
 | [.int i,.int j]=>Q (.int (if j < i then j else i)) H
 | _=>False
theorem call_minU (hc:X.calm=true):CallR X (.builtin "min") rMin:=(call_min2 hc).of fun xs H Q q=>by
 unfold rMin at q
 split at q
 ·exact ⟨_,_,rfl,q⟩
 ·exact q.elim
def rIntOf:List V->Hp->VK->Prop:=fun vs H Q=>match vs with
 | [.int i]=>Q (.int i) H
 | [.bl k]=>Q (.int (if k then 1 else 0)) H
 | [.str z]=>∃ k:Bool,z=bs [k]/\Q (.int (if k then 1 else 0)) H
 | _=>False
theorem call_intU:CallR X (.type "int") rIntOf:=(call_int1.or call_int_bit).of fun xs H Q q=>by
 unfold rIntOf at q
 split at q
 ·exact .inl (.inl ⟨_,rfl,q⟩)
 ·exact .inl (.inr ⟨_,rfl,q⟩)
 ·obtain ⟨k,h,q⟩:=q
  exact .inr ⟨k,by rw [h,bs_if],q⟩
 ·exact q.elim
def rIsI:List V->Hp->VK->Prop:=fun vs H Q=>match vs with
 | [x,.ty T]=>∃ Tx,tyN H x=some Tx/\T∈["int","bool","list","tuple","str"]/\Q (.bl (Tx == T || (Tx == "bool" && T == "int"))) H
 | _=>False
theorem call_isU:CallR X (.builtin "isinstance") rIsI:=call_isinst.of fun xs H Q q=>by
 unfold rIsI at q
 split at q
 ·obtain ⟨Tx,h1,h2,q⟩:=q
  exact ⟨_,_,Tx,rfl,h1,h2,q⟩
 ·exact q.elim
def rAll:List V->Hp->VK->Prop:=fun vs H Q=>match vs with
 | [.ref p]=>∃ bl:List Bool,H p=some (.lst (bl.map V.bl))/\Q (.bl (bl.all id)) H
 | _=>False
theorem call_allU (hc:X.calm=true):CallR X (.builtin "all") rAll:=(call_all hc).of fun xs H Q q=>by
 unfold rAll at q
 split at q
 ·obtain ⟨bl,h,q⟩:=q
  exact ⟨_,bl,rfl,h,q⟩
 ·exact q.elim
def rApp:V->List V->Hp->VK->Prop:=fun x vs H Q=>match x,vs with
 | .ref l,[y]=>∃ xs,H l=some (.lst xs)/\xs.length < sizeLine/\Q .non (upd H l (.lst (xs++[y])))
 | _,_=>False
theorem mt_appU:MtM X "list.append" rApp:=mt_append.of fun x xs H Q q=>by
 unfold rApp at q
 split at q
 ·obtain ⟨ys,h1,h2,q⟩:=q
  exact ⟨_,ys,_,rfl,rfl,h1,h2,q⟩
 ·exact q.elim
def rJoin:V->List V->Hp->VK->Prop:=fun x vs H Q=>match x,vs with
 | .str sep,[.ref p]=>∃ ws:List Str,H p=some (.lst (ws.map V.str))/\(ws.map (·.length)).sum+ws.length * sep.length<=16777216/\Q (.str (Txt.join sep ws)) H
 | _,_=>False
theorem mt_joinU:MtM X "str.join" rJoin:=mt_join.of fun x xs H Q q=>by
 unfold rJoin at q
 split at q
 ·obtain ⟨ws,h1,h2,q⟩:=q
  exact ⟨_,_,ws,rfl,rfl,h1,h2,q⟩
 ·exact q.elim
def rStrip:V->List V->Hp->VK->Prop:=fun x vs H Q=>match x,vs with
 | .str z,[.str y]=>z.length<=sizeLine/\Q (.str (Txt.stripChars z y)) H
 | _,_=>False
theorem mt_stripU:MtM X "str.strip" rStrip:=mt_strip.of fun x xs H Q q=>by
 unfold rStrip at q
 split at q
 ·exact ⟨_,_,rfl,rfl,q⟩
 ·exact q.elim
def rBits:V->List V->Hp->VK->Prop:=fun x vs H Q=>match x,vs with
 | .int i,[]=>Q (.int (Builtin.Int.intBits i)) H
 | _,_=>False
theorem mt_bitsU:MtM X "int.bit_length" rBits:=mt_bitlen.of fun x xs H Q q=>by
 unfold rBits at q
 split at q
 ·exact ⟨_,rfl,rfl,q⟩
 ·exact q.elim
def tyU (H:Hp) (T:String):V->Prop
 | .str _=>T = "str"
 | .int _=>T = "int"
 | .ref p=>∃ xs,T = "list"/\H p=some (.lst xs)
 | _=>False
theorem tyU_of {K:PySem.W.Frag} {H:Hp} {T:String} {x:V} (h:tyU H T x):tyV K T x H:=by
 cases x with
 | str z=>exact h
 | int z=>exact h
 | ref p=>obtain ⟨xs,h1,h2⟩:=h;exact .inl ⟨h1,xs,SqL.of h2⟩
 | _=>exact h.elim
end
theorem le_line {n:Nat} (h:n<=1000):n<=sizeLine:=Nat.le_trans h (by decide)
theorem lt_line {n:Nat} (h:n<=1000):n < sizeLine:=Nat.lt_of_le_of_lt h (by decide)
theorem Same.upd {H:Hp} {p:Addr} {o:HO} (h:H p=none):Same H (upd H p o):=fun b u e=>by rw [upd_ne (ne_of_none e h)];exact e
theorem atI_int {α:Type} {xs:List α} {i:Int} {v:α} (h0:0<=i) (h:xs[i.toNat]? = some v):atI xs i=some v:=by
 have e:i=(i.toNat:Int):=by omega
 rw [e]
 exact atI_nat h
theorem gl {H:Hp} {p:Addr} {xs:List V} {i:Int} {v:V} (h:H p=some (.lst xs)) (h0:0<=i) (hv:xs[i.toNat]? = some v):getV H (.ref p) i=some v:=by rw [getV_lst h];exact atI_int h0 hv
theorem gt {H:Hp} {p:Addr} {xs:List V} {i:Int} {v:V} (h:H p=some (.tup xs)) (h0:0<=i) (hv:xs[i.toNat]? = some v):getV H (.ref p) i=some v:=by rw [getV_tup h];exact atI_int h0 hv
theorem lenL {H:Hp} {p:Addr} {xs:List V} (h:H p=some (.lst xs)):lenV H (.ref p)=some xs.length:=by simp [lenV,h]
theorem lenT {H:Hp} {p:Addr} {xs:List V} (h:H p=some (.tup xs)):lenV H (.ref p)=some xs.length:=by simp [lenV,h]
end L2
end
section
namespace L2
open PySem
theorem small_some {a b c:Int} (ha : -(2 ^ 30)<=a) (ha':a < 2 ^ 30) (hb : -(2 ^ 30)<=b) (hb':b < 2 ^ 30) (hc:c≠0) (hc1 : -(2 ^ 30) < c) (hc2:c < 2 ^ 30):Builtin.Range.small a b c=true:=by
 have h2:(0:Int)<=Builtin.Range.rangeSize a b c/\Builtin.Range.rangeSize a b c<=2 ^ 32:=by
  unfold Builtin.Range.rangeSize
  split
  ·split
   ·have h1:0<=(b - a - 1) / c:=Int.ediv_nonneg (by omega) (by omega)
    have h3:(b - a - 1) / c<=b - a - 1:=Int.ediv_le_self _ (by omega)
    omega
   ·omega
  ·split
   ·have h1:0<=(a - b - 1) / (-c):=Int.ediv_nonneg (by omega) (by omega)
    have h3:(a - b - 1) / (-c)<=a - b - 1:=Int.ediv_le_self _ (by omega)
    omega
   ·omega
 unfold Builtin.Range.small
 simp only [Builtin.Range.rangeFitsLong,Bool.and_eq_true,Bool.or_eq_true,decide_eq_true_eq,beq_iff_eq]
 refine ⟨by omega,.inr ?_⟩
 split<;>(simp only [Bool.and_eq_true,decide_eq_true_eq];omega)
end L2
end
section
namespace L2
open PySem PySem.Spec PyProof.Rows
def FnX (K:PySem.W.Frag) (mg:Str->Option Value) (x:Str) (st:Stmt) (ps:List Str):Prop:=∃ f fd,Fun K x x st f fd/\mg x=some (.ref f)/\Binds K fd ps []
def Can (P:Program) (w:World) (K:PySem.W.Frag) (mg:Str->Option Value) (base:Heap) (x:Str) (k:Nat) (ps:List Str) (sp:Sp):Prop:=
 ∃ f fd,FnOk P w K mg base CX0 k f fd ps sp/\mg x=some (.ref f)/\PySem.W.keepIn K (.ref f)=true/\Binds K fd ps []
section
variable {P:Program} {w:World} {K:PySem.W.Frag} {mg:Str->Option Value} {base:Heap}
theorem can_fn {x:Str} {st:Stmt} {N ps:List Str} {k:Nat} {sp:Sp} (D:FnX K mg x st ps) (S:FnScope N ps (defScope st)) (len:∀ vs H Q E,sp vs H Q E->vs.length=ps.length)
  (hbody:∀ (f:Addr) (cdv:Value) (A:Around) (outer:List Env) (s:Shared) (H:Hp) (vs:List V) (Q:VK) (E:XK),Room k (A.deeper (envOfC x (defScope st) s.heap.objs.size f cdv))->sp vs H Q E →
   ∃ t,PSs (cxOf CX0 P w K mg base N x (defScope st) f cdv A outer s H E).nox (defBody st) t/\t { nx:=fun _ H'=>Q .non H',rt:=Q } (start N vs) H):Can P w K mg base x (k+1) ps sp:=by
 obtain ⟨f,fd,F,hm,hb⟩:=D
 exact ⟨f,fd,F.ok S len fun cdv A outer s H vs Q E hr h=>hbody f cdv A outer s H vs Q E hr h,hm,F.kp,hb⟩
end
section
variable {X:Cx} {x:Str} {p pos apos:Pos} {e o:Expr} {es:List Expr} {t:TA} {te to ti:TE} {k:Nat} {ps:List Str} {sp:Sp}
def tCan (sp:Sp) (t:TA):TE:=fun σ H Q=>t σ H fun vs H1=>sp vs H1 Q E0
theorem PA.of {t t':TA} (h:PA X es t) (k:∀ σ H Q,t' σ H Q->t σ H Q):PA X es t':=fun pos pins s σ H Q I q=>h pos pins s σ H Q I (k _ _ _ q)
theorem pe_can (C:Can X.prog X.w X.K X.mg X.base x k ps sp) (hr:Room k X.A) (ha:PA X (e :: es) t) (hg:Gl X x:=by rfl)
  (hdb:(x == ("__debug__" : Str))=false:=by decide) (he:starEach (e :: es) X.env=(false,eval e X.env) :: starEach es X.env:=by rfl) (hpl:(backTo pos (starEach es X.env)).any (·.1)=false:=by rfl) :
  PE X (.Call (.Name x p) (e :: es) [] pos) (tCan sp t):=by
 obtain ⟨f,fd,F,hm,hk,hb⟩:=C
 have h:=pe_call (pos:=pos) (p:=p) F hr hg hm hk hb .nil pass0 ha hdb he hpl
 intro pins s σ H Q I q
 refine thn (h pins s σ H Q I ?_) fun _ _ z=>z
 have ee:tCall sp [] E0 t=tCan sp t:=by funext σ H Q;unfold tCall tCan;simp only [List.append_nil]
 rw [ee]
 exact q
theorem pe_len (hm:X.mg "len" = none) (ha:PA X (e :: es) t) (hg:Gl X "len" := by rfl) (he:starEach (e :: es) X.env=(false,eval e X.env) :: starEach es X.env:=by rfl) (hpl:(backTo pos (starEach es X.env)).any (·.1)=false:=by rfl) :
  PE X (.Call (.Name "len" p) (e :: es) [] pos) (tCB rLen t):=pe_callB call_lenU hg hm PySem.boot_len ha (he:=he) (hpl:=hpl)
theorem pe_isinst (hm:X.mg "isinstance" = none) (ha:PA X (e :: es) t) (hg:Gl X "isinstance" := by rfl) (he:starEach (e :: es) X.env=(false,eval e X.env) :: starEach es X.env:=by rfl) (hpl:(backTo pos (starEach es X.env)).any (·.1)=false:=by rfl) :
  PE X (.Call (.Name "isinstance" p) (e :: es) [] pos) (tCB rIsI t):=pe_callB call_isU hg hm PyProof.Rows.boot_isinstance ha (he:=he) (hpl:=hpl)
theorem pe_all (hc:X.calm=true) (hm:X.mg "all" = none) (ha:PA X (e :: es) t) (hg:Gl X "all" := by rfl) (he:starEach (e :: es) X.env=(false,eval e X.env) :: starEach es X.env:=by rfl) (hpl:(backTo pos (starEach es X.env)).any (·.1)=false:=by rfl) :
  PE X (.Call (.Name "all" p) (e :: es) [] pos) (tCB rAll t):=pe_callB (call_allU hc) hg hm PyProof.Rows.boot_all ha (he:=he) (hpl:=hpl)
theorem pe_max (hc:X.calm=true) (hm:X.mg "max" = none) (ha:PA X (e :: es) t) (hg:Gl X "max" := by rfl) (he:starEach (e :: es) X.env=(false,eval e X.env) :: starEach es X.env:=by rfl) (hpl:(backTo pos (starEach es X.env)).any (·.1)=false:=by rfl) :
  PE X (.Call (.Name "max" p) (e :: es) [] pos) (tCB rMax t):=pe_callB (call_maxU hc) hg hm PyProof.Rows.boot_max ha (he:=he) (hpl:=hpl)
theorem pe_min (hc:X.calm=true) (hm:X.mg "min" = none) (ha:PA X (e :: es) t) (hg:Gl X "min" := by rfl) (he:starEach (e :: es) X.env=(false,eval e X.env) :: starEach es X.env:=by rfl) (hpl:(backTo pos (starEach es X.env)).any (·.1)=false:=by rfl) :
  PE X (.Call (.Name "min" p) (e :: es) [] pos) (tCB rMin t):=pe_callB (call_minU hc) hg hm PyProof.Rows.boot_min ha (he:=he) (hpl:=hpl)
theorem pe_ty {T:String} (hb:bootBuiltins x=some (.type T)) (hm:X.mg x=none) (hg:Gl X x:=by rfl) (hn:x≠"__name__" := by decide) (hd:(x == ("__debug__" : Str))=false:=by decide):PE X (.Name x pos) (tC (.ty T)):=pe_bltn hg hm hb rfl hn hd
def tMt (T:String) (r:V->List V->Hp->VK->Prop) (to:TE) (t:TA):TE:=fun σ H Q=>to σ H fun x H1=>tyU H1 T x/\t σ H1 fun xs H2=>r x xs H2 Q
theorem pe_mt {T id:String} {name:Str} {cpos:Pos} {r:V->List V->Hp->VK->Prop} (pa:PlainAttrs T) (slot:Slot T name id) (hty:typeOf (.builtin id)=pure (.type "method_descriptor")) (hm:MtM X id r) (ho:PE X o to) (ha:PA X (e :: es) t)
  (hbase:attributeBase o name X.env (eval o X.env)=eval o X.env:=by rfl)
  (hfew:((backTo cpos (starEach (e :: es) X.env)).all (fun x=>!x.1) && (backToKw cpos (keywordEach [] X.env)).all (fun x=>x.1.isSome)
   && decide ((e :: es).length+([]:List Keyword).length+(if ([]:List Keyword).isEmpty then 0 else 1) < 30))=true:=by rfl)
  (hline:(apos.endLine == cpos.line)=true:=by rfl) (hs:starEach (e :: es) X.env=(false,eval e X.env) :: starEach es X.env:=by rfl) (hplain:(backTo cpos (starEach es X.env)).any (·.1)=false:=by rfl) :
  PE X (.Call (.Attribute o name apos) (e :: es) [] cpos) (tMt T r to t):=by
 intro pins s σ H Q I h
 refine wpAny_Call_method_late hbase hfew hline rfl (thn (ho pins s σ H _ I h) fun v s1 ⟨x,H1,I1,r1,ty,q1⟩=>?_)
 obtain ⟨h1,h2⟩:=tyV_is I1 r1 (tyU_of ty)
 refine ⟨T,id,pa,slot,hty,h1,h2,?_⟩
 have hA:=ha cpos pins s1 σ H1 _ I1 q1
 rw [hs] at hA ⊢
 refine Calls.callWith_builtin (by show (false || (backTo cpos (starEach es X.env)).any (·.1))=false;rw [hplain]<;>rfl) (Calls.evalArgs_plain ?_)
 exact thn hA fun us s2 ⟨vs,H2,I2,r2,q2⟩=>hm pins s2 σ H2 x vs v us Q I2 r1 r2 q2
theorem pe_mt0 {T id:String} {name:Str} {cpos:Pos} {r:V->List V->Hp->VK->Prop} (pa:PlainAttrs T) (slot:Slot T name id) (hty:typeOf (.builtin id)=pure (.type "method_descriptor")) (hm:MtM X id r) (ho:PE X o to)
  (hbase:attributeBase o name X.env (eval o X.env)=eval o X.env:=by rfl) (hline:(apos.endLine == cpos.line)=true:=by rfl):PE X (.Call (.Attribute o name apos) [] [] cpos) (tMt T r to tNil):=by
 intro pins s σ H Q I h
 refine wpAny_Call_method0_late hbase hline (thn (ho pins s σ H _ I h) fun v s1 ⟨x,H1,I1,r1,ty,q1⟩=>?_)
 obtain ⟨h1,h2⟩:=tyV_is I1 r1 (tyU_of ty)
 exact ⟨T,id,pa,slot,hty,h1,h2,Calls.callWith_builtin rfl (PySem.evalArgs_none (hm pins s1 σ H1 x [] v [] Q I1 r1 .nil q1))⟩
def rSetU:V->V->V->Hp->(Hp->Prop)->Prop:=fun o i v H Q=>match o,i with
 | .ref p,.int k=>∃ xs j,H p=some (.lst xs)/\ixN xs.length k=some j/\Q (upd H p (.lst (xs.set j v)))
 | _,_=>False
theorem setU:PSet X rSetU:=by
 intro pins s σ H o i v ov iv u Q I ro ri rv q
 refine set_list pins s σ H o i v ov iv u Q I ro ri rv ?_
 unfold rSetU at q
 split at q
 ·obtain ⟨xs,j,h1,h2,q⟩:=q
  exact ⟨_,xs,_,j,rfl,rfl,h1,h2,q⟩
 ·exact q.elim
def gTupU (K:PySem.W.Frag) (n:Nat) (t:TGs):TG:=fun v σ H Q=>match v with
 | .ref a=>∃ xs,H a=some (.tup xs)/\xs.length=n/\t xs σ H Q
 | _=>False
variable {tg:Expr}
def iLst (K:PySem.W.Frag) (tl:TE):TI:=fun σ H R=>tl σ H fun x H1=>match x with
 | .ref a=>(∃ xs,SqL K H1 a xs)/\R (Itl K a) H1
 | _=>False
theorem pi_lst {l:Expr} {tl:TE} (hl:PE X l tl):PI X tg l (iLst X.K tl):=by
 intro pins s σ H R I h
 refine thn (hl pins s σ H _ I h) fun v s1 ⟨x,H1,I1,r1,q1⟩=>?_
 dsimp only at q1
 split at q1
 ·rename_i a
  obtain ⟨⟨xs,hq⟩,q⟩:=q1
  cases r1
  obtain ⟨its,rv,p,hz⟩:=I1.list hq
  refine wpAny_pyIter_list p.isList ?_
  refine ⟨s1.heap.objs.size,[s1.heap.objs.size],_,_,H1,rfl,I1.kept (t':=s1.toks) fun b o e=>Heap.get?_push_of_some _ e,turn_list a _,⟨_,Heap.get?_push_size _ rfl,rfl,rfl⟩,fun b hb=>?_,q⟩
  have e:b=s1.heap.objs.size:=by simpa using hb
  subst e
  exact I1.fpOk (Nat.le_refl _) (I1.hok.fresh (Nat.le_refl _))
 ·exact q1.elim
def iR1 (ta:TA):TI:=fun σ H R=>ta σ H fun vs H1=>match vs with
 | [.int j]=>-(2 ^ 62)<=j/\j < 2 ^ 62/\R (Itr 0 j.toNat) H1
 | _=>False
theorem PI.of {iter:Expr} {w w':TI} (h:PI X tg iter w) (k:∀ σ H R,w' σ H R->w σ H R):PI X tg iter w':=fun pins s σ H R I q=>h pins s σ H R I (k _ _ _ q)
theorem pi_r1 {a:Expr} {ta:TA} (hm:X.mg "range" = none) (ha:PA X [a] ta) (hg:Gl X "range" := by rfl) (hs:starEach [a] X.env=[(false,eval a X.env)]:=by rfl):PI X tg (.Call (.Name "range" p) [a] [] pos) (iR1 ta):=by
 intro pins s σ H R I h
 refine Call_ (ld_blt I hg hm boot_range (PyProof.Rows.callWith_type1 (thn (ha pos pins s σ H _ I h) fun us s1 ⟨vs,H1,I1,r1,q1⟩=>?_) hs rfl))
 dsimp only at q1
 split at q1
 ·obtain ⟨q1,q2,q⟩:=q1
  obtain ⟨u,rfl,t,rfl⟩:=vals1 r1
  exact call_range_1 (range_it I1 (by omega) (by omega) q1 q2 (by simpa using q))
 ·exact q1.elim
def Itrs (lo st:Int) (n:Nat):It:=⟨fun i _=>i < n,fun i H x H'=>H'=H/\x = .int (lo+(i:Nat) * st),fun i _=>n<=i⟩
theorem it_rangeS (lo st:Int) (n:Nat):ItOk (Itrs lo st n) ((List.range n).map fun i=>V.int (lo+(i:Nat) * st)) fun _=>True:=
 ⟨fun H _=>by show n<=_;simp,fun i H _ hi=>(by show i < n;simpa using hi),fun i H x H' _ hi y=>⟨y.1,by
  have hi':i < n:=by simpa using hi
  obtain ⟨_,rfl⟩:=y
  simp [hi']⟩⟩
theorem turn_rangeS {P:Program} {w:World} {K:PySem.W.Frag} {tg:Expr} (it:Addr) (lo st:Int) (n:Nat):Turn P w K tg (Itrs lo st n) [it] it (fun i h=>IsRangeIter h it (lo+(i:Nat) * st) ((n:Int) - (i:Nat)) st) where
 mem:=by simp
 obj:=fun i h st b hb=>by
  have e:b=it:=by simpa using hb
  subst e
  exact ⟨_,st,fun v z=>by
   have z':Data.fields _=Data.cell v:=z
   cases z'⟩
 keep:=fun i h h' st k=>k it (by simp) _ st
 item:=by
  intro X hP hw hK hc i pins s σ H E I hf st' hg
  subst hP hw hK
  obtain ⟨f0,f1,f2,f3,f4,f5⟩:=hf it (by simp)
  have W:=Walks.range (prog:=X.prog) (w:=X.w) (I.ok.hd hc) it lo st n
  refine W.item i s _ _ hg st' fun v h' tk hv st'' kk=>?_
  obtain ⟨t,rfl⟩:=hv
  have I1:Inv X pins σ H { s with heap:=h',toks:=tk }:=I.turned (fun b o hb e=>kk b o (by simpa using hb) e) f0 f1 f3 f4 f5
  exact ⟨_,rfl,go_of (s:={ s with heap:=h',toks:=tk }) (n:= "range_iterator") st'' rfl rfl (by decide) ⟨.int (lo+(i:Nat) * st),H,I1,⟨t,rfl⟩,⟨rfl,rfl⟩,st'',fun b hb=>(hf b hb).1⟩⟩
 done:=by
  intro X hP hw hK hc i pins s σ H E I hf st' hg
  subst hP hw hK
  obtain ⟨f0,f1,f2,f3,f4,f5⟩:=hf it (by simp)
  exact wpAny_pyNext_range_end (I.ok.hd hc) st' (by have:n<=i:=hg;omega) fun h' eb=>⟨rfl,I.turned (t':=s.toks) (fun b o hb e=>eb b o hb e) f0 f1 f3 f4 f5⟩
 self:=fun _ _ _ _ _ st h=>wpAny_pyIter_rangeiter st h
def iR3 (ta:TA):TI:=fun σ H R=>ta σ H fun vs H1=>match vs with
 | [.int i,.int j,.int c]=>(-(2 ^ 30)<=i/\i < 2 ^ 30/\-(2 ^ 30)<=j/\j < 2 ^ 30/\c≠0/\-(2 ^ 30) < c/\c < 2 ^ 30)/\R (Itrs i c (Builtin.Range.rangeSize i j c).toNat) H1
 | _=>False
theorem rangeSize_nonneg (a b c:Int):0<=Builtin.Range.rangeSize a b c:=by
 unfold Builtin.Range.rangeSize
 split
 ·split
  ·have:0<=(b - a - 1) / c:=Int.ediv_nonneg (by omega) (by omega)
   omega
  ·omega
 ·split
  ·have:0<=(a - b - 1) / (-c):=Int.ediv_nonneg (by omega) (by omega)
   omega
  ·omega
theorem pi_r3 {a b c:Expr} {ta:TA} (hm:X.mg "range" = none) (ha:PA X [a,b,c] ta) (hg:Gl X "range" := by rfl) (hs:starEach [a,b,c] X.env=[(false,eval a X.env),(false,eval b X.env),(false,eval c X.env)]:=by rfl) (hs2:starEach [b,c] X.env=[(false,eval b X.env),(false,eval c X.env)]:=by rfl) :
  PI X tg (.Call (.Name "range" p) [a,b,c] [] pos) (iR3 ta):=by
 intro pins s σ H R I h
 refine Call_ (ld_blt I hg hm boot_range (PyProof.Rows.callWith_type1 (thn (ha pos pins s σ H _ I h) fun us s1 ⟨vs,H1,I1,r1,q1⟩=>?_) (by rw [hs,hs2]) (by rw [hs2];rfl)))
 dsimp only at q1
 split at q1
 ·rename_i i j c'
  obtain ⟨⟨q1,q2,q3,q4,q5,q6,q7⟩,q⟩:=q1
  cases r1 with
  | cons ra r1=>
   obtain ⟨u2,u3,e,⟨t2,e2⟩,⟨t3,e3⟩⟩:=vals2 r1
   obtain ⟨t1,e1⟩:=ra
   subst e1 e e2 e3
   refine call_range_3 q5 ?_ (.inl (PyProof.noPylong_small (by omega)))
   refine wpAny_pyIter_range (IsRange.new ..) (small_some q1 q2 q3 q4 q5 q6 q7) ?_
   have I2:=I1.kept (t':=s1.toks) (h':=s1.heap.push { cls:=.type "range",data:=.fields #[.int i t1,.int j t2,.int c' t3] }) fun b o e=>Heap.get?_push_of_some _ e
   refine ⟨_,[_],_,_,H1,rfl,I2.kept (t':=s1.toks) fun b o e=>Heap.get?_push_of_some _ e,turn_rangeS _ i c' (Builtin.Range.rangeSize i j c').toNat,?_,fun b hb=>?_,q⟩
   ·have e1:i+((0:Nat):Int) * c'=i:=by simp
    have e2:(((Builtin.Range.rangeSize i j c').toNat:Nat):Int) - ((0:Nat):Int)=Builtin.Range.rangeSize i j c':=by have:=rangeSize_nonneg i j c';omega
    show IsRangeIter _ _ (i+((0:Nat):Int) * c') ((((Builtin.Range.rangeSize i j c').toNat:Nat):Int) - ((0:Nat):Int)) c'
    rw [e1,e2]
    exact Heap.get?_push_size _ rfl
   ·have e:b=(s1.heap.push { cls:=.type "range",data:=.fields #[.int i t1,.int j t2,.int c' t3] }).objs.size:=by simpa using hb
    subst e
    exact I2.fpOk (Nat.le_refl _) (I2.hok.fresh (Nat.le_refl _))
 ·exact q1.elim
end
end L2
end
section
namespace L2
open PySem PySem.Spec PyProof.Rows
def visB (sc:Scope) (x:Str):Bool:=(match sc.names.lookup x with
 | some .local=>true
 | some .cell=>true
 | some .free=>true
 | _=>false) && (!(x == ("__debug__" : Str)) && !(x == ("__classdict__" : Str)))
theorem vis_of {sc:Scope} {x:Str} (h:visB sc x=true):Vis sc x/\(x == ("__debug__" : Str))=false/\(x == ("__classdict__" : Str))=false:=by
 unfold visB at h
 simp only [Bool.and_eq_true,Bool.not_eq_true'] at h
 obtain ⟨h1,h2,h3⟩:=h
 refine ⟨?_,h2,h3⟩
 split at h1
 ·exact .inl (by assumption)
 ·exact .inr (.inl (by assumption))
 ·exact .inr (.inr (by assumption))
 ·cases h1
def locB (sc:Scope) (x:Str):Bool:=match sc.names.lookup x with
 | some .local=>true
 | some .cell=>true
 | _=>false
theorem loc_of {sc:Scope} {x:Str} (h:locB sc x=true):Loc sc x:=by
 unfold locB at h
 split at h
 ·exact .inl (by assumption)
 ·exact .inr (by assumption)
 ·cases h
section
variable {X:Cx} {x:Str} {pos:Pos}
theorem vk (i:Nat) (hN:X.N[i]? = some x:=by rfl) (hv:visB X.env.scope x=true:=by kernel_rfl):PE X (.Name x pos) (tV i):=
 vr i hN (vis_of hv).1 (vis_of hv).2.1 (vis_of hv).2.2
theorem gk (i:Nat) (hN:X.N.Nodup) (hi:X.N[i]? = some x:=by rfl) (hx:locB X.env.scope x=true:=by kernel_rfl) (hf:canStB X x=true:=by kernel_rfl):PG X (.Name x pos) (gName i):=
 pg_name hN hi (loc_of hx) (canSt_of hf)
theorem vn (x:Str) (i:Nat) (hN:X.N[i]? = some x:=by with_unfolding_all rfl) (hv:visB X.env.scope x=true:=by kernel_rfl):PE X (.Name x pos) (tV i):=vk i hN hv
theorem gn (x:Str) (i:Nat) (hN:X.N.Nodup) (hi:X.N[i]? = some x:=by with_unfolding_all rfl) (hx:locB X.env.scope x=true:=by kernel_rfl) (hf:canStB X x=true:=by kernel_rfl):PG X (.Name x pos) (gName i):=gk i hN hi hx hf
def gB (X:Cx) (x:Str):Bool:=X.env.scope.names.lookup x == some .globalImplicit
theorem gl_of (h:gB X x=true):Gl X x:=eq_of_beq h
variable {p apos:Pos} {e o:Expr} {es:List Expr} {t:TA} {te to ti:TE} {k:Nat} {ps:List Str} {sp:Sp} {tg:Expr}
theorem fn_can (x:Str) {P':Program} {w':World} {K':PySem.W.Frag} {mg':Str->Option Value} {base':Heap} (C:Can P' w' K' mg' base' x k ps sp) (hX:X.prog=P'/\X.w=w'/\X.K=K'/\X.mg=mg'/\X.base=base') (hr:Room k X.A) (ha:PA X (e :: es) t) (hg:gB X x=true:=by kernel_rfl)
  (hdb:(x == ("__debug__" : Str))=false:=by kernel_rfl) (he:starEach (e :: es) X.env=(false,eval e X.env) :: starEach es X.env:=by kernel_rfl) (hpl:(backTo pos (starEach es X.env)).any (·.1)=false:=by kernel_rfl) :
  PE X (.Call (.Name x p) (e :: es) [] pos) (tCan sp t):=by
 obtain ⟨rfl,rfl,rfl,rfl,rfl⟩:=hX
 exact pe_can C hr ha (gl_of hg) hdb he hpl
theorem fn_len {mg':Str->Option Value} (hm:mg' "len" = none) (hX:X.mg=mg') (ha:PA X (e :: es) t) (hg:gB X "len" = true:=by kernel_rfl) (he:starEach (e :: es) X.env=(false,eval e X.env) :: starEach es X.env:=by kernel_rfl) (hpl:(backTo pos (starEach es X.env)).any (·.1)=false:=by kernel_rfl) :
  PE X (.Call (.Name "len" p) (e :: es) [] pos) (tCB rLen t):=pe_len (by rw [hX];exact hm) ha (gl_of hg) he hpl
theorem fn_isinst {mg':Str->Option Value} (hm:mg' "isinstance" = none) (hX:X.mg=mg') (ha:PA X (e :: es) t) (hg:gB X "isinstance" = true:=by kernel_rfl) (he:starEach (e :: es) X.env=(false,eval e X.env) :: starEach es X.env:=by kernel_rfl) (hpl:(backTo pos (starEach es X.env)).any (·.1)=false:=by kernel_rfl) :
  PE X (.Call (.Name "isinstance" p) (e :: es) [] pos) (tCB rIsI t):=pe_isinst (by rw [hX];exact hm) ha (gl_of hg) he hpl
theorem fn_all {mg':Str->Option Value} (hm:mg' "all" = none) (hX:X.mg=mg') (ha:PA X (e :: es) t) (hc:X.calm=true:=by kernel_rfl) (hg:gB X "all" = true:=by kernel_rfl) (he:starEach (e :: es) X.env=(false,eval e X.env) :: starEach es X.env:=by kernel_rfl) (hpl:(backTo pos (starEach es X.env)).any (·.1)=false:=by kernel_rfl) :
  PE X (.Call (.Name "all" p) (e :: es) [] pos) (tCB rAll t):=pe_all hc (by rw [hX];exact hm) ha (gl_of hg) he hpl
theorem fn_max {mg':Str->Option Value} (hm:mg' "max" = none) (hX:X.mg=mg') (ha:PA X (e :: es) t) (hc:X.calm=true:=by kernel_rfl) (hg:gB X "max" = true:=by kernel_rfl) (he:starEach (e :: es) X.env=(false,eval e X.env) :: starEach es X.env:=by kernel_rfl) (hpl:(backTo pos (starEach es X.env)).any (·.1)=false:=by kernel_rfl) :
  PE X (.Call (.Name "max" p) (e :: es) [] pos) (tCB rMax t):=pe_max hc (by rw [hX];exact hm) ha (gl_of hg) he hpl
theorem fn_min {mg':Str->Option Value} (hm:mg' "min" = none) (hX:X.mg=mg') (ha:PA X (e :: es) t) (hc:X.calm=true:=by kernel_rfl) (hg:gB X "min" = true:=by kernel_rfl) (he:starEach (e :: es) X.env=(false,eval e X.env) :: starEach es X.env:=by kernel_rfl) (hpl:(backTo pos (starEach es X.env)).any (·.1)=false:=by kernel_rfl) :
  PE X (.Call (.Name "min" p) (e :: es) [] pos) (tCB rMin t):=pe_min hc (by rw [hX];exact hm) ha (gl_of hg) he hpl
theorem ty_int {mg':Str->Option Value} (hm:mg' "int" = none) (hX:X.mg=mg') (hg:gB X "int" = true:=by kernel_rfl):PE X (.Name "int" pos) (tC (.ty "int")):=pe_ty PyProof.Rows.boot_int (by rw [hX];exact hm) (gl_of hg)
theorem ty_bool {mg':Str->Option Value} (hm:mg' "bool" = none) (hX:X.mg=mg') (hg:gB X "bool" = true:=by kernel_rfl):PE X (.Name "bool" pos) (tC (.ty "bool")):=pe_ty PyProof.Rows.boot_bool (by rw [hX];exact hm) (gl_of hg)
theorem ty_list {mg':Str->Option Value} (hm:mg' "list" = none) (hX:X.mg=mg') (hg:gB X "list" = true:=by kernel_rfl):PE X (.Name "list" pos) (tC (.ty "list")):=pe_ty PyProof.Rows.boot_list (by rw [hX];exact hm) (gl_of hg)
theorem ty_tuple {mg':Str->Option Value} (hm:mg' "tuple" = none) (hX:X.mg=mg') (hg:gB X "tuple" = true:=by kernel_rfl):PE X (.Name "tuple" pos) (tC (.ty "tuple")):=pe_ty PyProof.Rows.boot_tuple (by rw [hX];exact hm) (gl_of hg)
theorem ty_str {mg':Str->Option Value} (hm:mg' "str" = none) (hX:X.mg=mg') (hg:gB X "str" = true:=by kernel_rfl):PE X (.Name "str" pos) (tC (.ty "str")):=pe_ty PyProof.Rows.boot_str (by rw [hX];exact hm) (gl_of hg)
theorem it_r1 {a:Expr} {ta:TA} {mg':Str->Option Value} (hm:mg' "range" = none) (hX:X.mg=mg') (ha:PA X [a] ta) (hg:gB X "range" = true:=by kernel_rfl) (hs:starEach [a] X.env=[(false,eval a X.env)]:=by kernel_rfl):PI X tg (.Call (.Name "range" p) [a] [] pos) (iR1 ta):=pi_r1 (by rw [hX];exact hm) ha (gl_of hg) hs
theorem it_r3 {a b c:Expr} {ta:TA} {mg':Str->Option Value} (hm:mg' "range" = none) (hX:X.mg=mg') (ha:PA X [a,b,c] ta) (hg:gB X "range" = true:=by kernel_rfl) (hs:starEach [a,b,c] X.env=[(false,eval a X.env),(false,eval b X.env),(false,eval c X.env)]:=by kernel_rfl) (hs2:starEach [b,c] X.env=[(false,eval b X.env),(false,eval c X.env)]:=by kernel_rfl) :
  PI X tg (.Call (.Name "range" p) [a,b,c] [] pos) (iR3 ta):=pi_r3 (by rw [hX];exact hm) ha (gl_of hg) hs hs2
theorem ix_at {a b:Expr} {ta tb:TE} (ha:PE X a ta) (hb:PE X b tb) (hs:∀ o i,subscripted b false o i=operate [o,i] (getItem o i):=by intro _ _;kernel_rfl):PE X (.Subscript a b pos) (tOp rIxU ta tb):=pe_ix ixU ha hb hs
theorem a_cons {e:Expr} {es:List Expr} {te:TE} {t:TA} (ha:PE X e te) (hr:PA X es t) (hs:starEach (e :: es) X.env=(false,eval e X.env) :: starEach es X.env:=by kernel_rfl):PA X (e :: es) (tCons te t):=pa_cons ha hr hs
theorem t_cmp {op:CmpOp} {r:R2} {a b:Expr} {ta tb:TE} (ho:OpR X (compareOp op) r) (ha:PE X a ta) (hb:PE X b tb) (hm:behindInMarks op b=false:=by kernel_rfl):PT X (.Compare a [op] [b] pos) (tBU (tOp r ta tb)):=pt_cmpU ho ha hb hm
theorem e_cmp {op:CmpOp} {r:R2} {a b:Expr} {ta tb:TE} (ho:OpR X (compareOp op) r) (ha:PE X a ta) (hb:PE X b tb) (hm:behindInMarks op b=false:=by kernel_rfl):PE X (.Compare a [op] [b] pos) (tOp r ta tb):=pe_cmpU ho ha hb hm
theorem e_chain {op op':CmpOp} {r r':R2} {a b c:Expr} {ta tb tc:TE} (ho:OpR X (compareOp op) r) (ho':OpR X (compareOp op') r') (ha:PE X a ta) (hb:PE X b tb) (hc:PE X c tc)
  (hm:lastMarks [op,op'] [b,c]=false:=by kernel_rfl):PE X (.Compare a [op,op'] [b,c] pos) (tChainU r r' ta tb tc):=pe_chainU ho ho' ha hb hc hm
theorem s_asg {tg e:Expr} {te:TE} {g:TG} (he:PE X e te) (hg:PG X tg g) (hs:swapsWithSole [tg] e pos.line X.env=pure false:=by kernel_rfl) (hw:swappedStores [tg] e X.env=pure none:=by kernel_rfl)
  (h1:(assignEach [tg] X.env).map (·.2)=[assign tg X.env]:=by kernel_rfl):PS X (.Assign [tg] e pos) (tAsg te g):=ps_asg he hg hs hw h1
theorem s_expr {e:Expr} {te:TE} (he:PE X e te) (hs:swapsWith e none pos.line X.env=pure false:=by kernel_rfl):PS X (.Expr e pos) (tDrop te):=ps_expr he hs
theorem s_for {iter:Expr} {body:List Stmt} {wi:TI} {g:TG} {tb:TS} (hi:PI X tg iter wi) (hg:PG X tg g) (hb:PSs X body tb) (hp:PassesOwn (model X.prog X.w) X.A X.env X.xe:=by exact PassesOwn.never) (hc:X.calm=true:=by kernel_rfl)
  (hs:∀ x,foldedSetIterable iter X.env x=pure x:=by intro _;kernel_rfl):PS X (.For tg iter body [] pos) (tFor wi g tb):=ps_for hp hc hi hg hb hs
theorem s_raise {a b:Option Expr}:PS X (.Raise a b pos) tNever:=ps_never
theorem g_sub {o i:Expr} {to ti:TE} (ho:PE X o to) (hi:PE X i ti) (ha:∀ v,assign (.Subscript o i pos) X.env v=(do
   let ov <-holding [v] (eval o X.env)
   let iv <-holding [v,ov] (eval i X.env)
   standAt pos
   holding [v,ov,iv] (setItem ov iv v)
   release [v,ov,iv] []):=by intro _;kernel_rfl):PG X (.Subscript o i pos) (gSub to ti rSetU):=pg_sub ho hi setU ha
theorem m_append {cpos:Pos} (ho:PE X o to) (ha:PA X (e :: es) t)
  (hbase:attributeBase o "append" X.env (eval o X.env)=eval o X.env:=by kernel_rfl)
  (hfew:((backTo cpos (starEach (e :: es) X.env)).all (fun x=>!x.1) && (backToKw cpos (keywordEach [] X.env)).all (fun x=>x.1.isSome)
   && decide ((e :: es).length+([]:List Keyword).length+(if ([]:List Keyword).isEmpty then 0 else 1) < 30))=true:=by kernel_rfl)
  (hline:(apos.endLine == cpos.line)=true:=by kernel_rfl) (hs:starEach (e :: es) X.env=(false,eval e X.env) :: starEach es X.env:=by kernel_rfl) (hplain:(backTo cpos (starEach es X.env)).any (·.1)=false:=by kernel_rfl) :
  PE X (.Call (.Attribute o "append" apos) (e :: es) [] cpos) (tMt "list" rApp to t):=pe_mt PySem.F.plainAttrs_list PySem.F.slot_list_append PySem.F.type_list_append mt_appU ho ha hbase hfew hline hs hplain
theorem m_join {cpos:Pos} (ho:PE X o to) (ha:PA X (e :: es) t)
  (hbase:attributeBase o "join" X.env (eval o X.env)=eval o X.env:=by kernel_rfl)
  (hfew:((backTo cpos (starEach (e :: es) X.env)).all (fun x=>!x.1) && (backToKw cpos (keywordEach [] X.env)).all (fun x=>x.1.isSome)
   && decide ((e :: es).length+([]:List Keyword).length+(if ([]:List Keyword).isEmpty then 0 else 1) < 30))=true:=by kernel_rfl)
  (hline:(apos.endLine == cpos.line)=true:=by kernel_rfl) (hs:starEach (e :: es) X.env=(false,eval e X.env) :: starEach es X.env:=by kernel_rfl) (hplain:(backTo cpos (starEach es X.env)).any (·.1)=false:=by kernel_rfl) :
  PE X (.Call (.Attribute o "join" apos) (e :: es) [] cpos) (tMt "str" rJoin to t):=pe_mt PySem.F.plainAttrs_str PySem.F.slot_str_join PySem.F.type_str_join mt_joinU ho ha hbase hfew hline hs hplain
theorem m_strip {cpos:Pos} (ho:PE X o to) (ha:PA X (e :: es) t)
  (hbase:attributeBase o "strip" X.env (eval o X.env)=eval o X.env:=by kernel_rfl)
  (hfew:((backTo cpos (starEach (e :: es) X.env)).all (fun x=>!x.1) && (backToKw cpos (keywordEach [] X.env)).all (fun x=>x.1.isSome)
   && decide ((e :: es).length+([]:List Keyword).length+(if ([]:List Keyword).isEmpty then 0 else 1) < 30))=true:=by kernel_rfl)
  (hline:(apos.endLine == cpos.line)=true:=by kernel_rfl) (hs:starEach (e :: es) X.env=(false,eval e X.env) :: starEach es X.env:=by kernel_rfl) (hplain:(backTo cpos (starEach es X.env)).any (·.1)=false:=by kernel_rfl) :
  PE X (.Call (.Attribute o "strip" apos) (e :: es) [] cpos) (tMt "str" rStrip to t):=pe_mt PySem.F.plainAttrs_str PySem.F.slot_str_strip PySem.F.type_str_strip mt_stripU ho ha hbase hfew hline hs hplain
theorem m_bits {cpos:Pos} (ho:PE X o to) (hbase:attributeBase o "bit_length" X.env (eval o X.env)=eval o X.env:=by kernel_rfl) (hline:(apos.endLine == cpos.line)=true:=by kernel_rfl):PE X (.Call (.Attribute o "bit_length" apos) [] [] cpos) (tMt "int" rBits to tNil):=pe_mt0 PySem.F.plainAttrs_int PySem.F.slot_int_bit_length PySem.F.type_int_bit_length mt_bitsU ho hbase hline
theorem c_comp (N:List Str) (js:List Nat) {elt target iter:Expr} {ifs:List Expr} {scope:Scope} {wi:TI} {g:TG} {tt:TT} {te:TE} (hN:N.Nodup) (hi:PI X target iter wi)
  (hg:∀ cl C s H fp,PG (X.block scope cl C N s H fp) target g) (ht:∀ cl C s H fp,PF (X.block scope cl C N s H fp) ifs tt) (he:∀ cl C s H fp,PE (X.block scope cl C N s H fp) elt te)
  (hok:compOk X.env.scope X.N scope N js=true:=by kernel_rfl) (hc:X.calm=true:=by kernel_rfl) (hk:scope.kind = .function:=by kernel_rfl) (hs:∀ x,foldedSetIterable iter X.env x=pure x:=by intro _;kernel_rfl) :
  PE X (.ListComp elt [⟨target,iter,ifs,0⟩] scope pos) (tComp (N.length - js.length) js wi g tt te):=pe_comp N js hok hN hc hi hg ht he hk hs
theorem s_comp (y:Str) (i:Nat) (N:List Str) (js:List Nat) {elt target iter:Expr} {ifs:List Expr} {scope:Scope} {wi:TI} {g:TG} {tt:TT} {te:TE} {py spos:Pos} (hN:N.Nodup) (hXN:X.N.Nodup) (hi:PI X target iter wi)
  (hg:∀ cl C s H fp,PG (X.block scope cl C N s H fp) target g) (ht:∀ cl C s H fp,PF (X.block scope cl C N s H fp) ifs tt) (he:∀ cl C s H fp,PE (X.block scope cl C N s H fp) elt te)
  (hyi:X.N[i]? = some y:=by with_unfolding_all rfl) (hy:locB X.env.scope y=true:=by kernel_rfl)
  (hok:compOk X.env.scope X.N scope N js=true:=by kernel_rfl) (hc:X.calm=true:=by kernel_rfl) (hk:scope.kind = .function:=by kernel_rfl) (hs:∀ x,foldedSetIterable iter X.env x=pure x:=by intro _;kernel_rfl)
  (hsw:swapsWith (.ListComp elt [⟨target,iter,ifs,0⟩] scope pos) (some (.Name y py)) spos.line X.env=pure true:=by kernel_rfl) (hf:canStB X y=true:=by kernel_rfl) :
  PS X (.Assign [.Name y py] (.ListComp elt [⟨target,iter,ifs,0⟩] scope pos) spos) (tAsg (tComp (N.length - js.length) js wi g tt te) (gName i)):=
 ps_setComp N js hok hN hc hXN hyi (loc_of hy) hi hg ht he hsw hk hs (canSt_of hf)
end
theorem iteP {c A B:Prop} [Decidable c] (hc:c) (h:A):if c then A else B:=by rw [if_pos hc];exact h
theorem iteQ {c A B:Prop} [Decidable c] (hc:¬ c) (h:B):if c then A else B:=by rw [if_neg hc];exact h
end L2
end
section
namespace L2
open PySem PySem.Spec PyProof.Rows
def Off (F:Addr->Prop) (H H':Hp):Prop:=∀ b o,H b=some o->¬ F b->H' b=some o
structure Deck (F:Addr->Prop) (H:Hp) (a:Addr):Prop where
 ex:∃ (p:Addr) (qs:List Addr) (n:Int),H a=some (.lst [.ref p,.int n])/\H p=some (.lst (qs.map V.ref))/\0 < qs.length/\qs.length<=63/\(∀ q∈qs,∃ c f m,H q=some (.lst [.int c,.int f,.int m]))/\∀ b,F b↔b=a\/b=p\/b∈qs
theorem Off.refl {F:Addr->Prop} {H:Hp}:Off F H H:=fun _ _ e _=>e
theorem Off.trans {F:Addr->Prop} {H H1 H2:Hp} (h:Off F H H1) (k:Off F H1 H2):Off F H H2:=fun b o e n=>k b o (h b o e n) n
theorem Same.off {F:Addr->Prop} {H H1:Hp} (h:Same H H1):Off F H H1:=fun b o e _=>h b o e
theorem Deck.same {F:Addr->Prop} {H H1:Hp} {a:Addr} (h:Deck F H a) (k:Same H H1):Deck F H1 a:=by
 obtain ⟨p,qs,n,h1,h2,h3,h4,h5,h6⟩:=h.ex
 exact ⟨p,qs,n,k _ _ h1,k _ _ h2,h3,h4,fun q hq=>let ⟨c,f,m,e⟩:=h5 q hq;⟨c,f,m,k _ _ e⟩,h6⟩
theorem Deck.there {F:Addr->Prop} {H:Hp} {a b:Addr} (h:Deck F H a) (hb:F b):∃ o,H b=some o:=by
 obtain ⟨p,qs,n,h1,h2,h3,h4,h5,h6⟩:=h.ex
 rcases (h6 b).mp hb with rfl | rfl | z
 ·exact ⟨_,h1⟩
 ·exact ⟨_,h2⟩
 ·obtain ⟨c,f,m,e⟩:=h5 b z
  exact ⟨_,e⟩
theorem Deck.new {F:Addr->Prop} {H:Hp} {a b:Addr} (h:Deck F H a) (hb:H b=none):¬ F b:=fun z=>by
 obtain ⟨o,e⟩:=h.there z
 rw [hb] at e
 cases e
theorem tOr_by {t u:TT} {σ:St} {H:Hp} {Q:Bool->Hp->Prop} {c1 c2:Bool} (h1:∀ Q:Bool->Hp->Prop,Q c1 H->t σ H Q) (h2:c1=false->∀ Q:Bool->Hp->Prop,Q c2 H->u σ H Q) (q:Q (c1 || c2) H):tOr t u σ H Q:=by
 refine h1 _ ?_
 cases c1 with
 | true=>exact iteT (by simpa using q)
 | false=>exact iteF (h2 rfl _ (by simpa using q))
end L2
namespace L2
open PySem PySem.Spec PyProof.Rows
section
variable {H:Hp}
theorem DV.lst_inv {v:V} {ds:List PyData} (h:DV H v (.list ds)):∃ a xs,v = .ref a/\H a=some (.lst xs)/\DVs H xs ds:=by
 cases h with
 | lst h r=>exact ⟨_,_,rfl,h,r⟩
theorem DV.tup_inv {v:V} {ds:List PyData} (h:DV H v (.tuple ds)):∃ a xs,v = .ref a/\H a=some (.tup xs)/\DVs H xs ds:=by
 cases h with
 | tup h r=>exact ⟨_,_,rfl,h,r⟩
theorem DV.int_inv {v:V} {i:Int} (h:DV H v (.int i)):v = .int i:=by cases h;rfl
theorem DV.str_inv {v:V} {x:Str} (h:DV H v (.str x)):v = .str x:=by cases h;rfl
theorem DVs.length:∀ {xs:List V} {ds:List PyData},DVs H xs ds->xs.length=ds.length
 | _,_,.nil=>rfl
 | _,_,.cons _ r=>by rw [List.length_cons,List.length_cons,DVs.length r]
theorem DVs.get:∀ {xs:List V} {ds:List PyData} {i:Nat} {d:PyData},DVs H xs ds->ds[i]? = some d->∃ x,xs[i]? = some x/\DV H x d
 | _,_,_,_,.nil,h=>by simp at h
 | _,_,0,_,.cons h _,e=>by
  simp at e
  subst e
  exact ⟨_,rfl,h⟩
 | _,_,i+1,d,.cons _ r,e=>by
  obtain ⟨x,h1,h2⟩:=DVs.get (i:=i) (d:=d) r (by simpa using e)
  exact ⟨x,by simpa using h1,h2⟩
theorem DVs.app:∀ {xs ys:List V} {ds es:List PyData},DVs H xs ds->DVs H ys es->DVs H (xs++ys) (ds++es)
 | _,_,_,_,.nil,s=>s
 | _,_,_,_,.cons h r,s=>.cons h (DVs.app r s)
theorem DVs.ints:∀ (ns:List Int),DVs H (ns.map V.int) (ns.map PyData.int)
 | []=>.nil
 | n :: r=>.cons (.int n) (DVs.ints r)
theorem DVs.strs:∀ (ws:List Str),DVs H (ws.map V.str) (ws.map PyData.str)
 | []=>.nil
 | n :: r=>.cons (.str n) (DVs.strs r)
end
end L2
end
section
namespace Om
abbrev Rows:=List (List (List Bool×Nat))
structure CodeOk (k n:Nat) (rows:Rows):Prop where
 k1:1<=k
 k3:k<=3
 n1:1<=n
 n6:n<=6
 s1:1<=rows.length
 s8:rows.length<=8
 len:∀ st∈rows,st.length=2 ^ k
 row:∀ st∈rows,∀ r∈st,r.1.length=n/\r.2 < rows.length
def step (rows:Rows) (s l:Nat):List Bool×Nat:=(rows.getD s []).getD l ([],0)
def send (rows:Rows):Nat->List Nat->List Bool×Nat
 | s,[]=>([],s)
 | s,l :: r=>((step rows s l).1++(send rows (step rows s l).2 r).1,(send rows (step rows s l).2 r).2)
theorem send_app (rows:Rows):∀ (a b:List Nat) (s:Nat),send rows s (a++b)=((send rows s a).1++(send rows (send rows s a).2 b).1,(send rows (send rows s a).2 b).2)
 | [],b,s=>rfl
 | l :: a,b,s=>by
  show ((step rows s l).1++(send rows (step rows s l).2 (a++b)).1,(send rows (step rows s l).2 (a++b)).2)=_
  rw [send_app rows a b]
  simp [send]
theorem step_get {k n:Nat} {rows:Rows} (c:CodeOk k n rows) {s l:Nat} (hs:s < rows.length) (hl:l < 2 ^ k):∃ st,rows[s]? = some st/\st[l]? = some (step rows s l)/\(step rows s l).1.length=n/\(step rows s l).2 < rows.length:=by
 have h1:rows[s]? = some rows[s]:=List.getElem?_eq_getElem hs
 have hm:rows[s]∈rows:=List.getElem_mem hs
 have hl':l < rows[s].length:=by rw [c.len _ hm];exact hl
 have h2:rows[s][l]? = some rows[s][l]:=List.getElem?_eq_getElem hl'
 have e:step rows s l=rows[s][l]:=by
  unfold step
  have e1:rows.getD s []=rows[s]:=by rw [List.getD_eq_getElem?_getD,h1];rfl
  rw [e1,List.getD_eq_getElem?_getD,h2]
  rfl
 rw [e]
 have:=c.row _ hm _ (List.getElem_mem hl')
 exact ⟨rows[s],h1,h2,this.1,this.2⟩
theorem send_ok {k n:Nat} {rows:Rows} (c:CodeOk k n rows):∀ (t:List Nat) (s:Nat),s < rows.length->(∀ l∈t,l < 2 ^ k)->(send rows s t).1.length=n * t.length/\(send rows s t).2 < rows.length
 | [],s,hs,_=>⟨by simp [send],hs⟩
 | l :: t,s,hs,ht=>by
  obtain ⟨st,_,_,h1,h2⟩:=step_get c hs (ht l List.mem_cons_self)
  obtain ⟨h3,h4⟩:=send_ok c t (step rows s l).2 h2 fun x hx=>ht x (List.mem_cons_of_mem _ hx)
  refine ⟨?_,h4⟩
  show ((step rows s l).1++(send rows (step rows s l).2 t).1).length=_
  rw [List.length_append,h1,h3,List.length_cons,Nat.mul_add,Nat.mul_one,Nat.add_comm]
def letterOf (c:List Int):Int:=c.foldl (fun a b=>2 * a+b) 0
def Bit (b:Int):Prop:=b=0\/b=1
theorem cut_get {k:Nat}:∀ (cs:List (List Int)) (i:Nat),(∀ c∈cs,c.length=k)->(h:i < cs.length)->(cs.flatten.drop (i * k)).take k=cs[i]
 | [],i,_,h=>by simp at h
 | c :: cs,0,hc,h=>by
  have:c.length=k:=hc c List.mem_cons_self
  simp [List.flatten_cons,<-this]
 | c :: cs,i+1,hc,h=>by
  have e:c.length=k:=hc c List.mem_cons_self
  have ih:=cut_get cs i (fun x hx=>hc x (List.mem_cons_of_mem _ hx)) (by simpa using h)
  rw [List.flatten_cons,List.drop_append,List.drop_of_length_le (by rw [e,Nat.succ_mul];omega),List.nil_append,e]
  have:(i+1) * k - k=i * k:=by rw [Nat.succ_mul];omega
  rw [this,ih]
  simp
theorem flat_len {k:Nat}:∀ (cs:List (List Int)),(∀ c∈cs,c.length=k)->cs.flatten.length=cs.length * k
 | [],_=>by simp
 | c :: cs,h=>by
  rw [List.flatten_cons,List.length_append,flat_len cs fun x hx=>h x (List.mem_cons_of_mem _ hx),h c List.mem_cons_self,List.length_cons,Nat.succ_mul,Nat.add_comm]
end Om
end
section
namespace L2
open PySem PySem.Spec PyProof.Rows
theorem bits_le {i:Int} {k:Nat} (h0:0<=i) (h:i < 2 ^ k):((Builtin.Int.intBits i:Nat):Int)<=(k:Int):=by
 unfold Builtin.Int.intBits
 by_cases hi:i=0
 ·subst hi;simp
 ·have hb:(i == 0)=false:=by simpa using hi
  rw [hb]
  simp only [Bool.false_eq_true,if_false]
  have hn:i.natAbs≠0:=by omega
  have h2:i.natAbs < 2 ^ k:=by
   have e:((i.natAbs:Nat):Int)=i:=by omega
   have:((i.natAbs:Nat):Int) < ((2 ^ k:Nat):Int):=by rw [e];simpa using h
   exact_mod_cast this
  have:=(Nat.log2_lt hn).mpr h2
  omega
theorem tw_all {α:Type} {p:α->Bool}:∀ {l:List α},(∀ x∈l,p x=true)->l.takeWhile p=l
 | [],_=>rfl
 | a :: l,h=>by rw [List.takeWhile_cons,if_pos (h a List.mem_cons_self),tw_all fun x hx=>h x (List.mem_cons_of_mem _ hx)]
theorem strip01 (w:List Bool):Txt.stripChars (bs w) ("01" : Str)=bs []:=by
 unfold Txt.stripChars
 rw [stripBy_eq]
 have hg:∀ b:Bool,(("01" : Str).cps.contains (sg b))=true:=by intro b;cases b<;>decide +kernel
 have hlo:stripLo ("01" : Str).cps.contains true (bs w)=w.length:=by
  unfold stripLo
  rw [if_pos rfl]
  have e:(bs w).cps.toList=w.map sg:=by show (w.map sg).toArray.toList=_;simp
  rw [e]
  have:(w.map sg).takeWhile ("01" : Str).cps.contains=w.map sg:=tw_all fun x hx=>by
   obtain ⟨b,_,rfl⟩:=List.mem_map.mp hx
   exact hg b
  rw [this,List.length_map]
 rw [hlo]
 show (⟨((w.map sg).toArray).extract w.length _⟩ : Str)=bs []
 have:∀ j,((w.map sg).toArray).extract w.length j = #[]:=fun j=>by
  apply Array.ext'
  simp
 rw [this]
 rfl
theorem bs_join (ws:List (List Bool)):Txt.join ("" : Str) (ws.map bs)=bs ws.flatten:=by
 rw [eq_of_beq (join_plain_closes _ _)]
 have e0:("" : Str)=(⟨#[]⟩ : Str):=by decide +kernel
 rw [e0]
 induction ws with
 | nil=>rfl
 | cons w ws ih=>rw [List.map_cons,join_nil_cons,ih,bs_app,List.flatten_cons]
def rowD (r:List Bool×Nat):PyData:=.tuple [.str (bs r.1),.int (r.2:Nat)]
def stateD (st:List (List Bool×Nat)):PyData:=.list (st.map rowD)
def codeD (k n:Nat) (rows:Om.Rows):PyData:=.tuple [.int (k:Nat),.int (n:Nat),.list (rows.map stateD)]
end L2
namespace L2
open PySem PySem.Spec PyProof.Rows
theorem comp_map1 {J:It} {D:Addr} {xs:List V} {ok:Hp->Prop} {te:TE} {Q:Hp->Prop} {v0:Option V} {fr:St} {H:Hp} (IO:ItOk J xs ok) (f:V->V) (hz:xs.length<=sizeLine) (hok:∀ o,ok (upd H D o))
  (hs:∀ (i:Nat) (x:V) (ys:List V),xs[i]? = some x->∀ C:VK,C (f x) (upd H D (.lst ys))->te (some x :: fr) (upd H D (.lst ys)) C)
  (hd:Q (upd H D (.lst (xs.map f)))) :
  ∃ W:Nat->Nat->St->Hp->List V->Prop,(∃ m,W 0 m (v0 :: fr) (upd H D (.lst [])) [])/\∀ i m τ H2 ys,W i m τ H2 ys->H2 D=some (.lst ys) ∧
   ((J.stop i H2/\Q H2)\/(J.go i H2/\ys.length < sizeLine/\∃ N:St->Hp->List V->Prop,(∀ τ' H' ys',N τ' H' ys'->∃ m',m' < m/\W (i+1) m' τ' H' ys')/\∀ x H3,J.yld i H2 x H3->gName 0 x τ H3 fun τ4 H4=>tYes τ4 H4 fun b H5=>
    if b=true then te τ4 H5 fun y H6=>H6 D=some (.lst ys)/\N τ4 (upd H6 D (.lst (ys++[y]))) (ys++[y])
    else N τ4 H5 ys)):=by
 refine comp_by IO (fun i τ H2 ys=>(∃ v,τ=v :: fr)/\H2=upd H D (.lst ys)/\ys=(xs.take i).map f/\i<=xs.length) hz ⟨⟨v0,rfl⟩,rfl,rfl,Nat.zero_le _⟩ ?_ ?_ ?_
 ·rintro i τ H2 ys hi ⟨_,rfl,rfl,_⟩
  exact ⟨hok _,upd_same,by simp [List.length_take];omega⟩
 ·rintro i x τ H2 ys hi hx ⟨⟨v,rfl⟩,rfl,rfl,_⟩
  refine hs i x _ hx _ ⟨upd_same,⟨_,rfl⟩,upd_upd,?_,hi⟩
  rw [List.take_add_one,hx,List.map_append]
  rfl
 ·rintro τ H2 ys ⟨_,rfl,rfl,_⟩
  rw [List.take_length]
  exact hd
theorem SqL.upd {K:PySem.W.Frag} {H:Hp} {a D:Addr} {xs:List V} {o:HO} (h:H a=some (.lst xs)) (hD:H D=none):SqL K (upd H D o) a xs:=SqL.of (Same.upd hD _ _ h)
theorem all_true {α:Type} (l:List α):((l.map fun _=>V.bl true))=(l.map fun _=>true).map V.bl:=by simp
theorem all_id (n:Nat) {l:List Bool} (h:∀ b∈l,b=true):l.all id=true:=List.all_eq_true.mpr fun b hb=>h b hb
end L2
end
section
namespace L2
open PySem PySem.Spec PyProof.Rows
section
variable {prog:Program} {w:World} {A:Around} {E:Value->Shared->Prop}
end
section
variable {X:Cx} {pos:Pos}
end
section
variable {X:Cx}
def tTru (t:TE):TT:=fun σ H Q=>t σ H fun x H1=>match x with
 | .bl c=>Q c H1
 | .ref p=>∃ xs,H1 p=some (.lst xs)/\Q (!xs.isEmpty) H1
 | _=>False
theorem t_tru {e:Expr} {t:TE} (h:PE X e t) (he:∀ whole,isTrue e X.env whole=(do let v <-whole;standAt e.pos;holding [v] (truthy v)):=by intro _;kernel_rfl):PT X e (tTru t):=by
 intro pins s σ H Q I hw
 refine isTrue_plain (thn (h pins s σ H _ I hw) fun v s1 ⟨x,H1,I1,r1,q1⟩=>?_) (he _)
 refine tru_ok pins s1 σ H1 x v Q I1 r1 ?_
 dsimp only at q1
 split at q1
 ·exact ⟨_,rfl,q1⟩
 ·obtain ⟨xs,h1,q⟩:=q1
  exact ⟨_,.inl ⟨xs,SqL.of h1,rfl⟩,q⟩
 ·exact q1.elim
end
section
variable {X:Cx}
def rNeg:V->Hp->VK->Prop:=fun x H Q=>match x with
 | .int i=>Q (.int (-i)) H
 | _=>False
theorem e_neg {a:Expr} {ta:TE} {pos:Pos} (ha:PE X a ta):PE X (.UnaryOp .USub a pos) (tUn rNeg ta):=by
 refine pe_un (fun pins s σ H x v Q I rx q=>?_) ha
 unfold rNeg at q
 split at q
 ·exact un_neg pins s σ H _ v Q I rx ⟨_,rfl,q⟩
 ·exact q.elim
end
theorem cut_nat (xs:List V) (a b:Nat) (h:a<=b) (hb:b<=xs.length):cutV xs (some (a:Int)) (some (b:Int))=(xs.drop a).take (b - a):=by
 unfold cutV
 have e1:min a xs.length=a:=Nat.min_eq_left (by omega)
 have e2:min b xs.length=b:=Nat.min_eq_left hb
 rw [HT.sIx_nat,HT.sIx_nat,e1,e2]
section
variable {H:Hp}
def ni (ls:List Nat):List Int:=ls.map fun l:Nat=>(l:Int)
theorem code_inv {cv:V} {k n:Nat} {rows:Om.Rows} (h:DV H cv (codeD k n rows)):∃ a b ss,cv = .ref a/\H a=some (.tup [.int k,.int n,.ref b])/\H b=some (.lst ss)/\DVs H ss (rows.map stateD):=by
 obtain ⟨a,xs,rfl,ha,hx⟩:=h.tup_inv
 cases hx with
 | cons h1 hx=>
  cases hx with
  | cons h2 hx=>
   cases hx with
   | cons h3 hx=>
    cases hx
    obtain rfl:=h1.int_inv
    obtain rfl:=h2.int_inv
    obtain ⟨b,ss,rfl,hb,hs⟩:=h3.lst_inv
    exact ⟨a,b,ss,rfl,ha,hb,hs⟩
theorem state_at {ss:List V} {rows:Om.Rows} (h:DVs H ss (rows.map stateD)) {s:Nat} {st:List (List Bool×Nat)} (hs:rows[s]? = some st):∃ q rs,ss[s]? = some (.ref q)/\H q=some (.lst rs)/\DVs H rs (st.map rowD):=by
 obtain ⟨x,hx,d⟩:=h.get (i:=s) (d:=stateD st) (by rw [List.getElem?_map,hs];rfl)
 obtain ⟨q,rs,rfl,hq,hr⟩:=d.lst_inv
 exact ⟨q,rs,hx,hq,hr⟩
theorem row_at {rs:List V} {st:List (List Bool×Nat)} (h:DVs H rs (st.map rowD)) {l:Nat} {r:List Bool×Nat} (hl:st[l]? = some r):∃ p,rs[l]? = some (.ref p)/\H p=some (.tup [.str (bs r.1),.int (r.2:Nat)]):=by
 obtain ⟨x,hx,d⟩:=h.get (i:=l) (d:=rowD r) (by rw [List.getElem?_map,hl];rfl)
 obtain ⟨p,xs,rfl,hp,hd⟩:=d.tup_inv
 cases hd with
 | cons h1 hd=>
  cases hd with
  | cons h2 hd=>
   cases hd
   obtain rfl:=h1.str_inv
   obtain rfl:=h2.int_inv
   exact ⟨p,hx,hp⟩
end
end L2
namespace Om
def words (rows:Rows):Nat->List Nat->List (List Bool)
 | _,[]=>[]
 | s,l :: r=>(step rows s l).1 :: words rows (step rows s l).2 r
theorem words_flat (rows:Rows):∀ (t:List Nat) (s:Nat),(words rows s t).flatten=(send rows s t).1
 | [],_=>rfl
 | l :: t,s=>by rw [words,List.flatten_cons,words_flat rows t];rfl
theorem words_len (rows:Rows):∀ (t:List Nat) (s:Nat),(words rows s t).length=t.length
 | [],_=>rfl
 | l :: t,s=>by rw [words,List.length_cons,words_len rows t,List.length_cons]
theorem words_snoc (rows:Rows):∀ (t:List Nat) (s l:Nat),words rows s (t++[l])=words rows s t++[(step rows (send rows s t).2 l).1]
 | [],_,_=>rfl
 | x :: t,s,l=>by
  show (step rows s x).1 :: words rows (step rows s x).2 (t++[l])=_
  rw [words_snoc rows t]
  rfl
theorem send_snoc (rows:Rows) (t:List Nat) (s l:Nat):(send rows s (t++[l])).2=(step rows (send rows s t).2 l).2:=by rw [send_app];rfl
end Om
end
section
namespace L2
open PySem PySem.Spec PyProof.Rows
section
variable {X:Cx} {x:Str} {p pos:Pos} {e:Expr} {es:List Expr} {t:TA}
def rLenS (K:PySem.W.Frag):List V->Hp->VK->Prop:=fun vs H Q=>match vs with
 | [.ref a]=>∃ ys,SqL K H a ys/\Q (.int (ys.length:Nat)) H
 | _=>False
theorem fn_lenS {mg':Str->Option Value} (hm:mg' "len" = none) (hX:X.mg=mg') (ha:PA X (e :: es) t) (hg:gB X "len" = true:=by kernel_rfl) (he:starEach (e :: es) X.env=(false,eval e X.env) :: starEach es X.env:=by kernel_rfl) (hpl:(backTo pos (starEach es X.env)).any (·.1)=false:=by kernel_rfl) :
  PE X (.Call (.Name "len" p) (e :: es) [] pos) (tCB (rLenS X.K) t):=pe_callB (call_len_seq.of fun xs H Q q=>by
   unfold rLenS at q
   split at q
   ·obtain ⟨ys,h,q⟩:=q
    exact ⟨_,ys,rfl,.inl h,q⟩
   ·exact q.elim) (gl_of hg) (by rw [hX];exact hm) PySem.boot_len ha (he:=he) (hpl:=hpl)
def rIxS' (K:PySem.W.Frag):R2:=fun x y H Q=>match x,y with
 | .ref a,.int i=>∃ ys v,SqL K H a ys/\atI ys i=some v/\Q v H
 | _,_=>False
theorem ix_atS {a b:Expr} {ta tb:TE} (ha:PE X a ta) (hb:PE X b tb) (hs:∀ o i,subscripted b false o i=operate [o,i] (getItem o i):=by intro _ _;kernel_rfl):PE X (.Subscript a b pos) (tOp (rIxS' X.K) ta tb):=
 pe_ix (fun value slice pins s σ H x y v u Q I rx ry q hs=>ix_list value slice pins s σ H x y v u Q I rx ry (by
  unfold rIxS' at q
  split at q
  ·obtain ⟨ys,z,h1,h2,q⟩:=q
   exact ⟨_,ys,_,z,rfl,rfl,h1,h2,q⟩
  ·exact q.elim) hs) ha hb hs
end
theorem SqL.same {K:PySem.W.Frag} {H H':Hp} {a:Addr} {xs:List V} (h:SqL K H a xs) (s:Same H H'):SqL K H' a xs:=s.seq h
theorem Deck.own {F:Addr->Prop} {H:Hp} {a p:Addr} {o:HO} (h:Deck F H a) (hp:¬ F p):Deck F (upd H p o) a:=by
 obtain ⟨q,qs,n,h1,h2,h3,h4,h5,h6⟩:=h.ex
 refine ⟨q,qs,n,?_,?_,h3,h4,fun x hx=>?_,h6⟩
 ·rw [upd_ne (fun z=>hp ((h6 p).mpr (.inl z.symm)))];exact h1
 ·rw [upd_ne (fun z=>hp ((h6 p).mpr (.inr (.inl z.symm))))];exact h2
 ·obtain ⟨c,f,m,e⟩:=h5 x hx
  have np:x≠p:=fun z=>hp ((h6 p).mpr (.inr (.inr (by rw [<-z];exact hx))))
  exact ⟨c,f,m,by rw [upd_ne np];exact e⟩
end L2
end
section
namespace L2
open PySem PySem.Spec PyProof.Rows
theorem lay_all:∀ {ds:List PyData},(∀ d∈ds,d.canLay0=true)->PyData.canLayAll0 ds=true
 | [],_=>rfl
 | d :: ds,h=>by rw [PyData.canLayAll0,h d List.mem_cons_self,lay_all fun x hx=>h x (List.mem_cons_of_mem _ hx)];rfl
theorem depth_all {k:Nat}:∀ {ds:List PyData},(∀ d∈ds,d.depth<=k)->PyData.depthAll ds<=k
 | [],_=>Nat.zero_le _
 | d :: ds,h=>by
  rw [PyData.depthAll]
  exact Nat.max_le.mpr ⟨h d List.mem_cons_self,depth_all fun x hx=>h x (List.mem_cons_of_mem _ hx)⟩
theorem shaped_list {k:Nat} {ds:List PyData} (h1:∀ d∈ds,d.canLay0=true) (h2:∀ d∈ds,d.depth<=k) (hk:k < 64):SeqAt.shaped (.list ds)=true:=by
 unfold SeqAt.shaped
 rw [Bool.and_eq_true]
 refine ⟨by rw [PyData.canLay0];exact lay_all h1,decide_eq_true ?_⟩
 have:=depth_all h2
 rw [PyData.depth]
 omega
end L2
namespace L2
open PySem PySem.Spec PyProof.Rows
end L2
end
section
namespace L2
open PySem PySem.Spec PyProof.Rows
structure Sub (F:Addr->Prop) (st:Addr) (G H:Hp):Prop where
 s:Same G H
 n:G st=none
 f:∀ b,F b->G b=none
theorem ne_F {F:Addr->Prop} {b p:Addr} (hb:F b) (hp:¬ F p):b≠p:=fun z=>hp (by rw [<-z];exact hb)
section
variable {F:Addr->Prop} {st p:Addr} {G H H':Hp} {o:HO}
theorem Sub.off (h:Sub F st G H) (k:Off F H H'):Sub F st G H':=⟨fun b u e=>k b u (h.s b u e) (fun z=>by rw [h.f b z] at e;cases e),h.n,h.f⟩
theorem Sub.more (h:Sub F st G H) (hp:H p=none):Sub F st G (upd H p o):=⟨h.s.trans (Same.upd hp),h.n,h.f⟩
theorem Sub.write (h:Sub F st G H):Sub F st G (upd H st o):=⟨fun b u e=>by rw [upd_ne (ne_of_none e h.n)];exact h.s b u e,h.n,h.f⟩
theorem Sub.new (h:Sub F st G H) (hp:H p=none) (hst:st≠p) (hF:¬ F p):Sub F st (upd G p o) (upd H p o):=by
 refine ⟨fun b u e=>?_,by rw [upd_ne hst];exact h.n,fun b hb=>by rw [upd_ne (ne_F hb hF)];exact h.f b hb⟩
 by_cases hb:b=p
 ·subst hb
  rw [upd_same] at e ⊢
  exact e
 ·rw [upd_ne hb] at e ⊢
  exact h.s b u e
theorem Sub.free (h:Sub F st G H) (hp:H p=none):G p=none:=h.s.free hp
theorem Off.free (h:Off F H H') {a:Addr} (d:Deck F H' a) (hp:H' p=none):H p=none:=by
 cases e:H p with
 | none=>rfl
 | some u=>
  by_cases hf:F p
  ·obtain ⟨o',e'⟩:=d.there hf
   rw [hp] at e';cases e'
  ·rw [h _ _ e hf] at hp;cases hp
end
end L2
end
section
namespace L2
open PySem PySem.Spec PyProof.Rows
end L2
namespace Om
section
variable {ord:List Nat} {rows:Rows} {k n:Nat}
end
end Om
end
section
namespace L2
open PySem PySem.Spec PyProof.Rows
theorem Deck.not_tup {F:Addr->Prop} {H:Hp} {a b:Addr} {xs:List V} (h:Deck F H a) (hb:H b=some (.tup xs)):¬ F b:=fun z=>by
 obtain ⟨p,qs,n,h1,h2,h3,h4,h5,h6⟩:=h.ex
 rcases (h6 b).mp z with rfl | rfl | z
 ·rw [h1] at hb;cases hb
 ·rw [h2] at hb;cases hb
 ·obtain ⟨c,f,m,e⟩:=h5 b z
  rw [e] at hb;cases hb
end L2
end
section
namespace L2
open PySem PySem.Spec PyProof.Rows
section
variable {X:Cx} {pins:List (Addr×Obj)} {σ:List (Option V)} {H:Hp} {s:Shared} {h':Heap}
end
section
variable {X:Cx} {p pos tpos:Pos} {a b:Expr} {es:List Expr} {tk:Nat}
end
end L2
end
section
namespace L2
open PySem PySem.Spec PyProof.Rows
section
variable {X:Cx} {a b c d e o:Expr} {es:List Expr} {pos apos:Pos} {ta tb tc td te to:TE}
end
abbrev At (a:Addr):Addr->Prop:=fun b=>b=a
def Sto (H:Hp) (a:Addr):Prop:=∃ g b c:Int,H a=some (.lst [.int g,.int b,.int c])
section
variable {H H' G:Hp} {a p:Addr} {o:HO}
theorem Sto.same (h:Sto H a) (k:Same H H'):Sto H' a:=let ⟨g,b,c,e⟩:=h;⟨g,b,c,k _ _ e⟩
theorem Sto.own (h:Sto H a) (hp:p≠a):Sto (upd H p o) a:=let ⟨g,b,c,e⟩:=h;⟨g,b,c,by rw [upd_ne (Ne.symm hp)];exact e⟩
theorem Sto.ne (h:Sto H a) (hp:H p=none):p≠a:=fun z=>by obtain ⟨g,b,c,e⟩:=h;rw [<-z,hp] at e;cases e
theorem Sto.new (h:Sto H a) (hp:H p=none):Sto (upd H p o) a:=h.own (h.ne hp)
theorem Off.freeS (h:Off (At a) H H') (d:Sto H' a) (hp:H' p=none):H p=none:=by
 cases e:H p with
 | none=>rfl
 | some u=>
  have hf:¬ At a p:=d.ne hp
  rw [h _ _ e hf] at hp;cases hp
theorem Same.own (h:Same G H) (hG:G p=none):Same G (L2.upd H p o):=fun b u e=>by rw [upd_ne (ne_of_none e hG)];exact h b u e
theorem Sto.tup {xs:List V} (h:Sto H a) (hp:H p=some (.tup xs)):p≠a:=fun z=>by obtain ⟨g,b,c,e⟩:=h;rw [<-z,hp] at e;cases e
end
def spTake:Sp:=fun vs H Q _=>match vs with
 | [.ref a,.int many]=>Sto H a/\0 < many/\many < 1073741824/\∀ r H',0<=r->r < many->Sto H' a->Off (At a) H H'->Q (.int r) H'
 | _=>False
end L2
end
section
namespace L2
open PySem PySem.Spec PyProof.Rows
section
variable {G H0 H H':Hp} {a p:Addr} {o:HO}
end
end L2
end
section
namespace L2
open PySem PySem.Spec PyProof.Rows
def pairD (x:Nat×Nat):PyData:=.tuple [.int (x.1:Nat),.int (x.2:Nat)]
theorem DVs.take {H:Hp}:∀ {xs:List V} {ds:List PyData} (n:Nat),DVs H xs ds->DVs H (xs.take n) (ds.take n)
 | _,_,0,_=>.nil
 | _,_,_+1,.nil=>.nil
 | _,_,n+1,.cons h r=>.cons h (DVs.take n r)
section
variable {G H0 H:Hp} {L p:Addr} {vs:List V} {o:HO}
end
end L2
end
section
namespace L2
open PySem PySem.Spec PyProof.Rows
theorem DVs.imp {H H':Hp}:∀ {xs:List V} {ds:List PyData},(∀ x d,d∈ds->DV H x d->DV H' x d)->DVs H xs ds->DVs H' xs ds
 | _,_,_,.nil=>.nil
 | _,_,f,.cons h r=>.cons (f _ _ List.mem_cons_self h) (DVs.imp (fun x d hd=>f x d (List.mem_cons_of_mem _ hd)) r)
section
variable {H H':Hp} {a l:Addr}
end
section
variable {G H H2 H3:Hp} {a T U L p:Addr} {xs ys:List Int} {vs:List V} {ps:List (Nat×Nat)} {m:Nat} {o:HO}
end
end L2
end
section
namespace Om
end Om
namespace L2
open PySem PySem.Spec PyProof.Rows
theorem bits_iff {i:Int} {k:Nat} (h0:0<=i):((Builtin.Int.intBits i:Nat):Int)<=(k:Int)↔i < 2 ^ k:=by
 constructor
 ·intro h
  unfold Builtin.Int.intBits at h
  by_cases hi:i=0
  ·subst hi
   have:(0:Nat) < 2 ^ k:=Nat.two_pow_pos k
   exact_mod_cast this
  ·have hb:(i == 0)=false:=by simpa using hi
   rw [hb] at h
   simp only [Bool.false_eq_true,if_false] at h
   have hn:i.natAbs≠0:=by omega
   have h1:Nat.log2 i.natAbs < k:=by omega
   have h2:=(Nat.log2_lt hn).mp h1
   have e:((i.natAbs:Nat):Int)=i:=by omega
   have:((i.natAbs:Nat):Int) < ((2 ^ k:Nat):Int):=by exact_mod_cast h2
   rw [e] at this
   simpa using this
 ·exact bits_le h0
end L2
end
section
namespace L2
open PySem PySem.Spec PyProof.Rows
section
variable {G H0 H:Hp} {p:Addr}
end
section
variable {G H H':Hp} {a T U p:Addr} {xs ys:List Int} {m:Nat} {o:HO}
end
end L2
end
section
namespace L2
open PySem
def DefIn (K:PySem.W.Frag) (x:Str) (st:Stmt):Prop:=∃ (f:Addr) (oc:Value) (od an:Option Addr) (osl:Array (Option Value)) (kV dc pm cd ct:Value),PySem.W.nsIn K mainGlobals x=some (some (.ref f)) ∧
 K.lookup f=some ⟨oc,od,.func (PySem.W.fnOf x x (defArgs st) (defBody st) (defScope st) .none kV dc pm an cd ct),osl⟩/\PySem.W.codeIn K cd x=true/\PySem.W.keepIn K (.ref f)=true
theorem DefIn.mk {K:PySem.W.Frag} {x:Str} {st:Stmt} {f:Addr} {oc:Value} {od an:Option Addr} {osl:Array (Option Value)} {kV dc pm cd ct:Value} (a:PySem.W.nsIn K mainGlobals x=some (some (.ref f)))
  (l:K.lookup f=some ⟨oc,od,.func (PySem.W.fnOf x x (defArgs st) (defBody st) (defScope st) .none kV dc pm an cd ct),osl⟩) (c:PySem.W.codeIn K cd x=true) (k:PySem.W.keepIn K (.ref f)=true):DefIn K x st:=⟨f,oc,od,an,osl,kV,dc,pm,cd,ct,a,l,c,k⟩
theorem DefIn.fnX {K:PySem.W.Frag} {h:Heap} {mg:Str->Option Value} {x:Str} {st:Stmt} {ps:List Str} (D:DefIn K x st) (X:K.In h) (G:h.Ns mainGlobals mg)
  (hb:∀ (kV doc pm:Value) (an:Option Addr) (cdv ct:Value) (us:List Value),us.length=ps.length->bindArgs (PySem.W.fnOf x x (defArgs st) (defBody st) (defScope st) .none kV doc pm an cdv ct) ⟨us,[]⟩=pure (ps.zip us)):FnX K mg x st ps:=by
 obtain ⟨f,oc,od,an,osl,kV,dc,pm,cd,ct,h1,h2,h3,h4⟩:=D
 have F:=fun_mk (st:=st) h2 h3 h4
 exact ⟨f,_,F,PySem.W.mg_of X G h1,F.binds hb⟩
theorem tx_mk {K:PySem.W.Frag} {x z:Str} {v:Value} {tk:Tok} (h:PySem.W.nsIn K mainGlobals x=some (some v)) (e:v = .str z tk):∃ tk,PySem.W.nsIn K mainGlobals x=some (some (.str z tk)):=⟨tk,by rw [h,e]⟩
end L2
end
section
namespace L2
open PySem PySem.Spec PyProof.Rows
def strI (i:Int):Str:=Str.ofString (toString i)
section
variable {X:Cx} {p pos:Pos} {e:Expr} {es:List Expr} {t:TA}
end
end L2
end
section
namespace L2
open PySem PySem.Spec PyProof.Rows
end L2
end
section
namespace Om
end Om
namespace L2
open PySem PySem.Spec PyProof.Rows
section
variable {F:Addr->Prop} {H0 H H':Hp} {a p:Addr} {ob:HO}
end
end L2
end
section
namespace L2
open PySem PySem.Spec PyProof.Rows
theorem cut_m1 (xs:List V) (x:V):cutV (xs++[x]) none (some (-1))=xs:=by
 unfold cutV
 have e1:HT.sIx (xs++[x]).length 0 none=0:=rfl
 have e2:HT.sIx (xs++[x]).length (xs++[x]).length (some (-1))=xs.length:=by
  unfold HT.sIx
  simp
  omega
 rw [e1,e2]
 simp
end L2
end
section
namespace Om
def par (ts:List Int) (f:Nat->Bool) (i:Nat):Bool:=ts.foldr (fun t acc=>xor (decide (0<=(i:Int) - t) && f ((i:Int) - t).toNat) acc) false
def put (x P:List Int):List Int:=(List.range x.length).map fun i=>(x.getD i 0+(if ((i:Nat):Int)∈P then 1 else 0)) % 2
section
variable {most:Int} {ts bits:List Int}
end
end Om
end
section
namespace Om
section
variable {most:Int} {ts bits:List Int}
end
end Om
namespace L2
open PySem PySem.Spec PyProof.Rows
end L2
end
section
namespace L2
open PySem PySem.Spec PyProof.Rows
section
variable {κ:Type} [DecidableEq κ]
def valV (kvs:List (κ×V)) (k:κ):Option V:=(kvs.find? fun kv=>decide (kv.1=k)).map (·.2)
def putK (kvs:List (κ×V)) (k:κ) (v:V):List (κ×V):=
 if (kvs.any fun kv=>decide (kv.1=k))=true then kvs.map (fun kv=>if kv.1=k then (kv.1,v) else kv) else kvs++[(k,v)]
def dropK (kvs:List (κ×V)) (k:κ):List (κ×V):=kvs.filter fun kv=>decide (kv.1≠k)
theorem valV_pos {p:κ×V} {r:List (κ×V)} {k:κ} (e:p.1=k):valV (p :: r) k=some p.2:=by simp [valV,List.find?_cons,e]
theorem valV_neg {p:κ×V} {r:List (κ×V)} {k:κ} (e:¬ p.1=k):valV (p :: r) k=valV r k:=by simp [valV,List.find?_cons,e]
theorem valV_any (k:κ):∀ kvs:List (κ×V),(kvs.any fun kv=>decide (kv.1=k))=(valV kvs k).isSome
 | []=>rfl
 | p :: r=>by
  rw [List.any_cons]
  by_cases e:p.1=k
  ·simp only [valV_pos e,decide_eq_true e,Bool.true_or,Option.isSome_some]
  ·rw [valV_neg e,decide_eq_false e,Bool.false_or];exact valV_any k r
theorem valV_map (k j:κ) (y:V):∀ kvs:List (κ×V),valV (kvs.map fun kv=>if kv.1=k then (kv.1,y) else kv) j=(valV kvs j).map fun x=>if j=k then y else x
 | []=>rfl
 | p :: r=>by
  have ih:=valV_map k j y r
  rw [List.map_cons]
  by_cases h:p.1=k
  ·rw [if_pos h]
   by_cases e:p.1=j
   ·rw [valV_pos (p:=(p.1,y)) e,valV_pos e,Option.map_some,if_pos (e.symm.trans h)]
   ·rw [valV_neg (p:=(p.1,y)) e,valV_neg e,ih]
  ·rw [if_neg h]
   by_cases e:p.1=j
   ·rw [valV_pos (p:=p) e,valV_pos e,Option.map_some,if_neg (fun z=>h (e.trans z))]
   ·rw [valV_neg (p:=p) e,valV_neg e,ih]
theorem valV_snoc (k j:κ) (y:V):∀ kvs:List (κ×V),valV kvs k=none->valV (kvs++[(k,y)]) j=if j=k then some y else valV kvs j
 | [],_=>by
  by_cases e:k=j
  ·rw [if_pos e.symm];exact valV_pos (p:=(k,y)) e
  ·rw [if_neg (fun z=>e z.symm)];exact valV_neg (p:=(k,y)) e
 | p :: r,hn=>by
  rw [List.cons_append]
  have hk:¬ p.1=k:=fun z=>by rw [valV_pos z] at hn;cases hn
  rw [valV_neg hk] at hn
  have ih:=valV_snoc k j y r hn
  by_cases e:p.1=j
  ·rw [valV_pos e,valV_pos e,if_neg (fun z=>hk (e.trans z))]
  ·rw [valV_neg e,valV_neg e,ih]
theorem valV_put (kvs:List (κ×V)) (k j:κ) (y:V):valV (putK kvs k y) j=if j=k then some y else valV kvs j:=by
 unfold putK
 by_cases a:(kvs.any fun kv=>decide (kv.1=k))=true
 ·rw [if_pos a,valV_map]
  rw [valV_any] at a
  by_cases e:j=k
  ·obtain ⟨x,hx⟩:=Option.isSome_iff_exists.mp a
   rw [if_pos e,e,hx,Option.map_some,if_pos rfl]
  ·rw [if_neg e]
   cases valV kvs j with
   | none=>rfl
   | some x=>rw [Option.map_some,if_neg e]
 ·rw [if_neg a]
  refine valV_snoc k j y kvs ?_
  rw [valV_any] at a
  cases q:valV kvs k with
  | none=>rfl
  | some x=>rw [q] at a;exact (a rfl).elim
theorem length_putK (kvs:List (κ×V)) (k:κ) (v:V):(putK kvs k v).length<=kvs.length+1:=by
 unfold putK
 split
 ·rw [List.length_map];omega
 ·rw [List.length_append,List.length_cons,List.length_nil];omega
theorem RelO.isSome_eq {o:Option V} {u:Option Value} (r:RelO o u):o.isSome=u.isSome:=by
 cases o with
 | none=>cases u with
  | none=>rfl
  | some _=>exact (show False from r).elim
 | some _=>cases u with
  | none=>exact (show False from r).elim
  | some _=>rfl
theorem RelO.getD {o:Option V} {u:Option Value} {d:V} {d':Value} (r:RelO o u) (rd:RelV d d'):RelV (o.getD d) (u.getD d'):=by
 cases o with
 | none=>cases u with
  | none=>exact rd
  | some _=>exact (show False from r).elim
 | some _=>cases u with
  | none=>exact (show False from r).elim
  | some _=>exact r
theorem KV.val {kvs:List (κ×V)} {vs:List (κ×Value)} (r:KV kvs vs) (k:κ):RelO (valV kvs k) (valueAt vs k):=by
 unfold KV at r
 induction r with
 | nil=>exact True.intro
 | @cons p q ps qs h t ih=>
  obtain ⟨h1,h2⟩:=h
  by_cases e:p.1=k
  ·have e':q.1=k:=h1.symm.trans e
   have b:valueAt (q :: qs) k=some q.2:=by simp [valueAt,List.find?_cons,e']
   rw [valV_pos e,b];exact h2
  ·have e':¬ q.1=k:=fun z=>e (h1.trans z)
   have b:valueAt (q :: qs) k=valueAt qs k:=by simp [valueAt,List.find?_cons,e']
   rw [valV_neg e,b];exact ih
theorem KV.any {kvs:List (κ×V)} {vs:List (κ×Value)} (r:KV kvs vs) (k:κ):(kvs.any fun kv=>decide (kv.1=k))=vs.any fun kv=>decide (kv.1=k):=by
 unfold KV at r
 induction r with
 | nil=>rfl
 | cons h t ih=>rw [List.any_cons,List.any_cons,ih,h.1]
theorem KV.repl {kvs:List (κ×V)} {vs:List (κ×Value)} (r:KV kvs vs) (k:κ) {y:V} {u:Value} (ry:RelV y u) :
  KV (kvs.map fun kv=>if kv.1=k then (kv.1,y) else kv) (vs.map fun kv=>if kv.1=k then (kv.1,u) else kv):=by
 unfold KV at r ⊢
 induction r with
 | nil=>exact .nil
 | @cons p q ps qs h t ih=>
  rw [List.map_cons,List.map_cons]
  refine .cons ?_ ih
  obtain ⟨h1,h2⟩:=h
  by_cases e:p.1=k
  ·rw [if_pos e,if_pos (h1.symm.trans e)];exact ⟨h1,ry⟩
  ·rw [if_neg e,if_neg (fun z=>e (h1.trans z))];exact ⟨h1,h2⟩
theorem KV.put {kvs:List (κ×V)} {vs:List (κ×Value)} (r:KV kvs vs) (k:κ) {y:V} {u:Value} (ry:RelV y u):KV (putK kvs k y) (stored vs k u):=by
 unfold putK stored
 rw [r.any k]
 by_cases e:(vs.any fun kv=>decide (kv.1=k))=true
 ·rw [if_pos e,if_pos e];exact r.repl k ry
 ·rw [if_neg e,if_neg e];exact Paired.snoc r ⟨rfl,ry⟩
theorem KV.drop {kvs:List (κ×V)} {vs:List (κ×Value)} (r:KV kvs vs) (k:κ):KV (dropK kvs k) (without vs k):=by
 unfold KV at r ⊢
 unfold dropK without
 induction r with
 | nil=>exact .nil
 | @cons p q ps qs h t ih=>
  obtain ⟨h1,h2⟩:=h
  rw [List.filter_cons,List.filter_cons]
  by_cases e:p.1=k
  ·have a:¬ decide (p.1≠k)=true:=by simp [e]
   have b:¬ decide (q.1≠k)=true:=by simp [h1.symm.trans e]
   rw [if_neg a,if_neg b];exact ih
  ·have e':¬ q.1=k:=fun z=>e (h1.trans z)
   have a:decide (p.1≠k)=true:=by simp [e]
   have b:decide (q.1≠k)=true:=by simp [e']
   rw [if_pos a,if_pos b];exact .cons ⟨h1,h2⟩ ih
theorem KV.keys {kvs:List (κ×V)} {vs:List (κ×Value)} (r:KV kvs vs):kvs.map (·.1)=vs.map (·.1):=by
 unfold KV at r
 induction r with
 | nil=>rfl
 | cons h t ih=>rw [List.map_cons,List.map_cons,ih,h.1]
theorem KV.length {kvs:List (κ×V)} {vs:List (κ×Value)} (r:KV kvs vs):kvs.length=vs.length:=Paired.length r
end
theorem kV_is {P:Program} {w:World} {k:Key} {u:Value} (r:RelV (kV k) u):(mixKind P w).is k u=true:=by
 cases k with
 | inl i=>obtain ⟨t,e⟩:=(show ∃ t,u=Value.int i t from r);subst e;exact mixKind_int P w i t
 | inr x=>obtain ⟨t,e⟩:=(show ∃ t,u=Value.str x t from r);subst e;exact mixKind_str P w x t
theorem items_are {P:Program} {w:World}:∀ {ks:List Key} {us:List Value},Vals (ks.map kV) us->ItemsAre (mixKind P w) ks us
 | [],_,r=>by rw [List.map_nil] at r;cases r;exact .nil
 | k :: ks,_,r=>by
  rw [List.map_cons] at r
  cases r with
  | cons h t=>exact .cons (kV_is h) (items_are t)
abbrev KT (H:Hp):List (List Key×V)->List (List Key×Addr×Value)->Prop:=Paired fun p q=>p.1=q.1/\H q.2.1=some (.tup (p.1.map kV))/\RelV p.2 q.2.2
theorem KT.val {H:Hp} {kvs:List (List Key×V)} {xs:List (List Key×Addr×Value)} (r:KT H kvs xs) (k:List Key):RelO (valV kvs k) ((atKey xs k).map (·.2)):=by
 induction r with
 | nil=>exact True.intro
 | @cons p q ps qs h t ih=>
  obtain ⟨h1,_,h2⟩:=h
  by_cases e:p.1=k
  ·have e':q.1=k:=h1.symm.trans e
   have b:atKey (q :: qs) k=some q.2:=by simp [atKey,List.find?_cons,e']
   rw [valV_pos e,b];exact h2
  ·have e':¬ q.1=k:=fun z=>e (h1.trans z)
   have b:atKey (q :: qs) k=atKey qs k:=by simp [atKey,List.find?_cons,e']
   rw [valV_neg e,b];exact ih
theorem KT.repl {H:Hp} {kvs:List (List Key×V)} {xs:List (List Key×Addr×Value)} (r:KT H kvs xs) (k:List Key) {y:V} {u:Value} (ry:RelV y u) :
  KT H (kvs.map fun kv=>if kv.1=k then (kv.1,y) else kv) (xs.map (putAt k u)):=by
 induction r with
 | nil=>exact .nil
 | @cons p q ps qs h t ih=>
  rw [List.map_cons,List.map_cons]
  refine .cons ?_ ih
  obtain ⟨h1,h2,h3⟩:=h
  unfold putAt
  by_cases e:p.1=k
  ·rw [if_pos e,if_pos (h1.symm.trans e)];exact ⟨h1,h2,ry⟩
  ·rw [if_neg e,if_neg (fun z=>e (h1.trans z))];exact ⟨h1,h2,h3⟩
theorem KT.put {H:Hp} {kvs:List (List Key×V)} {xs:List (List Key×Addr×Value)} (r:KT H kvs xs) (k:List Key) {b:Addr} {y:V} {u:Value} (hb:H b=some (.tup (k.map kV))) (ry:RelV y u) :
  KT H (putK kvs k y) (storedH xs k b u):=by
 have e:(kvs.any fun kv=>decide (kv.1=k))=(atKey xs k).isSome:=by
  rw [valV_any,(r.val k).isSome_eq,Option.isSome_map]
 unfold putK storedH
 rw [e]
 by_cases q:(atKey xs k).isSome=true
 ·rw [if_pos q,if_pos q];exact r.repl k ry
 ·rw [if_neg q,if_neg q];exact Paired.snoc r ⟨rfl,hb,ry⟩
theorem KT.keeps {H H':Hp} {kvs:List (List Key×V)} {xs:List (List Key×Addr×Value)} (r:KT H kvs xs) (ht:∀ b ys,H b=some (.tup ys)->H' b=some (.tup ys)):KT H' kvs xs:=
 Paired.mapP r fun _ _ z=>⟨z.1,ht _ _ z.2.1,z.2.2⟩
section
variable {P:Program} {w:World} {H:Hp} {h:Heap} {a:Addr}
theorem rd_of {u:HO} (ok:HOk P w H h) (e:Rd H a u):ObjOk P w H h a u:=e.ok ok
theorem dk_rd {kvs:List (Key×V)} (ok:HOk P w H h) (e:Rd H a (.dK kvs)):kvs.length<=sizeLine/\(a == sysModules)=false/\∃ vs,KV kvs vs/\h.DictOf (mixKind P w) a vs:=
 show ObjOk P w H h a (.dK kvs) from rd_of ok e
theorem dk_of {kvs:List (Key×V)} (ok:HOk P w H h) (e:H a=some (.dK kvs)):kvs.length<=sizeLine/\(a == sysModules)=false/\∃ vs,KV kvs vs/\h.DictOf (mixKind P w) a vs:=dk_rd ok (.inl e)
theorem key_of {ks:List Key} (ok:HOk P w H h) (e:H a=some (.tup (ks.map kV))):(tupleKind (mixKind P w)).is h ks a:=by
 obtain ⟨_,its,r,o,h1,h2,n,h3⟩:=(show ObjOk P w H h a (.tup (ks.map kV)) from ok a _ e)
 exact ⟨o,its.toArray,n,h1,h2,h3,by simpa using items_are r⟩
theorem dt_rd {kvs:List (List Key×V)} (ok:HOk P w H h) (e:Rd H a (.dT kvs)):kvs.length<=sizeLine/\(a == sysModules)=false ∧
  ∃ xs,KT H kvs xs/\h.DictOfH (tupleKind (mixKind P w)) a xs:=by
 obtain ⟨z,y,xs,r,o,es,ep,h1,h2,h3,h4,h5⟩:=(show ObjOk P w H h a (.dT kvs) from rd_of ok e)
 refine ⟨z,y,xs,r,o,es,ep,h1,h2,h3,h4,fun x hx=>?_,h5⟩
 have all:∀ {l:List (List Key×V)} {m:List (List Key×Addr×Value)},KT H l m->∀ x∈m,(tupleKind (mixKind P w)).is h x.1 x.2.1:=by
  intro l m q
  induction q with
  | nil=>intro x hx;exact nomatch hx
  | @cons p q ps qs hq t ih=>
   intro x hx
   rcases List.mem_cons.mp hx with e | hx
   ·subst e
    exact key_of ok (by rw [<-hq.1];exact hq.2.1)
   ·exact ih x hx
 exact all r x hx
theorem dt_of {kvs:List (List Key×V)} (ok:HOk P w H h) (e:H a=some (.dT kvs)):kvs.length<=sizeLine/\(a == sysModules)=false ∧
  ∃ xs,KT H kvs xs/\h.DictOfH (tupleKind (mixKind P w)) a xs:=dt_rd ok (.inl e)
end
def DGet (H:Hp) (a:Addr) (y:V) (r:Option V):Prop:=
 (∃ kvs k,Rd H a (.dK kvs)/\y=kV k/\r=valV kvs k)\/∃ kvs k b,Rd H a (.dT kvs)/\y = .ref b/\H b=some (.tup (k.map kV))/\r=valV kvs k
def DPut (H:Hp) (a:Addr) (y v:V) (H':Hp):Prop:=
 (∃ kvs k,H a=some (.dK kvs)/\y=kV k/\kvs.length < sizeLine/\H'=upd H a (.dK (putK kvs k v))) ∨
 ∃ kvs k b,H a=some (.dT kvs)/\y = .ref b/\H b=some (.tup (k.map kV))/\kvs.length < sizeLine/\H'=upd H a (.dT (putK kvs k v))
theorem DGet.k {H:Hp} {a:Addr} {kvs:List (Key×V)} {k:Key} (e:H a=some (.dK kvs)):DGet H a (kV k) (valV kvs k):=.inl ⟨kvs,k,.inl e,rfl,rfl⟩
theorem DGet.t {H:Hp} {a b:Addr} {kvs:List (List Key×V)} {k:List Key} (e:H a=some (.dT kvs)) (eb:H b=some (.tup (k.map kV))):DGet H a (.ref b) (valV kvs k):=.inr ⟨kvs,k,b,.inl e,rfl,eb,rfl⟩
theorem DPut.k {H:Hp} {a:Addr} {kvs:List (Key×V)} {k:Key} {v:V} (e:H a=some (.dK kvs)) (hl:kvs.length < sizeLine):DPut H a (kV k) v (upd H a (.dK (putK kvs k v))):=.inl ⟨kvs,k,e,rfl,hl,rfl⟩
theorem DPut.t {H:Hp} {a b:Addr} {kvs:List (List Key×V)} {k:List Key} {v:V} (e:H a=some (.dT kvs)) (eb:H b=some (.tup (k.map kV))) (hl:kvs.length < sizeLine) :
  DPut H a (.ref b) v (upd H a (.dT (putK kvs k v))):=.inr ⟨kvs,k,b,e,rfl,eb,hl,rfl⟩
section
variable {X:Cx} {pins:List (Addr×Obj)} {σ:St} {H:Hp} {s:Shared} {a:Addr} {y v:V} {u r:Value} {o:Option V} {A:Around} {E:Value->Shared->Prop}
theorem Inv.big (I:Inv X pins σ H s):sysModules < s.heap.objs.size:=by
 have h:mainGlobals < s.heap.objs.size:=(I.mod.glob.keeps I.bk).lt
 exact Nat.lt_trans (by decide) h
theorem d_getItem {Q:Value->Shared->Prop} (hu:A.units+1 < cLine) (I:Inv X pins σ H s) (g:DGet H a y (some v)) (ry:RelV y u) (h:∀ w' s',Inv X pins σ H s'->RelV v w'->Q w' s') :
  wpAny (model X.prog X.w) A (getItem (.ref a) u) Q E s:=by
 rcases g with ⟨kvs,k,e,ey,l⟩ | ⟨kvs,k,b,e,ey,eb,l⟩
 ·subst ey
  obtain ⟨z,hd,vs,rel,dd⟩:=dk_rd I.hok e
  obtain ⟨w',hw,rw'⟩:=RelO.some_of (v:=v) (o:=valueAt vs k) (by rw [l];exact rel.val k)
  exact wpAny_getItem_of (kV_is ry) dd.mapOf hw (h w' _ (I.tok _) rw')
 ·subst ey
  cases (show u=Value.ref b from ry)
  obtain ⟨z,hd,xs,rel,dd⟩:=dt_rd I.hok e
  obtain ⟨w',hw,rw'⟩:=RelO.some_of (v:=v) (o:=(atKey xs k).map (·.2)) (by rw [l];exact rel.val k)
  obtain ⟨p,hp,hp2⟩:=Option.map_eq_some_iff.mp hw
  refine wpAny_getItem_heap (tupleKind_room_in1 hu) (key_of I.hok eb) dd hp ?_
  rw [hp2]
  exact h w' _ (I.tok _) rw'
theorem d_notIn {Q:Value->Shared->Prop} (hu:A.units+1 < cLine) (I:Inv X pins σ H s) (g:DGet H a y o) (ry:RelV y u) (h:∀ s',Inv X pins σ H s'->Q (.bool (!o.isSome)) s') :
  wpAny (model X.prog X.w) A (compareOp .NotIn u (.ref a)) Q E s:=by
 rcases g with ⟨kvs,k,e,ey,l⟩ | ⟨kvs,k,b,e,ey,eb,l⟩
 ·subst ey
  obtain ⟨z,hd,vs,rel,dd⟩:=dk_rd I.hok e
  refine wpAny_notIn_of (kV_is ry) hd dd.mapOf ?_
  rw [<-(rel.val k).isSome_eq,<-l]
  exact h _ (I.tok _)
 ·subst ey
  cases (show u=Value.ref b from ry)
  obtain ⟨z,hd,xs,rel,dd⟩:=dt_rd I.hok e
  refine wpAny_notIn_heap (tupleKind_room_in1 hu) (key_of I.hok eb) hd dd ?_
  have q:=(rel.val k).isSome_eq
  rw [Option.isSome_map] at q
  rw [<-q,<-l]
  exact h _ (I.tok _)
theorem d_write {h':Heap} {t':Nat} {ob:HO} (I:Inv X pins σ H s) (mu:Mut (H a)) (hs:Heap.SameBut a s.heap h') (he:∃ q,h'.get? a=some q) (new:ObjOk X.prog X.w (upd H a ob) h' a ob) :
  Inv X pins σ (upd H a ob) { s with heap:=h',toks:=t' }:=
 I.write (x:=a) (e:=a) mu (.inl rfl) (fun b q hb z=>(hs.2 b hb).trans z) he new
theorem dk_new {P:Program} {w:World} {H':Hp} {h':Heap} {kvs:List (Key×V)} {vs:List (Key×Value)} (z:kvs.length<=sizeLine) (hd:(a == sysModules)=false) (rel:KV kvs vs) (dd:h'.DictOf (mixKind P w) a vs) :
  ObjOk P w H' h' a (.dK kvs):=⟨z,hd,vs,rel,dd⟩
theorem d_setItem {H':Hp} {Q:Unit->Shared->Prop} (hu:A.units+1 < cLine) (I:Inv X pins σ H s) (g:DPut H a y v H') (ry:RelV y u) (rv:RelV v r) (h:∀ s',Inv X pins σ H' s'->Q () s') :
  wpAny (model X.prog X.w) A (setItem (.ref a) u r) Q E s:=by
 rcases g with ⟨kvs,k,e,ey,l,eH⟩ | ⟨kvs,k,b,e,ey,eb,l,eH⟩
 ·subst ey eH
  obtain ⟨z,hd,vs,rel,dd⟩:=dk_of I.hok e
  have hz:vs.length<=sizeLine:=by rw [<-rel.length];exact z
  have hl:(putK kvs k v).length<=sizeLine:=by have:=length_putK kvs k v;omega
  refine wpAny_setItem_pairs (hsz:=hz) (kV_is ry) dd fun h' dd' hs=>h _ ?_
  have he:∃ q,h'.get? a=some q:=let ⟨q,_,_,hq,_⟩:=dd';⟨q,hq⟩
  exact d_write I (by rw [e];exact True.intro) hs he (dk_new hl hd (rel.put k rv) dd')
 ·subst ey eH
  cases (show u=Value.ref b from ry)
  obtain ⟨z,hd,xs,rel,dd⟩:=dt_of I.hok e
  have hz:xs.length<=sizeLine:=by rw [<-Paired.length rel];exact z
  have hl:(putK kvs k v).length<=sizeLine:=by have:=length_putK kvs k v;omega
  refine wpAny_setItem_heap (hsz:=hz) (tupleKind_room_in1 hu) (key_of I.hok eb) dd fun h' dd' hs=>h _ ?_
  obtain ⟨q,es,ep,hq,h2,h3,h4,_,h5⟩:=dd'
  refine d_write I (by rw [e];exact True.intro) hs ⟨q,hq⟩ ⟨hl,hd,_,(rel.put k eb rv).keeps fun c ys ec=>?_,q,es,ep,hq,h2,h3,h4,h5⟩
  rw [upd_ne (ne_of ec e (fun z=>nomatch z))]
  exact ec
end
section
variable {X:Cx} {pins:List (Addr×Obj)} {σ:St} {H:Hp} {s:Shared} {a:Addr} {kvs:List (Key×V)} {k:Key} {u:Value} {A:Around} {E:Value->Shared->Prop}
end
theorem dict_typeIs {X:Cx} {pins:List (Addr×Obj)} {σ:St} {H:Hp} {s:Shared} {a:Addr} {y:V} {o:Option V} (I:Inv X pins σ H s) (g:DGet H a y o):s.TypeIs (.ref a) "dict" := by
 rcases g with ⟨kvs,k,e,_,_⟩ | ⟨kvs,k,b,e,_,_,_⟩
 ·obtain ⟨_,_,vs,_,dd⟩:=dk_rd I.hok e
  exact dd.typeIs
 ·obtain ⟨_,_,xs,_,dd⟩:=dt_rd I.hok e
  exact dd.typeIs
section
variable {X:Cx} {o i e value:Expr} {pos pos' tpos:Pos} {td ty tv:TE}
end
theorem dk_empty {P:Program} {w:World} {H:Hp} (h:Heap) (hb:sysModules < h.objs.size):ObjOk P w H (h.push { cls:=.type "dict",data:=.dict #[] }) h.objs.size (.dK []):=
 ⟨Nat.zero_le _,beq_eq_false_iff_ne.mpr (Ne.symm (Nat.ne_of_lt hb)),[],.nil,Heap.DictOf.new h⟩
def tDNewK:TE:=fun _ H Q=>∀ p,H p=none->Q (.ref p) (upd H p (.dK []))
section
variable {X:Cx} {pos:Pos}
theorem pe_dnewK:PE X (.Dict [] [] pos) tDNewK:=fun pins s σ H Q I h=>
 wpAny_Dict_empty ⟨.ref s.heap.objs.size,_,I.laid (a:=s.heap.objs.size) (o:=.dK []) (t':=s.toks) (fun _ _ q=>Heap.get?_push_of_some _ q) (Nat.le_refl _) (dk_empty s.heap I.big),rfl,h _ (I.hok.fresh (Nat.le_refl _))⟩
end
section
variable {X:Cx} {pins:List (Addr×Obj)} {σ:St} {H:Hp} {s:Shared} {a:Addr} {y d:V} {u r:Value} {o:Option V} {A:Around} {E:Value->Shared->Prop}
end
section
variable {X:Cx} {o e f:Expr} {apos cpos:Pos} {td ty tx:TE}
end
section
variable {X:Cx} {pins:List (Addr×Obj)} {σ:St} {H:Hp} {s:Shared} {a:Addr} {kvs:List (Key×V)} {A:Around} {E:Value->Shared->Prop}
end
section
variable {X:Cx} {pins:List (Addr×Obj)} {σ:St} {H:Hp} {s:Shared} {a:Addr} {y:V} {u:Value} {A:Around} {E:Value->Shared->Prop}
end
end L2
end
section
namespace L2
open PySem PySem.Spec PyProof.Rows
def tyD:PyData->String
 | .none=>"NoneType"
 | .bool _=>"bool"
 | .int _=>"int"
 | .str _=>"str"
 | .list _=>"list"
 | .tuple _=>"tuple"
 | .dict _=>"dict"
theorem DV.ty {H:Hp} {v:V} {d:PyData} (h:DV H v d):tyN H v=some (tyD d):=by
 cases h with
 | non=>rfl
 | bl b=>rfl
 | int i=>rfl
 | str x=>rfl
 | lst e _=>simp [tyN,e,tyD]
 | tup e _=>simp [tyN,e,tyD]
 | dic e=>simp [tyN,e,tyD]
mutual
def smallD:PyData->Bool
 | .str z=>decide (z.length<=1000)
 | .list xs=>decide (xs.length<=1000) && smallAllD xs
 | .tuple xs=>decide (xs.length<=1000) && smallAllD xs
 | _=>true
def smallAllD:List PyData->Bool
 | []=>true
 | d :: ds=>smallD d && smallAllD ds
end
theorem smallAll_iff:∀ {ds:List PyData},smallAllD ds=true↔∀ d∈ds,smallD d=true
 | []=>by simp [smallAllD]
 | d :: ds=>by rw [smallAllD,Bool.and_eq_true,smallAll_iff];simp
theorem small_list {ds:List PyData} (h:smallD (.list ds)=true):ds.length<=1000/\∀ d∈ds,smallD d=true:=by
 rw [smallD,Bool.and_eq_true,decide_eq_true_eq,smallAll_iff] at h;exact h
theorem small_tup {ds:List PyData} (h:smallD (.tuple ds)=true):ds.length<=1000/\∀ d∈ds,smallD d=true:=by
 rw [smallD,Bool.and_eq_true,decide_eq_true_eq,smallAll_iff] at h;exact h
theorem str_small {z:Str} (h:smallD (.str z)=true):z.length<=1000:=by rw [smallD,decide_eq_true_eq] at h;exact h
def leafV:V->Prop
 | .non | .bl _ | .int _ | .str _=>True
 | _=>False
mutual
inductive Tw (H:Hp):Nat->V->V->Prop
 | leaf {n:Nat} {x:V}:leafV x->Tw H n x x
 | dic {n:Nat} {a:Addr}:H a=some (.dK [])->Tw H n (.ref a) (.ref a)
 | lst {n:Nat} {a b:Addr} {xs ys:List V}:H a=some (.lst xs)->H b=some (.lst ys)->Tws H n xs ys->Tw H (n+1) (.ref a) (.ref b)
 | tup {n:Nat} {a b:Addr} {xs ys:List V}:H a=some (.tup xs)->H b=some (.tup ys)->Tws H n xs ys->Tw H (n+1) (.ref a) (.ref b)
inductive Tws (H:Hp):Nat->List V->List V->Prop
 | nil {n:Nat}:Tws H n [] []
 | cons {n:Nat} {x y:V} {xs ys:List V}:Tw H n x y->Tws H n xs ys->Tws H n (x :: xs) (y :: ys)
end
mutual
theorem Tw.mono {H H':Hp} (k:Same H H'):∀ {n:Nat} {x y:V},Tw H n x y->Tw H' n x y
 | _,_,_,.leaf h=>.leaf h
 | _,_,_,.dic h=>.dic (k _ _ h)
 | _,_,_,.lst h h' r=>.lst (k _ _ h) (k _ _ h') (Tws.mono k r)
 | _,_,_,.tup h h' r=>.tup (k _ _ h) (k _ _ h') (Tws.mono k r)
theorem Tws.mono {H H':Hp} (k:Same H H'):∀ {n:Nat} {xs ys:List V},Tws H n xs ys->Tws H' n xs ys
 | _,_,_,.nil=>.nil
 | _,_,_,.cons h r=>.cons (Tw.mono k h) (Tws.mono k r)
end
theorem Tws.length {H:Hp}:∀ {n:Nat} {xs ys:List V},Tws H n xs ys->xs.length=ys.length
 | _,_,_,.nil=>rfl
 | _,_,_,.cons _ r=>by rw [List.length_cons,List.length_cons,r.length]
theorem Tws.app {H:Hp}:∀ {n:Nat} {xs ys xs' ys':List V},Tws H n xs ys->Tws H n xs' ys'->Tws H n (xs++xs') (ys++ys')
 | _,_,_,_,_,.nil,k=>k
 | _,_,_,_,_,.cons h r,k=>.cons h (Tws.app r k)
theorem Tws.get {H:Hp}:∀ {n:Nat} {xs ys:List V} {j:Nat} {x y:V},Tws H n xs ys->xs[j]? = some x->ys[j]? = some y->Tw H n x y
 | _,_,_,0,_,_,.cons h _,e,e'=>by simp at e e';subst e;subst e';exact h
 | _,_,_,j+1,_,_,.cons _ r,e,e'=>Tws.get r (by simpa using e) (by simpa using e')
section
variable {X:Cx} {pins:List (Addr×Obj)} {σ:St} {H:Hp} {s:Shared} {A:Around}
end
section
variable {X:Cx}
end
end L2
end
section
namespace L2
open PySem PySem.Spec PyProof.Rows
namespace Om
def whole:PyData->Bool
 | .int _=>true
 | _=>false
def within (d:PyData) (a b:Int):Bool:=match d with
 | .int i=>decide (a<=i) && decide (i<=b)
 | _=>false
def wordOk (d:PyData) (n:Int):Bool:=match d with
 | .str z=>decide ((z.length:Int)=n) && decide (Txt.stripChars z ("01" : Str)=("" : Str))
 | _=>false
def rowOk (d:PyData) (n count:Int):Bool:=match d with
 | .tuple [x,y]=>wordOk x n && within y 0 (count - 1)
 | _=>false
def stateOk (d:PyData) (k:Nat) (n count:Int):Bool:=match d with
 | .list rs=>decide (rs.length=2 ^ k) && rs.all fun r=>rowOk r n count
 | _=>false
def intOf:PyData->Int
 | .int i=>i
 | _=>0
def codeOk (d:PyData):Bool:=match d with
 | .tuple [x,y,.list ss]=>within x 1 3 && (within y 1 6 && (decide (1<=ss.length/\ss.length<=8) && ss.all fun s=>stateOk s (intOf x).toNat (intOf y) (ss.length:Nat)))
 | _=>false
theorem within_inv {d:PyData} {a b:Int} (h:within d a b=true):∃ i,d = .int i/\a<=i/\i<=b:=by
 unfold within at h
 split at h
 ·rw [Bool.and_eq_true,decide_eq_true_eq,decide_eq_true_eq] at h;exact ⟨_,rfl,h⟩
 ·exact nomatch h
end Om
def spWholeD:Sp:=fun vs H Q _=>match vs with
 | [v]=>∃ d,DV H v d/\Q (.bl (Om.whole d)) H
 | _=>False
def spWithinD:Sp:=fun vs H Q _=>match vs with
 | [v,.int a,.int b]=>∃ d,DV H v d/\Q (.bl (Om.within d a b)) H
 | _=>False
def spWordD:Sp:=fun vs H Q _=>match vs with
 | [v,.int n]=>∃ d,DV H v d/\smallD d=true/\Q (.bl (Om.wordOk d n)) H
 | _=>False
def spRowD:Sp:=fun vs H Q _=>match vs with
 | [v,.int n,.int count]=>∃ d,DV H v d/\smallD d=true/\Q (.bl (Om.rowOk d n count)) H
 | _=>False
def spStateD:Sp:=fun vs H Q _=>match vs with
 | [v,.int k,.int n,.int count]=>∃ d,DV H v d/\smallD d=true/\1<=k/\k<=3/\∀ H',Same H H'->Q (.bl (Om.stateOk d k.toNat n count)) H'
 | _=>False
def spCodeD:Sp:=fun vs H Q _=>match vs with
 | [v]=>∃ d,DV H v d/\smallD d=true/\∀ H',Same H H'->Q (.bl (Om.codeOk d)) H'
 | _=>False
theorem lenStr {H:Hp} {z:Str} (hz:z.length<=sizeLine):lenV H (.str z)=some z.length:=by
 unfold lenV
 first | exact if_pos hz | simp [hz] | rfl
theorem iteN {c:Bool} {A B:Prop} (hc:c=false) (h:B):if c=true then A else B:=by rw [hc];exact h
theorem DVs.one_inv {H:Hp} {xs:List V} {d:PyData} {ds:List PyData} (h:DVs H xs (d :: ds)):∃ x r,xs=x :: r/\DV H x d/\DVs H r ds:=by
 cases h with
 | cons h r=>exact ⟨_,_,rfl,h,r⟩
theorem DVs.nil_inv {H:Hp} {xs:List V} (h:DVs H xs []):xs=[]:=by cases h;rfl
end L2
end
section
namespace L2
open PySem PySem.Spec PyProof.Rows
section
variable {X:Cx} {p pos:Pos} {e:Expr} {es:List Expr} {t:TA}
end
def fits:Nat->PyData->Bool
 | 0,_=>false
 | n+1,.list ds=>ds.all (fits n)
 | n+1,.tuple ds=>ds.all (fits n)
 | _+1,_=>true
end L2
end
section
namespace L2
open PySem PySem.Spec PyProof.Rows
section
variable {prog:Program} {w:World} {A:Around} {E:Value->Shared->Prop} {s:Shared}
theorem keyIter {d:Addr} {ep:Nat} {od:Obj} {es:Array DictEntry} {Q:Value->Shared->Prop} (hd:(d == sysModules)=false) (hT:s.TypeIs (.ref d) "dict") (ho:s.heap.get? d=some od) (hdat:od.data = .dict es ep)
  (hQ:Q (.ref s.heap.objs.size) { s with heap:=s.heap.push { cls:=.type "dict_keyiterator",data:=.fields #[.ref d,.int 0 0,.int es.size 0,.int ep 0] } }):wpAny (model prog w) A (pyIter (.ref d)) Q E s:=by
 refine wpAny_pyIter_slot hT F.slot_dict_iter (wpAny_call_entry F.slot_dict_iter hT F.entry_dict_iter ?_ (F.args_dict_iter_1 _))
 unfold Builtin.«dict.__iter__» Builtin.Dict.dictSlotNone
 refine wpAny_bind (wpAny_bind (wpAny_notOrdered_dict hT ?_))
 refine wpAny_pure ?_
 show wpAny _ _ (Builtin.Dict.showsAll d >>= _) _ _ s
 unfold Builtin.Dict.showsAll
 rw [if_neg (by rw [hd];exact Bool.false_ne_true)]
 refine wpAny_bind (wpAny_pure (wpAny_bind (wpAny_dictEntries ho hdat (wpAny_bind (wpAny_dictEpoch ho hdat ?_)))))
 refine wpAny_bind (wpAny_newObj_type (wpAny_pure ⟨_,rfl,"dict_keyiterator",_,⟨_,Heap.get?_push_size _ rfl,rfl⟩,F.slot_dict_keyiterator_next.lookup,?_⟩))
 simpa [rawInt] using hQ
theorem keyNext {it d:Addr} {i ep:Nat} {od:Obj} {es:Array DictEntry} {e:DictEntry} {Q:Option Value->Shared->Prop} (hit:s.heap.IsKeyIter it d i es.size ep) (hod:s.heap.get? d=some od) (hdd:od.data = .dict es ep) (he:es[i]? = some e)
  (hQ:∀ h',h'.IsKeyIter it d (i+1) es.size ep->Heap.SameBut it s.heap h'->Q (some e.key) { s with heap:=h' }):wpAny (model prog w) A (pyNext (.ref it)) Q E s:=by
 obtain ⟨o,ho,hc,hd⟩:=id hit
 unfold pyNext
 refine wpAny_bind (wpAny_attempt (wpAny_callSpecial?_slot (name:=Str.ofString "__next__") hit.typeIs F.slot_dict_keyiterator_next
  (wpAny_call_entry F.slot_dict_keyiterator_next hit.typeIs F.entry_dict_keyiterator_next ?_ (F.args_dict_keyiterator_next_1 _))))
 refine wpAny_bind (wpAny_pure (wpAny_bind (wpAny_bind ?_)))
 first | refine wpAny_bind (wpAny_typeNameOfWhole_keyiter hit.typeIs (wpAny_pure ?_)) | refine wpAny_bind (wpAny_typeNameOf_keyiter hit.typeIs (wpAny_pure ?_))
 refine wpAny_bind (wpAny_fieldsOf ho hd ?_)
 simp only [show Builtin.Dict_items.ownsTuple "dict_keyiterator" = false from by decide,Bool.false_eq_true,if_false]
 show wpAny _ _ (if (Value.ref d == Value.none)=true then _ else _) _ _ s
 rw [if_neg (show ¬ ((Value.ref d == Value.none)=true) from Bool.false_ne_true)]
 refine wpAny_bind (wpAny_pure (wpAny_bind (wpAny_dictEntries hod hdd ?_)))
 rw [if_neg (by simp)]
 refine wpAny_bind (wpAny_pure (wpAny_bind (wpAny_dictEpoch hod hdd ?_)))
 rw [if_neg (by simp)]
 refine wpAny_pure ?_
 simp only [show ¬ ((i:Int) < 0) from by omega,if_false,Int.toNat_natCast,he]
 refine wpAny_bind ?_
 first | refine wpAny_bind (wpAny_typeNameOfWhole_keyiter hit.typeIs (wpAny_pure ?_)) | refine wpAny_bind (wpAny_typeNameOf_keyiter hit.typeIs (wpAny_pure ?_))
 refine wpAny_bind (wpAny_isOneOf_keyiter hit.typeIs ?_)
 show wpAny _ _ (setField (.ref it) 1 (rawInt ((i:Int)+1)) >>= _) _ _ s
 refine wpAny_bind (wpAny_setField ho hd (by simp) ?_)
 have hit':(s.heap.update it (Obj.mapFields (·.setIfInBounds 1 (rawInt ((i:Int)+1))))).IsKeyIter it d (i+1) es.size ep:=
  ⟨_,Heap.get?_update_self _ ho (Obj.isFreed_of_fields (Obj.data_mapFields hd _)),(Obj.cls_mapFields ..).trans hc,by rw [Obj.data_mapFields hd];simp [rawInt]⟩
 refine wpAny_bind (wpAny_holding ?_)
 refine wpAny_bind (wpAny_isOneOf_keyiter (s:={ s with heap:=s.heap.update it (Obj.mapFields (·.setIfInBounds 1 (rawInt ((i:Int)+1)))) }) hit'.typeIs ?_)
 show wpAny _ _ (pure e.key) _ _ _
 exact wpAny_pure (wpAny_pure ⟨_,rfl,wpAny_pure (hQ _ hit' (Heap.SameBut.update ..))⟩)
theorem keyEnd {it d:Addr} {i ep:Nat} {od:Obj} {es:Array DictEntry} {Q:Option Value->Shared->Prop} (hh:A.handled=none) (hit:s.heap.IsKeyIter it d i es.size ep) (hod:s.heap.get? d=some od) (hdd:od.data = .dict es ep) (hge:es.size<=i)
  (hQ:∀ h',Heap.ExtBut it s.heap h'->Q none { s with heap:=h' }):wpAny (model prog w) A (pyNext (.ref it)) Q E s:=by
 obtain ⟨o,ho,hc,hd⟩:=id hit
 unfold pyNext
 refine wpAny_bind (wpAny_attempt (wpAny_callSpecial?_slot (name:=Str.ofString "__next__") hit.typeIs F.slot_dict_keyiterator_next
  (wpAny_call_entry F.slot_dict_keyiterator_next hit.typeIs F.entry_dict_keyiterator_next ?_ (F.args_dict_keyiterator_next_1 _))))
 refine wpAny_bind (wpAny_pure (wpAny_bind (wpAny_bind ?_)))
 first | refine wpAny_bind (wpAny_typeNameOfWhole_keyiter hit.typeIs (wpAny_pure ?_)) | refine wpAny_bind (wpAny_typeNameOf_keyiter hit.typeIs (wpAny_pure ?_))
 refine wpAny_bind (wpAny_fieldsOf ho hd ?_)
 simp only [show Builtin.Dict_items.ownsTuple "dict_keyiterator" = false from by decide,Bool.false_eq_true,if_false]
 show wpAny _ _ (if (Value.ref d == Value.none)=true then _ else _) _ _ s
 rw [if_neg (show ¬ ((Value.ref d == Value.none)=true) from Bool.false_ne_true)]
 refine wpAny_bind (wpAny_pure (wpAny_bind (wpAny_dictEntries hod hdd ?_)))
 rw [if_neg (by simp)]
 refine wpAny_bind (wpAny_pure (wpAny_bind (wpAny_dictEpoch hod hdd ?_)))
 rw [if_neg (by simp)]
 refine wpAny_pure ?_
 simp only [show ¬ ((i:Int) < 0) from by omega,if_false,Int.toNat_natCast,Array.getElem?_eq_none hge]
 refine wpAny_bind ?_
 first | refine wpAny_bind (wpAny_typeNameOfWhole_keyiter hit.typeIs (wpAny_pure ?_)) | refine wpAny_bind (wpAny_typeNameOf_keyiter hit.typeIs (wpAny_pure ?_))
 show wpAny _ _ (setField (.ref it) 0 .none >>= _) _ _ s
 refine wpAny_bind (wpAny_setField ho hd (by simp) ?_)
 show wpAny _ _ (newExc (.type "StopIteration") [] >>= _) _ _ _
 refine wpAny_bind ?_
 simp only [newExc,newTuple]
 refine wpAny_bind (wpAny_newObj_type ?_ (by size_fits))
 refine wpAny_bind (m:=firstArgMember _ _) (wpAny_of_eq (a:=Value.none) (by first | rfl | (simp only [firstArgMember];rfl)) ?_)
 refine wpAny_newObj_type ?_ (by size_fits)
 simp only [raiseNew]
 refine wpAny_bind (wpAny_handled ?_)
 rw [show A.in1.handled=none from hh]
 refine wpAny_bind (wpAny_pure (wpAny_throw ?_))
 refine wpAny_bind (wpAny_isInstance (T:= "StopIteration") (b:=true) ⟨_,Heap.get?_push_size _ rfl,rfl⟩ isSubtype_stop ?_)
 exact wpAny_pure (hQ _ (((Heap.SameBut.update ..).extBut.push _).push _))
end
end L2
end
section
namespace L2
open PySem PySem.Spec PyProof.Rows
section
variable {X:Cx} {pins:List (Addr×Obj)} {σ:St} {H:Hp} {s:Shared} {a:Addr} {u:HO} {o:Obj}
theorem Inv.freeze (I:Inv X pins σ H s) (e:H a=some u) (mu:Mut (some u)) (ho:s.heap.get? a=some o):Inv X pins σ (upd H a (.frz o u)) s:=by
 have nown:∀ c y,H c=some (.own y)->c≠a:=fun c y r z=>by subst z;rw [r] at e;cases e;exact mu
 have ntup:∀ c xs,H c=some (.tup xs)->c≠a:=fun c xs r z=>by subst z;rw [r] at e;cases e;exact mu
 exact I.write (t':=s.toks) (h':=s.heap) (x:=a) (e:=a) (by rw [e];exact mu) (.inl rfl) (fun _ _ _ q=>q) ⟨o,ho⟩
  ⟨ho,(I.hok a u e).stay (fun _ _ _ q=>q) (fun b q=>by rw [upd_ne (nown b a q)];exact q) fun b xs q=>by rw [upd_ne (ntup b xs q)];exact q⟩
theorem Inv.frozen (I:Inv X pins σ H s) (e:H a=some (.frz o u)):s.heap.get? a=some o:=(I.hok a _ e).1
theorem Inv.obj (I:Inv X pins σ H s) (e:H a=some u):∃ o,s.heap.get? a=some o:=by
 have l:=(I.hok a u e).lt
 cases u with
 | lst xs=>obtain ⟨_,_,_,_,q⟩:=I.hok a _ e;exact ⟨_,q⟩
 | dK kvs=>obtain ⟨_,_,_,_,o,_,_,q,_⟩:=I.hok a _ e;exact ⟨_,q⟩
 | dT kvs=>obtain ⟨_,_,_,_,o,_,_,q,_⟩:=I.hok a _ e;exact ⟨_,q⟩
 | tup xs=>obtain ⟨_,_,_,o,q,_⟩:=I.hok a _ e;exact ⟨_,q⟩
 | set S n=>obtain ⟨o,_,_,_,q,_⟩:=I.hok a _ e;exact ⟨_,q⟩
 | ins C dx fs=>obtain ⟨_,_,_,q,_⟩:=I.hok a _ e;exact ⟨_,q⟩
 | own y=>obtain ⟨_,q⟩:=I.hok a _ e;exact ⟨_,q⟩
 | xd fs=>obtain ⟨_,⟨_,_,_,q,_⟩,_⟩:=I.hok a _ e;exact ⟨_,q⟩
 | rng lo hi=>obtain ⟨_,_,_,q⟩:=I.hok a _ e;exact ⟨_,q⟩
 | frz ob u=>obtain ⟨q,_⟩:=I.hok a _ e;exact ⟨_,q⟩
 | tbl ps=>exact ⟨_,I.hok a _ e⟩
 | met f y=>exact ⟨_,I.hok a _ e⟩
 | ext φ=>obtain ⟨_,q,_⟩:=I.hok a _ e;exact q
end
section
variable {X:Cx} {e:Expr} {te:TE} {pos:Pos}
end
def Itk (a:Addr) (o:Obj) (xs:List V):It:=
 ⟨fun i H=>i < xs.length/\∃ u,H a=some (.frz o u),fun i H x H'=>H'=H/\xs[i]? = some x,fun i H=>xs.length<=i/\∃ u,H a=some (.frz o u)⟩
theorem it_keys (a:Addr) (o:Obj) (xs:List V):ItOk (Itk a o xs) xs fun H=>∃ u,H a=some (.frz o u):=
 ⟨fun _ h=>⟨Nat.le_refl _,h⟩,fun _ _ h hi=>⟨hi,h⟩,fun _ _ _ _ _ _ y=>y⟩
theorem turn_keys {P:Program} {w:World} {K:PySem.W.Frag} {tg:Expr} {a it:Addr} {o:Obj} {es:Array DictEntry} {ep:Nat} {xs:List V} (hd:o.data = .dict es ep) (rel:Vals xs (es.toList.map (·.key))) :
  Turn P w K tg (Itk a o xs) [it] it (fun i h=>h.IsKeyIter it a i es.size ep) where
 mem:=by simp
 obj:=fun i h st b hb=>by
  have e:b=it:=by simpa using hb
  subst e
  obtain ⟨o,e,c,d⟩:=st
  exact ⟨o,e,fun v z=>by rw [d] at z;cases z⟩
 keep:=fun i h h' st k=>st.at fun o e=>k it (by simp) o e
 item:=by
  intro X hP hw hK hc i pins s σ H E I hf st hg
  subst hP hw hK
  obtain ⟨hi,u,hu⟩:=hg
  have hx:xs[i]? = some xs[i]:=by simp [hi]
  obtain ⟨v,hv,rv⟩:=rel.get hx
  obtain ⟨e,he,ev⟩ : ∃ e,es[i]? = some e/\e.key=v:=by
   rw [List.getElem?_map] at hv
   obtain ⟨e,h1,h2⟩:=Option.map_eq_some_iff.mp hv
   exact ⟨e,by simpa using h1,h2⟩
  obtain ⟨f0,f1,f2,f3,f4,f5⟩:=hf it (by simp)
  refine keyNext st (I.frozen hu) hd he fun h' st' sb=>?_
  have I1:Inv X pins σ H { s with heap:=h' }:=I.turned (t':=s.toks) (fun b o hb e=>(sb.2 b hb).trans e) f0 f1 f3 f4 f5
  refine ⟨e.key,rfl,letGo_keyiter st' ⟨xs[i],H,I1,by rw [ev];exact rv,⟨rfl,hx⟩,st',fun b hb=>(hf b hb).1⟩⟩
 done:=by
  intro X hP hw hK hc i pins s σ H E I hf st hg
  subst hP hw hK
  obtain ⟨hi,u,hu⟩:=hg
  have hl:es.size<=i:=by
   have:=rel.length
   simp at this
   omega
  obtain ⟨f0,f1,f2,f3,f4,f5⟩:=hf it (by simp)
  exact keyEnd (I.ok.hd hc) st (I.frozen hu) hd hl fun h' eb=>⟨rfl,I.turned (t':=s.toks) (fun b o hb e=>eb b o hb e) f0 f1 f3 f4 f5⟩
 self:=fun _ _ _ _ _ st h=>wpAny_pyIter_keyiter st h
section
variable {X:Cx} {tg:Expr}
theorem keys_mix {P:Program} {w:World} {kvs:List (Key×V)}:∀ {es:List DictEntry} {vs:List (Key×Value)},KV kvs vs->Pairs (mixKind P w) es vs->Vals (kvs.map fun p=>kV p.1) (es.map (·.key)):=by
 intro es vs r q
 unfold KV at r
 induction r generalizing es with
 | nil=>cases q;exact .nil
 | @cons p v ps vs' h t ih=>
  cases q with
  | cons h1 h2 h3=>
   refine .cons ?_ (ih h3)
   dsimp only
   rw [h.1]
   rcases keyIs_shape h1 with ⟨i,t,e1,e2⟩ | ⟨x,t,e1,e2⟩
   ·rw [e1,e2];exact ⟨t,rfl⟩
   ·rw [e1,e2];exact ⟨t,rfl⟩
end
end L2
end
section
namespace L2
open PySem PySem.Spec PyProof.Rows
section
variable {X:Cx} {pos:Pos}
def rDGet:R2:=fun x y H Q=>∃ a v,x = .ref a/\DGet H a y (some v)/\Q v H
def rDNotIn:R2:=fun y x H Q=>∃ a o,x = .ref a/\DGet H a y o/\Q (.bl (!o.isSome)) H
def rDPut:V->V->V->Hp->(Hp->Prop)->Prop:=fun o i v H Q=>∃ a H',o = .ref a/\DPut H a i v H'/\Q H'
theorem ix_dict (hu:X.A.units+64 < cLine):IxR X rDGet:=by
 intro value slice pins s σ H x y v u Q I rx ry ⟨a,z,ex,g,q⟩ hs
 subst ex
 obtain rfl:v=Value.ref a:=rx
 have hT:=dict_typeIs I g
 unfold subscriptTail
 refine wpAny_bind ?_
 rw [getitemInPython_of_ne hT.not_modules]
 refine wpAny_bind (wpAny_specialOf hT PySem.F.slot_dict_getitem.lookup ?_)
 have fin:wpAny (model X.prog X.w) X.A (subscripted slice false (.ref a) u) (fun r s₃=>wpAny (model X.prog X.w) X.A (letTemporaryGo value (.ref a) r >>= fun _=>pure r) (EP X pins σ Q) X.xe s₃) X.xe s:=by
  rw [hs]
  exact wpAny_operating (d_getItem (by omega) I g ry fun w' s3 I3 rw'=>wpAny_bind (wpAny_letTemporaryGo (wpAny_pure ⟨z,H,I3,rw',q⟩)))
 first
  | exact wpAny_pure (wpAny_bind fin)
  | exact wpAny_bind (wpAny_pure (wpAny_bind fin))
  | exact wpAny_bind fin
theorem op_notInDict (hu:X.A.units+64 < cLine):OpR X (compareOp .NotIn) rDNotIn:=by
 intro pins s σ H y x u v Q I ry rx ⟨a,o,ex,g,q⟩
 subst ex
 obtain rfl:v=Value.ref a:=rx
 exact d_notIn (by omega) I g ry fun s3 I3=>⟨.bl (!o.isSome),H,I3,rfl,q⟩
theorem set_dict (hu:X.A.units+64 < cLine):PSet X rDPut:=by
 intro pins s σ H o i v ov iv u Q I ro ri rv ⟨a,H',eo,g,q⟩
 subst eo
 obtain rfl:ov=Value.ref a:=ro
 exact d_setItem (by omega) I g ri rv fun s4 I4=>⟨H',I4,q⟩
def rIxD:R2:=fun x y H Q=>rIxU x y H Q\/rDGet x y H Q
def rSetD:V->V->V->Hp->(Hp->Prop)->Prop:=fun o i v H Q=>rSetU o i v H Q\/rDPut o i v H Q
theorem ix_atD {a b:Expr} {ta tb:TE} (hu:X.A.units+64 < cLine) (ha:PE X a ta) (hb:PE X b tb) (hs:∀ o i,subscripted b false o i=operate [o,i] (getItem o i):=by intro _ _;kernel_rfl):PE X (.Subscript a b pos) (tOp rIxD ta tb):=
 pe_ix (ixU.or (ix_dict hu)) ha hb hs
theorem g_subD {o i:Expr} {to ti:TE} (hu:X.A.units+64 < cLine) (ho:PE X o to) (hi:PE X i ti) (ha:∀ v,assign (.Subscript o i pos) X.env v=(do
   let ov <-holding [v] (eval o X.env)
   let iv <-holding [v,ov] (eval i X.env)
   standAt pos
   holding [v,ov,iv] (setItem ov iv v)
   release [v,ov,iv] []):=by intro _;kernel_rfl):PG X (.Subscript o i pos) (gSub to ti rSetD):=
 pg_sub ho hi (fun pins s σ H o i v ov iv u Q I ro ri rv q=>by
  rcases q with q | q
  ·exact setU pins s σ H o i v ov iv u Q I ro ri rv q
  ·exact set_dict hu pins s σ H o i v ov iv u Q I ro ri rv q) ha
end
section
variable {prog:Program} {w:World} {A:Around} {E:Value->Shared->Prop} {s:Shared}
end
section
variable {X:Cx} {pins:List (Addr×Obj)} {σ:St} {H:Hp} {s:Shared} {a:Addr} {A:Around} {E:Value->Shared->Prop}
end
section
variable {X:Cx} {pos:Pos}
end
section
variable {X:Cx} {o e:Expr} {es:List Expr} {to:TE} {t:TA} {apos:Pos}
end
end L2
end
section
namespace L2
open PySem PySem.Spec PyProof.Rows
section
variable {X:Cx} {p pos:Pos} {a b e:Expr} {es:List Expr} {t:TA}
end
end L2
namespace Om
end Om
end
section
namespace Om
abbrev Stp:=(Nat×Nat)×(Nat×Nat)
def St (rows:Rows) (x y:Nat) (s:Stp):Prop:=
 s.1.1 < (rows.getD x []).length/\s.1.2 < (rows.getD y []).length/\(step rows x s.1.1).1=(step rows y s.1.2).1/\s.2=((step rows x s.1.1).2,(step rows y s.1.2).2)
inductive Pth (rows:Rows):Nat->List Nat->List Bool->Nat->Prop
 | nil {s:Nat}:s < rows.length->Pth rows 0 [] [] s
 | snoc {m:Nat} {t:List Nat} {w:List Bool} {p i:Nat}:Pth rows m t w p->i < (rows.getD p []).length->Pth rows (m+1) (t++[i]) (w++(step rows p i).1) (step rows p i).2
section
variable {k n:Nat} {rows:Rows}
def Clash (rows:Rows) (b m:Nat) (x y:Nat):Prop:=∃ t t' w,Pth rows m t w x/\Pth rows m t' w y/\t.getD b 0≠t'.getD b 0
end
end Om
end
section
namespace L2
open PySem PySem.Spec PyProof.Rows
def kk (p:Nat×Nat):List Key:=[.inl ((p.1:Nat):Int),.inl ((p.2:Nat):Int)]
section
variable {ks:List (Nat×Nat)} {kvs:List (List Key×V)} {p:Nat×Nat} {v:V}
end
def sD (s:Om.Stp):PyData:=.tuple [pairD s.1,pairD s.2]
section
variable {G H0 H:Hp} {D p:Addr} {kvs:List (List Key×V)} {o:HO}
end
end L2
end
section
namespace L2
open PySem PySem.Spec PyProof.Rows
section
variable {X:Cx} {a:Expr} {p pos:Pos} {ta:TA}
end
end L2
end
section
namespace L2
open PySem PySem.Spec PyProof.Rows
structure Lt (H H':Hp):Prop where
 l:∀ a xs,H a=some (.lst xs)->H' a=some (.lst xs)
 t:∀ a xs,H a=some (.tup xs)->H' a=some (.tup xs)
 d:∀ a,H a=some (.dK [])->H' a=some (.dK [])
mutual
theorem DV.lt {H H':Hp} (k:Lt H H'):∀ {v:V} {d:PyData},DV H v d->DV H' v d
 | _,_,.non=>.non
 | _,_,.bl b=>.bl b
 | _,_,.int i=>.int i
 | _,_,.str x=>.str x
 | _,_,.lst h r=>.lst (k.l _ _ h) (DVs.lt k r)
 | _,_,.tup h r=>.tup (k.t _ _ h) (DVs.lt k r)
 | _,_,.dic h=>.dic (k.d _ h)
theorem DVs.lt {H H':Hp} (k:Lt H H'):∀ {vs:List V} {ds:List PyData},DVs H vs ds->DVs H' vs ds
 | _,_,.nil=>.nil
 | _,_,.cons h r=>.cons (DV.lt k h) (DVs.lt k r)
end
theorem Lt.but {H G:Hp} {D:Addr} {kvs:List (List Key×V)} (hD:H D=some (.dT kvs)) (h:∀ x,x≠D->G x=H x):Lt H G:=
 ⟨fun a xs e=>by rw [h a (ne_of e hD (fun z=>nomatch z))];exact e,fun a xs e=>by rw [h a (ne_of e hD (fun z=>nomatch z))];exact e,fun a e=>by rw [h a (ne_of e hD (fun z=>nomatch z))];exact e⟩
end L2
end
section
namespace Om
abbrev Rw:=List Nat×List Bool×Nat
def ext (rows:Rows) (r:Rw):List Rw:=(List.range (rows.getD r.2.2 []).length).map fun l=>(r.1++[l],r.2.1++(step rows r.2.2 l).1,(step rows r.2.2 l).2)
section
variable {k n:Nat} {rows:Rows}
end
end Om
namespace L2
open PySem PySem.Spec PyProof.Rows
end L2
end
section
namespace L2
open PySem PySem.Spec PyProof.Rows
section
variable {prog:Program} {w:World} {A:Around} {E:Value->Shared->Prop} {s:Shared}
theorem walksKeys (hh:A.handled=none) (I d:Addr) (hne:d≠I) {od:Obj} {es:Array DictEntry} {ep:Nat} (hdat:od.data = .dict es ep) :
  Walks prog w A I [I,d] [I] es.size (fun i v=>∃ e,es[i]? = some e/\v=e.key) (fun i h=>h.IsKeyIter I d i es.size ep/\h.get? d=some od) where
 sub:=fun b hb=>by simp at hb;simp [hb]
 frame:=fun _ _ _ st hk=>⟨st.1.at fun o e=>hk I (by simp) o e,hk d (by simp) _ st.2⟩
 item:=fun i s Q E hi st hQ=>by
  have he:es[i]? = some es[i]:=by simp [hi]
  refine keyNext st.1 st.2 hdat he fun h' hit' hs'=>?_
  exact hQ _ h' s.toks ⟨_,he,rfl⟩ ⟨hit',hs'.extBut d _ hne st.2⟩ fun b o hb e=>hs'.extBut b o (fun h=>hb (by simp [h])) e
 done:=fun s Q E st hQ=>keyEnd hh st.1 st.2 hdat (Nat.le_refl _) fun h' he'=>hQ h' s.toks fun b o hb e=>he' b o (fun h=>hb (by simp [h])) e
 self:=fun _ _ _ _ st hQ=>wpAny_pyIter_keyiter st.1 hQ
theorem hint_dict {d:Addr} {Q:Bool->Shared->Prop} (hT:s.TypeIs (.ref d) "dict") (h:Q false s):wpAny (model prog w) A (Builtin.List.listLengthHint (.ref d)) Q E s:=by
 unfold Builtin.List.listLengthHint
 refine wpAny_bind (wpAny_specialOf hT F.slot_dict_len.lookup ?_)
 generalize hid:("dict.__len__" : String)=id0
 wp_delta
 rw [show splitId id0=some ("dict","__len__") from by subst hid;decide +kernel]
 subst hid
 refine wpAny_bind (wpAny_isInstance (T:= "dict") (b:=true) hT (by rw [isSubtype_type];kernel_rfl) ?_)
 refine wpAny_ite_split (fun hab=>absurd hab (by decide)) (fun _=>?_)
 refine wpAny_ite_split (fun _=>?_) (fun hab=>absurd (by decide +kernel) hab)
 refine wpAny_bind (wpAny_typeOf (T:= "dict") hT ?_)
 exact wpAny_pure h
theorem extend_dict {R:Result->Shared->Prop} {d:Addr} {od:Obj} {es:Array DictEntry} {ep:Nat} (hh:A.handled=none) (hd:(d == sysModules)=false) (hT:s.TypeIs (.ref d) "dict") (ho:s.heap.get? d=some od) (hdat:od.data = .dict es ep) (hlen:es.size<=sizeLine) (S:Addr) (res:Value) (c₀:Nat) (hS:s.heap.get? S=some { cls:=.type "list",data:=.seq #[] c₀ })
  (hR:∀ h' tk acc' c',(∀ b o,b≠S->s.heap.get? b=some o->h'.get? b=some o)->h'.get? S=some { cls:=.type "list",dict:=none,data:=.seq acc' c',slots:=#[] } →
   ItemsOf (fun i v=>∃ e,es[i]? = some e/\v=e.key) acc' es.size->R (.ok (.ret res)) { s with heap:=h',toks:=tk }) :
  wpAny (model prog w) A.in1 (Builtin.List.listExtendWith (.ref S) (.ref d) res)
   (fun fin s'=>match fin with | .done f=>R (.ok f) s' | .again c'=>c'.quiet=true/\codeAny (model prog w) A c' R s') (fun e s'=>R (.error e) s') s:=by
 have hSr:S≠d:=fun e=>by rw [e,ho] at hS;cases hS;cases hdat
 have hSlt:S < s.heap.objs.size:=Heap.lt_size hS
 have hSI:S≠s.heap.objs.size:=Nat.ne_of_lt hSlt
 have hdI:d≠s.heap.objs.size:=Nat.ne_of_lt (Heap.lt_size ho)
 have hSf:S ∉ [s.heap.objs.size,d]:=fun hm=>by simp at hm;rcases hm with h | h;exact hSI h;exact hSr h
 have W:=(walksKeys (prog:=prog) (w:=w) (A:=A.in1) hh s.heap.objs.size d hdI hdat).toS
 unfold Builtin.List.listExtendWith
 refine wpAny_bind (wpAny_typeOf (T:= "dict") hT ?_)
 have h1:Builtin.List.listSameRef (.ref S) (.ref d)=false:=by simp [Builtin.List.listSameRef,hSr]
 have h2:(Value.type "dict" == Value.type "list")=false:=by decide
 have h3:(Value.type "dict" == Value.type "tuple")=false:=by decide
 simp only [h1,h2,h3,Bool.or_false,Bool.false_eq_true,if_false]
 refine wpAny_bind (keyIter hd hT ho hdat ?_)
 have hT1:(⟨s.heap.push { cls:=.type "dict_keyiterator",data:=.fields #[.ref d,.int 0 0,.int es.size 0,.int ep 0] },s.gens,s.drawn,s.toks,s.os⟩ : Shared).TypeIs (.ref d) "dict" := by
  obtain ⟨o,e1,e2⟩:=hT
  exact ⟨o,Heap.get?_push_of_some _ e1,e2⟩
 refine wpAny_bind (wpAny_holding (hint_dict hT1 ?_))
 have hit₁:(s.heap.push { cls:=.type "dict_keyiterator",data:=.fields #[.ref d,.int 0 0,.int es.size 0,.int ep 0] }).IsKeyIter s.heap.objs.size d 0 es.size ep:=⟨_,Heap.get?_push_size _ rfl,rfl,rfl⟩
 have hS₁:=Heap.get?_push_of_some { cls:=.type "dict_keyiterator",data:=.fields #[.ref d,.int 0 0,.int es.size 0,.int ep 0] } hS
 have hd₁:=Heap.get?_push_of_some { cls:=.type "dict_keyiterator",data:=.fields #[.ref d,.int 0 0,.int es.size 0,.int ep 0] } ho
 have key:∀ (h:Heap) (c₁ tk:Nat),h.IsKeyIter s.heap.objs.size d 0 es.size ep->h.get? d=some od->(∀ b o,b≠S->s.heap.get? b=some o->h.get? b=some o) →
   h.get? S=some { cls:=.type "list",data:=.seq #[] c₁ }->codeAny (model prog w) A (.builtin "list.extend.loop" ⟨[.ref S,.ref s.heap.objs.size,res],[]⟩) R { s with heap:=h,toks:=tk }:=by
  intro h c₁ tk hit hdd hk hS₁
  refine codeAny_extend_loopS W hlen S hSf res es.size 0 _ #[] c₁ rfl (Nat.zero_le _) ⟨hit,hdd⟩ hS₁ (ItemsOf.nil _) fun s' acc' c' hm hS' hacc=>?_
  rw [Moved.eq_with hm]
  refine hR s'.heap s'.toks acc' c' (fun b o hb e=>hm.heap b o (fun hmem=>?_) (hk b o hb e)) hS' hacc
  rcases List.mem_cons.mp hmem with e' | hmem
  ·exact hb e'
  ·exact absurd (Heap.lt_size e) (by rw [List.mem_singleton.mp hmem];exact Nat.lt_irrefl _)
 refine wpAny_ite_split (fun _=>?_) (fun _=>wpAny_pure ⟨plainId_quiet F.plain_extend_loop _,key _ c₀ _ hit₁ hd₁ (fun b o _ e=>Heap.get?_push_of_some _ e) hS₁⟩)
 refine wpAny_bind (wpAny_rule ?_)
 refine wpAny_bind ?_
 show wpAny _ _ (updateSeq S (·.push .none) >>= fun _=>updateSeq S (·.pop)) _ _ _
 refine wpAny_bind (wpAny_updateSeq hS₁ rfl ?_)
 have hS₂:=Heap.get?_update_self (Obj.mapSeq (·.push Value.none)) hS₁ rfl
 refine wpAny_updateSeq (hz:=by seq_fits) hS₂ rfl ?_
 have hS₃:=Heap.get?_update_self (Obj.mapSeq (·.pop)) hS₂ rfl
 refine wpAny_pure ⟨plainId_quiet F.plain_extend_loop _,key _ _ _ ?_ ?_ (fun b o hb e=>?_) hS₃⟩
 ·exact hit₁.at fun o e=>(Heap.get?_update_other _ _ hSI).trans ((Heap.get?_update_other _ _ hSI).trans e)
 ·exact (Heap.get?_update_other _ _ hSr).trans ((Heap.get?_update_other _ _ hSr).trans hd₁)
 ·exact (Heap.get?_update_other _ _ (Ne.symm hb)).trans ((Heap.get?_update_other _ _ (Ne.symm hb)).trans (Heap.get?_push_of_some _ e))
end
end L2
end
section
namespace L2
open PySem PySem.Spec PyProof.Rows
section
variable {X:Cx} {p pos:Pos}
theorem items_keys {es:Array DictEntry} {acc:Array Value} {xs:List V} (h:ItemsOf (fun i v=>∃ e,es[i]? = some e/\v=e.key) acc es.size) (r:Vals xs (es.toList.map (·.key))):Vals xs acc.toList:=by
 have:acc.toList=es.toList.map (·.key):=by
  apply List.ext_getElem?
  intro i
  rw [List.getElem?_map]
  by_cases hi:i < es.size
  ·have hi':i < acc.size:=by rw [h.1];exact hi
   obtain ⟨e,e1,e2⟩:=h.2 i acc[i] (by simp [hi'])
   have e3:es.toList[i]? = some e:=by simpa using e1
   rw [e3]
   simp [hi',e2]
  ·have:¬ i < acc.size:=by rw [h.1];exact hi
   simp [Nat.le_of_not_lt hi,Nat.le_of_not_lt this]
 rw [this];exact r
end
section
variable {prog:Program} {w:World} {A:Around} {E:Value->Shared->Prop} {s:Shared}
end
end L2
end
section
namespace L2
open PySem PySem.Spec PyProof.Rows
section
variable {X:Cx} {p pos:Pos}
open Classical in
noncomputable def eqT (H:Hp) (k:List Key) (u:Value):Bool:=match u with
 | .ref c=>decide (H c=some (.tup (k.map kV)))
 | _=>false
open Classical in
theorem any_eqT {H:Hp} {k:List Key}:∀ {xs:List V} {us:List Value},Vals xs us->(∀ v∈xs,∃ (c:Addr) (k':List Key),v = .ref c/\H c=some (.tup (k'.map kV)))->(us.any (eqT H k)=true↔∃ c,V.ref c∈xs/\H c=some (.tup (k.map kV)))
 | _,_,.nil,_=>by simp
 | y :: xs,u :: us,.cons r t,f=>by
  obtain ⟨c,k',rfl,hc⟩:=f y List.mem_cons_self
  cases r
  rw [List.any_cons,Bool.or_eq_true,any_eqT t (fun v hv=>f v (List.mem_cons_of_mem _ hv))]
  have e0:eqT H k (.ref c)=true↔H c=some (.tup (k.map kV)):=by unfold eqT;dsimp only;exact (by classical exact decide_eq_true_iff)
  rw [e0]
  constructor
  ·rintro (h | ⟨d,h1,h2⟩)
   ·exact ⟨c,List.mem_cons_self,h⟩
   ·exact ⟨d,List.mem_cons_of_mem _ h1,h2⟩
  ·rintro ⟨d,h1,h2⟩
   rcases List.mem_cons.mp h1 with e | h1
   ·injection e with e;subst e;exact .inl h2
   ·exact .inr ⟨d,h1,h2⟩
end
end L2
end
section
namespace Om
def Win (rows:Rows) (b a:Nat):Prop:=∀ x y,¬ Clash rows b (b+1+a) x y
open Classical in
noncomputable def wf (rows:Rows) (p:Nat×Nat):Bool:=decide (Win rows p.1 p.2)
open Classical in
theorem wf_iff {rows:Rows} {p:Nat×Nat}:wf rows p=true↔Win rows p.1 p.2:=by unfold wf;exact decide_eq_true_iff
end Om
namespace L2
open PySem PySem.Spec PyProof.Rows
theorem e_gint {X:Cx} {pos:Pos} {x:Str} {z:Int} {mg':Str->Option Value} (hm:∃ tk,mg' x=some (.int z tk)) (hX:X.mg=mg') (hg:gB X x=true:=by kernel_rfl) (hd:(x == ("__debug__" : Str))=false:=by kernel_rfl):PE X (.Name x pos) (tC (.int z)):=by
 obtain ⟨tk,hm⟩:=hm
 exact pe_glob (gl_of hg) (by rw [hX];exact hm) ⟨tk,rfl⟩ hd
theorem nx_mk {K:PySem.W.Frag} {x:Str} {z:Int} {v:Value} {tk:Tok} (h:PySem.W.nsIn K mainGlobals x=some (some v)) (e:v = .int z tk):∃ tk,PySem.W.nsIn K mainGlobals x=some (some (.int z tk)):=⟨tk,by rw [h,e]⟩
end L2
end
section
namespace L2
open PySem PySem.Spec PyProof.Rows
section
variable {prog:Program} {w:World} {A:Around} {E:Value->Shared->Prop} {s:Shared}
end
section
variable {X:Cx} {p pos:Pos}
end
section
variable {G H0 H:Hp} {D q:Addr} {kvs:List (List Key×V)} {ks:List (Nat×Nat)} {c:Nat} {E:Nat×Nat->Om.Stp->Prop} {o:HO}
end
end L2
namespace Om
end Om
end
section
namespace L2
open PySem PySem.Spec PyProof.Rows
section
variable {prog:Program} {w:World} {A:Around} {E:Value->Shared->Prop} {s:Shared}
theorem iadd_dict {R:Result->Shared->Prop} {d:Addr} {od:Obj} {es:Array DictEntry} {ep:Nat} (hh:A.handled=none) (hd:(d == sysModules)=false) (hT:s.TypeIs (.ref d) "dict") (ho:s.heap.get? d=some od) (hdat:od.data = .dict es ep) (hlen:es.size<=sizeLine) (S:Addr) (c₀:Nat) (hS:s.heap.get? S=some { cls:=.type "list",data:=.seq #[] c₀ })
  (hR:∀ h' tk acc' c',(∀ b o,b≠S->s.heap.get? b=some o->h'.get? b=some o)->h'.get? S=some { cls:=.type "list",dict:=none,data:=.seq acc' c',slots:=#[] } →
   ItemsOf (fun i v=>∃ e,es[i]? = some e/\v=e.key) acc' es.size->R (.ok (.ret (.ref S))) { s with heap:=h',toks:=tk }) :
  codeAny (model prog w) A (.builtin "list.__iadd__" ⟨[.ref S,.ref d],[]⟩) R s:=by
 refine codeAny_builtin entry_list_iadd' ?_
 rw [Around.under_plainId (by decide +kernel) _]
 exact extend_dict hh hd hT ho hdat hlen S (.ref S) c₀ hS hR
theorem collect_dict {d:Addr} {od:Obj} {es:Array DictEntry} {ep:Nat} {Q:List Value->Shared->Prop} (hh:A.handled=none) (hd:(d == sysModules)=false) (hT:s.TypeIs (.ref d) "dict") (ho:s.heap.get? d=some od) (hdat:od.data = .dict es ep) (hlen:es.size<=sizeLine)
  (h:∀ (h':Heap) (tk:Tok) (acc:Array Value),(∀ b o,s.heap.get? b=some o->h'.get? b=some o)->s.heap.objs.size < h'.objs.size->ItemsOf (fun i v=>∃ e,es[i]? = some e/\v=e.key) acc es.size->Q acc.toList { s with heap:=h',toks:=tk }) :
  wpAny (model prog w) A (collect (.ref d)) Q E s:=by
 unfold collect
 refine wpAny_bind (wpAny_runValue (codeAny_builtin entry_proto_collect' ?_))
 show wpAny _ _ (do again (.builtin "list.__iadd__" ⟨[<-newList [],.ref d],[]⟩)) _ _ s
 refine wpAny_bind (wpAny_newList (wpAny_pure ⟨Code.quiet_builtin _ (by decide +kernel),?_⟩))
 have hT':(⟨s.heap.push (seqObj "list" #[] 0),s.gens,s.drawn,s.toks,s.os⟩ : Shared).TypeIs (.ref d) "dict" := by
  obtain ⟨o,e1,e2⟩:=hT
  exact ⟨o,Heap.get?_push_of_some _ e1,e2⟩
 refine iadd_dict hh hd hT' (Heap.get?_push_of_some _ ho) hdat hlen s.heap.objs.size 0 (Heap.get?_push_size _ rfl) fun h' tk acc' c' hk hS' hacc=>?_
 show wpAny (model prog w) A (do
   let o <-load s.heap.objs.size
   match o.data with
   | .seq xs _=>pure xs.toList
   | _=>unsupported "internal:collect") Q E { s with heap:=h',toks:=tk }
 refine wpAny_bind (wpAny_load hS' ?_)
 exact wpAny_pure (h h' tk acc' (fun b o e=>hk b o (Nat.ne_of_lt (Heap.lt_size e)) (Heap.get?_push_of_some _ e)) (Heap.lt_size hS') hacc)
end
section
variable {X:Cx} {p pos:Pos}
end
end L2
end
section
namespace L2
open PySem PySem.Spec PyProof.Rows
section
variable {X:Cx} {p pos p2:Pos} {a b e st:Expr} {es:List Expr} {t:TA} {te:TE} {ts:TO}
end
section
variable {H H':Hp} {n:Nat} {v:V} {a:Addr} {xs:List V}
end
noncomputable def wo (F:Addr->Prop) (H:Hp):Hp:=fun b=>@ite _ (F b) (Classical.propDecidable _) none (H b)
section
variable {F:Addr->Prop} {H H':Hp} {b:Addr} {o:HO}
theorem wo_at (h:H b=some o) (n:¬ F b):wo F H b=some o:=by
 unfold wo
 rw [if_neg n];exact h
theorem wo_inv (h:wo F H b=some o):¬ F b/\H b=some o:=by
 unfold wo at h
 by_cases c:F b
 ·rw [if_pos c] at h;cases h
 ·rw [if_neg c] at h;exact ⟨c,h⟩
theorem Off.wo (h:Off F H H'):Same (wo F H) (wo F H'):=fun b o e=>let ⟨n,e⟩:=wo_inv e;wo_at (h b o e n) n
theorem Same.wo (h:Same H H'):Same (wo F H) (wo F H'):=fun b o e=>let ⟨n,e⟩:=wo_inv e;wo_at (h b o e) n
end
end L2
end
section
namespace L2
open PySem PySem.Spec PyProof.Rows
def tEmp:TE:=fun _ H Q=>∀ d,H d=none->Q (.ref d) (upd H d (.dK []))
theorem e_dict {X:Cx} {pos:Pos}:PE X (.Dict [] [] pos) tEmp:=pe_dnewK
end L2
end
section
namespace L2
open PySem PySem.Spec PyProof.Rows
section
variable {X:Cx} {p pos:Pos} {e:Expr} {es:List Expr} {t:TA}
end
end L2
end
section
namespace L2
open PySem PySem.Spec PyProof.Rows
def SameT (P:Addr) (H H':Hp):Prop:=∀ b o,b≠P->H b=some o->H' b=some o
theorem SameT.refl (P:Addr) (H:Hp):SameT P H H:=fun _ _ _ h=>h
theorem SameT.trans {P:Addr} {H H1 H2:Hp} (a:SameT P H H1) (b:SameT P H1 H2):SameT P H H2:=fun c o n h=>b c o n (a c o n h)
theorem Same.t {P:Addr} {H H':Hp} (a:Same H H'):SameT P H H':=fun c o _ h=>a c o h
section
variable {X:Cx} {pins:List (Addr×Obj)} {σ:St} {H:Hp} {s:Shared}
theorem Mod.keeps {K:PySem.W.Frag} {mg:Str->Option Value} {base base':Heap} (M:Mod K mg base) (k:∀ b o,base.get? b=some o->base'.get? b=some o):Mod K mg base':=
 ⟨M.kin.keeps k,M.glob.keeps k,let ⟨mb,a,b⟩:=M.blt;⟨mb,a.keeps k,b⟩,M.nolimit.keeps k⟩
end
section
variable {X:Cx} {p pos lp:Pos} {a:Expr} {ta:TE}
end
end L2
end
section
namespace Om
section
variable {α:Type} [DecidableEq α]
end
end Om
namespace L2
open PySem PySem.Spec PyProof.Rows
section
variable {prog:Program} {w:World} {A:Around} {I:Addr} {fp wr:List Addr} {G:Array GenState->Array GenState->Prop} {n:Nat} {P:Nat->Value->Prop} {St:Nat->Shared->Prop} {κ:Type} [DecidableEq κ] {knd:KeyKind prog w κ}
end
section
variable {X:Cx} {p pos:Pos} {e:Expr} {es:List Expr} {t:TA}
end
end L2
end
section
namespace Om
section
variable {ts:List Int} {g:Nat} {f:Nat->Bool}
def val (f:Nat->Bool) (k:Nat):Nat->Nat
 | 0=>0
 | g+1=>2 * val f k g+(if f (k+g) then 1 else 0)
end
end Om
end
section
namespace L2
open PySem PySem.Spec PyProof.Rows
section
variable {X:Cx} {p pos:Pos} {a b e:Expr} {es:List Expr} {t:TA}
end
end L2
namespace Om
end Om
end
section
namespace Om
end Om
namespace L2
open PySem PySem.Spec PyProof.Rows
section
variable {H0 H H1:Hp} {D Q:Addr} {kvs:List (Key×V)} {qs:List Nat} {c:Nat}
end
end L2
end
section
namespace Om
end Om
namespace L2
open PySem PySem.Spec PyProof.Rows
def wo1 (P:Addr) (H:Hp):Hp:=fun b=>if b=P then none else H b
theorem wo1.at {P b:Addr} {H:Hp} {o:HO} (h:H b=some o) (n:b≠P):wo1 P H b=some o:=by unfold wo1;rw [if_neg n];exact h
theorem wo1.same {P:Addr} {H H':Hp} (s:SameT P H H'):Same (wo1 P H) H':=fun b o e=>by
 unfold wo1 at e
 split at e
 ·cases e
 ·rename_i n
  exact s b o n e
mutual
theorem DV.wo1 {H:Hp} {P:Addr} {ps:Array Value} (hP:H P=some (.tbl ps)):∀ {v:V} {d:PyData},DV H v d->DV (wo1 P H) v d
 | _,_,.non=>.non
 | _,_,.bl b=>.bl b
 | _,_,.int i=>.int i
 | _,_,.str x=>.str x
 | _,_,.lst h r=>.lst (wo1.at h (ne_of h hP (fun z=>nomatch z))) (DVs.wo1 hP r)
 | _,_,.tup h r=>.tup (wo1.at h (ne_of h hP (fun z=>nomatch z))) (DVs.wo1 hP r)
 | _,_,.dic h=>.dic (wo1.at h (ne_of h hP (fun z=>nomatch z)))
theorem DVs.wo1 {H:Hp} {P:Addr} {ps:Array Value} (hP:H P=some (.tbl ps)):∀ {vs:List V} {ds:List PyData},DVs H vs ds->DVs (wo1 P H) vs ds
 | _,_,.nil=>.nil
 | _,_,.cons h r=>.cons (DV.wo1 hP h) (DVs.wo1 hP r)
end
theorem SameT.free {P:Addr} {H H':Hp} {l:Addr} (s:SameT P H H') (h:H' l=none) (n:l≠P):H l=none:=by
 cases q:H l with
 | none=>rfl
 | some o=>rw [s l o n q] at h;cases h
end L2
end
section
namespace Om
end Om
namespace L2
open PySem PySem.Spec PyProof.Rows
section
variable {H0 H H':Hp} {a b:Addr} {qs:List Addr} {k n:Nat} {rows:Om.Rows}
end
end L2
end
section
namespace Om
end Om
namespace L2
open PySem PySem.Spec PyProof.Rows
section
variable {F:Addr->Prop} {H0 H H' G:Hp} {d P:Addr} {pos:Pos} {qual:Str}
theorem Deck.lst (h:Deck F H d) {b:Addr} (z:F b):∃ xs,H b=some (.lst xs):=by
 obtain ⟨p,qs,n,h1,h2,h3,h4,h5,h6⟩:=h.ex
 rcases (h6 b).mp z with rfl | rfl | z
 ·exact ⟨_,h1⟩
 ·exact ⟨_,h2⟩
 ·obtain ⟨c,f,m,e⟩:=h5 b z
  exact ⟨_,e⟩
end
end L2
end
section
namespace L2
open PySem PySem.Spec PyProof.Rows
end L2
end
section
namespace L2
open PySem PySem.Spec PyProof.Rows
section
variable {X:Cx} {p pos:Pos} {k v:Expr} {tk tv:TE}
end
end L2
end
section
namespace Om
section
variable {k n:Nat} {rows:Rows} {a b c:Nat} {w v:List Bool}
end
end Om
end
section
namespace Om
abbrev Sn:=Nat->Prop
def aft (rows:Rows) (S:Sn) (w:List Bool):Sn:=fun y=>∃ x i,S x/\i < (rows.getD x []).length/\step rows x i=(w,y)
def afts (rows:Rows) (S:Sn) (ws:List (List Bool)):Sn:=ws.foldl (aft rows) S
end Om
namespace L2
open PySem PySem.Spec PyProof.Rows
structure KN (ks:List Nat) (kvs:List (Key×V)):Prop where
 keys:kvs.map (·.1)=ks.map fun (i:Nat)=>(Sum.inl (i:Int):Key)
 nd:ks.Nodup
 lt:∀ x∈ks,x < 8
section
variable {ks:List Nat} {kvs:List (Key×V)} {x:Nat} {v:V}
theorem KN.nil:KN [] []:=⟨rfl,List.nodup_nil,by simp⟩
theorem KN.le (h:KN ks kvs):ks.length<=8:=by
 have:ks ⊆ List.range 8:=fun p hp=>List.mem_range.mpr (h.lt p hp)
 have:=List.Nodup.length_le_of_subset h.nd this
 simpa using this
theorem KN.len (h:KN ks kvs):kvs.length=ks.length:=by have:=congrArg List.length h.keys;simpa using this
theorem KN.set (h:KN ks kvs) (hx:x < 8):∃ ks',KN ks' (putK kvs (Sum.inl (x:Int):Key) v)/\∀ y,y∈ks'↔y∈ks\/y=x:=by
 have inj:∀ {a b:Nat},(Sum.inl (a:Int):Key)=Sum.inl (b:Int)->a=b:=fun {a b} e=>by
  have:=Sum.inl.inj e
  omega
 by_cases hm:x∈ks
 ·have any:(kvs.any fun kv=>decide (kv.1=(Sum.inl (x:Int):Key)))=true:=by
   have hm':(Sum.inl (x:Int):Key)∈kvs.map (·.1):=by rw [h.keys];exact List.mem_map.mpr ⟨x,hm,rfl⟩
   obtain ⟨q,hq,e⟩:=List.mem_map.mp hm'
   exact List.any_eq_true.mpr ⟨q,hq,by simpa using e⟩
  refine ⟨ks,⟨?_,h.nd,h.lt⟩,fun y=>⟨.inl,fun e=>e.elim id fun e=>e ▸ hm⟩⟩
  rw [<-h.keys]
  unfold putK
  rw [if_pos any,List.map_map]
  apply List.map_congr_left
  intro q _
  simp only [Function.comp]
  split<;>rfl
 ·have any:¬ (kvs.any fun kv=>decide (kv.1=(Sum.inl (x:Int):Key)))=true:=fun z=>by
   obtain ⟨q,hq,e⟩:=List.any_eq_true.mp z
   have e':q.1=(Sum.inl (x:Int):Key):=by simpa using e
   have hm':(Sum.inl (x:Int):Key)∈kvs.map (·.1):=List.mem_map.mpr ⟨q,hq,e'⟩
   rw [h.keys] at hm'
   obtain ⟨y,hy,e2⟩:=List.mem_map.mp hm'
   exact hm (inj e2 ▸ hy)
  refine ⟨ks++[x],⟨?_,?_,fun y hy=>?_⟩,fun y=>by rw [List.mem_append,List.mem_singleton]⟩
  ·unfold putK
   rw [if_neg any,List.map_append,List.map_append,h.keys]
   rfl
  ·rw [List.nodup_append]
   refine ⟨h.nd,by simp,fun a ha b hb=>?_⟩
   have:b=x:=by simpa using hb
   subst this
   exact fun e=>hm (e ▸ ha)
  ·rcases List.mem_append.mp hy with hy | hy
   ·exact h.lt y hy
   ·have:y=x:=by simpa using hy
    subst this;exact hx
end
end L2
end
section
namespace Om
section
variable {α:Type} [DecidableEq α] {xs:List α} {x y:α}
end
end Om
namespace L2
open PySem PySem.Spec PyProof.Rows
section
variable {κ N:Type} [DecidableEq κ] [DecidableEq N]
end
def tk (u:List Bool):Key:=Sum.inr (bs u)
section
variable {H0 H H1:Hp} {D Q:Addr} {kvs:List (List Key×V)} {xs:List (List Bool×Nat)} {bz:List Addr}
end
end L2
end
section
namespace L2
open PySem PySem.Spec PyProof.Rows
end L2
end
section
namespace Om
end Om
namespace L2
open PySem PySem.Spec PyProof.Rows
section
variable {H0 H H1:Hp} {D:Addr} {kvs:List (Key×V)} {us:List (List Bool)} {L:Nat} {S S':List Bool->Prop}
end
end L2
end
section
namespace Om
end Om
namespace L2
open PySem PySem.Spec PyProof.Rows
section
variable {H2 H H1:Hp} {D E Mo:Addr} {kvs:List (Key×V)} {us:List (List Bool)} {L:Nat} {S:List Bool->Prop} {ekvs:List (Key×V)} {vs:List (List Bool)} {M:Nat} {B B':List Bool->Prop} {mkvs:List (List Key×V)} {ys:List (List Bool×Nat)} {A A':List Bool×Nat->Prop}
end
end L2
end
section
namespace L2
open PySem PySem.Spec PyProof.Rows
def nw (H H':Hp):Hp:=fun b=>match H b with
 | none=>H' b
 | some _=>none
theorem nw.at {H H':Hp} {b:Addr} (h:H b=none):nw H H' b=H' b:=by unfold nw;rw [h]
theorem nw.old {H H':Hp} {b:Addr} {o:HO} (h:H b=some o):nw H H' b=none:=by unfold nw;rw [h]
theorem nw.inv {H H':Hp} {b:Addr} {o:HO} (h:nw H H' b=some o):H b=none/\H' b=some o:=by
 cases e:H b with
 | none=>rw [nw.at e] at h;exact ⟨rfl,h⟩
 | some u=>rw [nw.old e] at h;cases h
theorem nw.same {H H':Hp}:Same (nw H H') H':=fun b o e=>(nw.inv e).2
theorem nw.up {H H1 H2:Hp} (s:Same H1 H2):Same (nw H H1) (nw H H2):=fun b o e=>by rw [nw.at (nw.inv e).1];exact s _ _ (nw.inv e).2
section
variable {X:Cx} {pos:Pos} {e:Expr} {es:List Expr} {n:Nat} {d:PyData} {ds:List PyData}
end
end L2
end
section
namespace L2
open PySem PySem.Spec PyProof.Rows
theorem SqL.wo1 {K:PySem.W.Frag} {H:Hp} {a P:Addr} {xs:List V} {ps:Array Value} (h:SqL K H a xs) (hP:H P=some (.tbl ps)):SqL K (wo1 P H) a xs:=by
 rcases h with (h | ⟨o,h⟩) | h
 ·exact .inl (.inl (wo1.at h (ne_of h hP (fun z=>nomatch z))))
 ·exact .inl (.inr ⟨o,wo1.at h (ne_of h hP (fun z=>nomatch z))⟩)
 ·exact .inr h
section
variable {H H':Hp} {kvs:List (Key×V)} {ls:List Nat} {rows:Om.Rows}
end
end L2
end
section
namespace PySem.W
open PySem
section
variable {prog:Program} {w:World} {K:Type} [DecidableEq K] (knd:KeyKind prog w K)
variable {knd} {A:Around} {E:Value->Shared->Prop} {s:Shared}
end
end PySem.W
end
section
namespace L2
open PySem PySem.Spec PyProof.Rows PySem.W
section
variable {P:Program} {w:World} {H:Hp} {h:Heap}
end
section
variable {X:Cx} {pos:Pos}
end
end L2
end
section
namespace L2
open PySem PySem.Spec PyProof.Rows PySem.W PySem.Calls
def allS:Nat->List (List Bool)
 | 0=>[[]]
 | L+1=>(allS L).map (false :: ·)++(allS L).map (true :: ·)
end L2
end
section
namespace L2
open PySem PySem.Spec PyProof.Rows
section
variable {X:Cx} {p pos:Pos} {e:Expr} {es:List Expr} {t:TA}
end
end L2
end
section
namespace L2
open PySem PySem.Spec PyProof.Rows
section
variable {X:Cx}
variable {elt target iter:Expr} {ifs:List Expr} {scope:Scope} {pos spos:Pos} {wi:TI} {g:TG} {tt:TT} {te:TE}
end
end L2
end
section
namespace L2
open PySem PySem.Spec PyProof.Rows
def Its (ws:List Bool):It:=⟨fun i _=>i < ws.length,fun i H x H'=>H'=H/\∃ b,ws[i]? = some b/\x = .str (bs [b]),fun i _=>ws.length<=i⟩
theorem turn_str {P:Program} {w:World} {K:PySem.W.Frag} {tg:Expr} (it:Addr) (ws:List Bool) (t:Tok):Turn P w K tg (Its ws) [it] it (fun i h=>h.IsStrIter it "str_ascii_iterator" (bs ws) t i) where
 mem:=by simp
 obj:=fun i h st b hb=>by
  have e:b=it:=by simpa using hb
  subst e
  obtain ⟨o,e,c,d⟩:=st
  exact ⟨o,e,fun v z=>by rw [d] at z;cases z⟩
 keep:=fun i h h' st k=>by
  obtain ⟨o,e,c,d⟩:=st
  exact ⟨o,k it (by simp) o e,c,d⟩
 item:=by
  intro X hP hw hK hc i pins s σ H E I hf st hg
  subst hP hw hK
  obtain ⟨f0,f1,f2,f3,f4,f5⟩:=hf it (by simp)
  have hg:i < ws.length:=hg
  have hb:ws[i]? = some ws[i]:=List.getElem?_eq_getElem hg
  refine wpAny_pyNext_ascii_item st (bs_get hb) fun h' st' sb=>?_
  have I1:Inv X pins σ H { s with heap:=h',toks:=s.toks+1 }:=I.turned (fun b o hb e=>(sb.2 b hb).trans e) f0 f1 f3 f4 f5
  obtain ⟨o,e,c,d⟩:=id st'
  exact ⟨_,rfl,go_of (s:={ s with heap:=h',toks:=s.toks+1 }) e c d (by decide) ⟨.str (bs [ws[i]]),H,I1,⟨_,rfl⟩,⟨rfl,_,hb,rfl⟩,st',fun b hb=>(hf b hb).1⟩⟩
 done:=by
  intro X hP hw hK hc i pins s σ H E I hf st hg
  subst hP hw hK
  obtain ⟨f0,f1,f2,f3,f4,f5⟩:=hf it (by simp)
  have hg:ws.length<=i:=hg
  refine wpAny_pyNext_ascii_end (I.ok.hd hc) st ?_ fun h' eb=>⟨rfl,I.turned (t':=s.toks) (fun b o hb e=>eb b o hb e) f0 f1 f3 f4 f5⟩
  unfold bs
  rw [List.getElem?_toArray]
  exact List.getElem?_eq_none (by rw [List.length_map];exact hg)
 self:=fun _ _ _ _ _ st h=>wpAny_pyIter_striter_ascii st h
section
variable {X:Cx} {tg:Expr}
def iTxt (tl:TE):TI:=fun σ H R=>tl σ H fun x H1=>∃ ws:List Bool,x = .str (bs ws)/\R (Its ws) H1
theorem pi_txt {l:Expr} {tl:TE} (hl:PE X l tl):PI X tg l (iTxt tl):=by
 intro pins s σ H R I h
 refine thn (hl pins s σ H _ I h) fun v s1 ⟨x,H1,I1,r1,q1⟩=>?_
 obtain ⟨ws,rfl,q⟩:=q1
 obtain ⟨t,rfl⟩:=r1
 refine wpAny_pyIter_ascii (by
  unfold bs
  rw [List.all_toArray,List.all_eq_true]
  intro c hc
  obtain ⟨b,_,rfl⟩:=List.mem_map.mp hc
  cases b<;>decide) ?_
 refine ⟨s1.heap.objs.size,[s1.heap.objs.size],_,_,H1,rfl,I1.kept (t':=s1.toks) fun b o e=>Heap.get?_push_of_some _ e,turn_str _ ws t,⟨_,Heap.get?_push_size _ rfl,rfl,rfl⟩,fun b hb=>?_,q⟩
 have e:b=s1.heap.objs.size:=by simpa using hb
 subst e
 exact I1.fpOk (Nat.le_refl _) (I1.hok.fresh (Nat.le_refl _))
theorem it_txt (ws:List Bool):ItOk (Its ws) (ws.map fun b=>V.str (bs [b])) fun _=>True:=
 ⟨fun H _=>by show ws.length<=_;rw [List.length_map];exact Nat.le_refl _,fun i H _ hi=>by show i < ws.length;rw [List.length_map] at hi;exact hi,fun i H x H' _ hi y=>⟨y.1,by
  obtain ⟨b,h1,h2⟩:=y.2
  rw [List.getElem?_map,h1,h2];rfl⟩⟩
end
end L2
end
section
namespace L2
open PySem PySem.Spec PyProof.Rows
section
variable {prog:Program} {w:World} {A:Around} {E:Value->Shared->Prop} {s:Shared}
end
section
variable {X:Cx} {p pos:Pos}
def rDictK:List V->Hp->VK->Prop:=fun vs H Q=>match vs with
 | [.ref p]=>∃ kvs:List (Key×V),Rd H p (.dK kvs)/\∀ l,H l=none->Q (.ref l) (upd H l (.dK kvs))
 | _=>False
def iLstH (tl:TE):TI:=fun σ H R=>tl σ H fun x H1=>match x with
 | .ref a=>∃ kvs,Rd H1 a (.dK kvs)/\∀ o H2,H2 a=some (.frz o (.dK kvs))->SameT a H1 H2->R (Itk a o (kvs.map fun p=>kV p.1)) H2
 | _=>False
theorem pi_lstH {tg l:Expr} {tl:TE} (hl:PE X l tl):PI X tg l (iLstH tl):=by
 intro pins s σ H R I h
 refine thn (hl pins s σ H _ I h) fun v s1 ⟨x,H1,I1,r1,q1⟩=>?_
 dsimp only at q1
 split at q1
 ·rename_i a
  cases r1
  obtain ⟨kvs,rd,q⟩:=q1
  obtain ⟨o,H2,J,ho,hq',st⟩ : ∃ (o:Obj) (H2:Hp),Inv X pins σ H2 s1/\s1.heap.get? a=some o/\H2 a=some (.frz o (.dK kvs))/\SameT a H1 H2:=by
   rcases rd with hq | ⟨o,hq⟩
   ·obtain ⟨o,ho⟩:=I1.obj hq
    exact ⟨o,_,I1.freeze hq trivial ho,ho,upd_same,fun b u nb e=>by rw [upd_ne nb];exact e⟩
   ·exact ⟨o,H1,I1,I1.frozen hq,hq,fun b u nb e=>e⟩
  obtain ⟨_,z,hd,vs,r,o',es,ep,h1,h2,h3,h4,h5,h6⟩:=J.hok a _ hq'
  rw [ho] at h1;cases h1
  have hT:s1.TypeIs (.ref a) "dict" := let ⟨_,_,_,_,dd⟩:=dk_rd J.hok (.inr ⟨o,hq'⟩);dd.typeIs
  refine keyIter hd hT ho h3 ?_
  refine ⟨s1.heap.objs.size,[s1.heap.objs.size],_,_,_,rfl,J.kept (t':=s1.toks) fun b o e=>Heap.get?_push_of_some _ e,turn_keys h3 (keys_mix r h5),⟨_,Heap.get?_push_size _ rfl,rfl,rfl⟩,fun b hb=>?_,q o H2 hq' st⟩
  have e:b=s1.heap.objs.size:=by simpa using hb
  subst e
  exact J.fpOk (Nat.le_refl _) (J.hok.fresh (Nat.le_refl _))
 ·exact q1.elim
end
end L2
end
section
namespace Om
section
variable {rows:Rows} {turn:Int} {ks ks':List Nat} {E E':Nat->Int} {ed ed':Nat->Nat->Prop} {s l:Nat} {r:List Bool×Nat}
end
end Om
namespace L2
open PySem PySem.Spec PyProof.Rows
section
variable {H H':Hp} {kvs:List (Key×V)} {ks:List Nat} {E:Nat->Int} {c:Nat}
end
end L2
end
section
namespace L2
open PySem PySem.StrLaws Builtin Builtin.Str
abbrev ch (c:Nat):Str:=⟨#[c]⟩
theorem occ_loop (x:Str) (c:Nat):∀ (l:List Nat) (st:Array Nat×Nat),l.Pairwise (· < ·)->(∀ i∈l,st.2<=i)->st.1.size+l.length<=x.length+1 →
  (forIn l st (occBody x (ch c) x.length (x.length+1))).run.fst.toList=st.1.toList++l.filter fun i=>decide (x.cps.toList[i]? = some c)
 | [],st,_,_,_=>by simp
 | a :: l,st,hp,hs,hz=>by
  rw [List.forIn_cons]
  unfold occBody
  have h1:=List.pairwise_cons.mp hp
  have hz':st.1.size+(l.length+1)<=x.length+1:=hz
  by_cases hc:x.cps.toList[a]? = some c
  ·have hc':=(subAt_one x c a).mpr hc
   rw [if_pos ⟨⟨⟨by omega,hs a List.mem_cons_self⟩,hc'.1⟩,hc'.2⟩]
   have ih:=occ_loop x c l (st.1.push a,a+(ch c).length) h1.2 (fun i hi=>by
    have:=h1.1 i hi
    show a+1<=i
    omega) (by simp;omega)
   refine Eq.trans ih ?_
   rw [List.filter_cons,if_pos (by simpa using hc)]
   simp
  ·rw [if_neg fun h=>hc ((subAt_one x c a).mp ⟨h.1.2,h.2⟩)]
   have ih:=occ_loop x c l (st.1,st.2) h1.2 (fun i hi=>hs i (List.mem_cons_of_mem _ hi)) (by simp;omega)
   refine Eq.trans ih ?_
   rw [List.filter_cons,if_neg (by simpa using hc)]
theorem occ_one (x:Str) (c:Nat):occurrences x (ch c) 0 x.length (x.length+1)=(List.range' 0 (x.length+1)).filter fun i=>decide (x.cps.toList[i]? = some c):=by
 rw [occ_eq]
 have:=occ_loop x c (List.range' 0 (x.length+1 - 0)) (#[],0) List.pairwise_lt_range' (fun _ _=>Nat.zero_le _) (by simp)
 simpa using this
def Fre (c:Nat) (p:Str):Prop:=c ∉ p.cps.toList
theorem sub_fre {x:Str} {c a b:Nat} (h:∀ i,a<=i->i < b->x.cps.toList[i]?≠some c):Fre c (strSub x a b):=by
 intro hm
 rw [strSub_toList] at hm
 obtain ⟨i,hi⟩:=List.mem_iff_getElem?.mp hm
 have hlt:=(List.getElem?_eq_some_iff.mp hi).1
 simp only [List.length_take,List.length_drop] at hlt
 rw [List.getElem?_take_of_lt (by omega),List.getElem?_drop] at hi
 exact h (a+i) (by omega) (by omega) hi
theorem parts_fre (x:Str) (c:Nat):∀ (m a b:Nat),a<=b->b+m=x.length+1->(∀ i,a<=i->i < b->x.cps.toList[i]?≠some c) →
  ∀ p∈partsFrom x 1 a ((List.range' b m).filter fun i=>decide (x.cps.toList[i]? = some c)),Fre c p
 | 0,a,b,hab,hm,hn,p,hp=>by
  have:p=strSub x a x.length:=by simpa [partsFrom] using hp
  rw [this]
  exact sub_fre fun i h1 h2=>hn i h1 (by omega)
 | m+1,a,b,hab,hm,hn,p,hp=>by
  rw [List.range'_succ,List.filter_cons] at hp
  by_cases hc:x.cps.toList[b]? = some c
  ·rw [if_pos (by simpa using hc)] at hp
   have hp:p∈strSub x a b :: partsFrom x 1 (b+1) _:=hp
   rcases List.mem_cons.mp hp with rfl | hp
   ·exact sub_fre hn
   ·exact parts_fre x c m (b+1) (b+1) (Nat.le_refl _) (by omega) (fun i h1 h2=>by omega) p hp
  ·rw [if_neg (by simpa using hc)] at hp
   exact parts_fre x c m a (b+1) (by omega) (by omega) (fun i h1 h2=>by
    by_cases e:i=b
    ·rw [e];exact hc
    ·exact hn i h1 (by omega)) p hp
theorem fre_len {x:Str} {c:Nat} (h:x.length < 1):Fre c x:=fun hm=>by
 have:x.cps.toList.length=0:=by simp [Str.length] at h ⊢;exact h
 rw [List.length_eq_zero_iff] at this
 rw [this] at hm
 cases hm
theorem split_fre (x:Str) {c:Nat} (hc:c < 256):(∀ p∈Txt.split x (ch c),Fre c p)/\Txt.split x (ch c)≠[]/\Str.join (ch c) (Txt.split x (ch c))=x:=by
 unfold Txt.split
 split
 ·rename_i h
  have h1:PySem.Builtin.Str.strKind (ch c)=1:=by simp [PySem.Builtin.Str.strKind,hc]
  have h2:1<=PySem.Builtin.Str.strKind x:=by unfold PySem.Builtin.Str.strKind;split;exact Nat.le_refl _;split<;>decide
  have hl:x.length < 1:=by
   rw [Bool.or_eq_true,decide_eq_true_eq,decide_eq_true_eq,h1] at h
   have:(ch c).length=1:=rfl
   omega
  exact ⟨fun p hp=>by rw [List.mem_singleton.mp hp];exact fre_len hl,by simp,rfl⟩
 ·split
  ·rename_i h
   refine ⟨fun p hp=>?_,by simp,rfl⟩
   rw [List.mem_singleton.mp hp]
   intro hm
   rw [occ_one,List.isEmpty_iff,List.filter_eq_nil_iff] at h
   obtain ⟨i,hi⟩:=List.mem_iff_getElem?.mp hm
   have hlt:=(List.getElem?_eq_some_iff.mp hi).1
   refine h i ?_ (by simpa using hi)
   rw [List.mem_range'_1]
   simp [Str.length] at hlt ⊢
   omega
  ·refine ⟨fun p hp=>?_,?_,?_⟩
   ·rw [partsBetween_eq,occ_one] at hp
    exact parts_fre x c (x.length+1) 0 0 (Nat.le_refl _) (by omega) (fun i h1 h2=>by omega) p hp
   ·rw [partsBetween_eq]
    obtain ⟨p,r,e⟩:=partsFrom_ne x (ch c).length 0 (occurrences x (ch c) 0 x.length (x.length+1))
    rw [e];simp
   ·rw [<-StrLaws.glued_eq_join]
    exact glued_between_self x (ch c) _
theorem cut_uniq {c:Nat}:∀ {p q A B:List Nat},c ∉ p->c ∉ q->p++c :: A=q++c :: B->p=q/\A=B
 | [],[],A,B,_,_,h=>⟨rfl,(List.cons.inj h).2⟩
 | [],b :: q,A,B,_,hq,h=>by
  have:=(List.cons.inj h).1
  exact absurd (by rw [<-this];exact List.mem_cons_self) hq
 | a :: p,[],A,B,hp,_,h=>by
  have:=(List.cons.inj h).1
  exact absurd (by rw [this];exact List.mem_cons_self) hp
 | a :: p,b :: q,A,B,hp,hq,h=>by
  obtain ⟨h1,h2⟩:=List.cons.inj h
  obtain ⟨e1,e2⟩:=cut_uniq (fun z=>hp (List.mem_cons_of_mem _ z)) (fun z=>hq (List.mem_cons_of_mem _ z)) h2
  exact ⟨by rw [h1,e1],e2⟩
theorem join_cps (c:Nat) (p q:Str) (r:List Str):(Str.join (ch c) (p :: q :: r)).cps.toList=p.cps.toList++c :: (Str.join (ch c) (q :: r)).cps.toList:=by
 show (p++ch c++Str.join (ch c) (q :: r)).cps.toList=_
 simp only [Str.cps_append,Array.toList_append]
 simp
theorem str_ext {p q:Str} (h:p.cps.toList=q.cps.toList):p=q:=Str.ext' (Array.toList_inj.mp h)
theorem join_uniq {c:Nat}:∀ {ps qs:List Str},(∀ p∈ps,Fre c p)->(∀ p∈qs,Fre c p)->ps≠[]->qs≠[]->Str.join (ch c) ps=Str.join (ch c) qs->ps=qs
 | [],_,_,_,h,_,_=>absurd rfl h
 | _,[],_,_,_,h,_=>absurd rfl h
 | [p],[q],_,_,_,_,h=>by
  have h:p=q:=h
  rw [h]
 | [p],q :: q2 :: r,hp,hq,_,_,h=>by
  have e:p.cps.toList=_:=(congrArg (fun s:Str=>s.cps.toList) h).trans (join_cps c q q2 r)
  exact absurd (by rw [e];simp) (hp p List.mem_cons_self)
 | p :: p2 :: r,[q],hp,hq,_,_,h=>by
  have e:q.cps.toList=_:=(congrArg (fun s:Str=>s.cps.toList) h.symm).trans (join_cps c p p2 r)
  exact absurd (by rw [e];simp) (hq q List.mem_cons_self)
 | p :: p2 :: r,q :: q2 :: r2,hp,hq,_,_,h=>by
  have e:(Str.join (ch c) (p :: p2 :: r)).cps.toList=(Str.join (ch c) (q :: q2 :: r2)).cps.toList:=congrArg (fun s:Str=>s.cps.toList) h
  rw [join_cps,join_cps] at e
  obtain ⟨e1,e2⟩:=cut_uniq (hp p List.mem_cons_self) (hq q List.mem_cons_self) e
  have ih:=join_uniq (ps:=p2 :: r) (qs:=q2 :: r2) (fun x hx=>hp x (List.mem_cons_of_mem _ hx)) (fun x hx=>hq x (List.mem_cons_of_mem _ hx)) (by simp) (by simp) (str_ext e2)
  rw [str_ext e1,ih]
theorem split_join {c:Nat} (hc:c < 256) {ps:List Str} (hp:∀ p∈ps,Fre c p) (hn:ps≠[]):Txt.split (Txt.join (ch c) ps) (ch c)=ps:=by
 obtain ⟨h1,h2,h3⟩:=split_fre (Txt.join (ch c) ps) hc
 refine join_uniq h1 hp h2 hn (h3.trans ?_)
 exact StrLaws.glued_eq_join _ _
end L2
end
section
namespace L2
open PySem PySem.Spec PyProof.Rows Builtin Builtin.Str
theorem vals_from:∀ (ps:List Str) (tk:Nat),Vals (ps.map V.str) (strsFrom tk ps)
 | [],_=>.nil
 | x :: r,tk=>.cons ⟨_,rfl⟩ (vals_from r (tk+1))
section
variable {X:Cx} {p pos apos:Pos} {a b c e o:Expr} {es:List Expr} {t:TA} {to:TE}
def rSplit:V->List V->Hp->VK->Prop:=fun x vs H Q=>match x,vs with
 | .str z,[.str y]=>(y.length == 0)=false/\z.length+2<=sizeLine/\∀ l,H l=none->Q (.ref l) (upd H l (.lst ((Txt.split z y).map V.str)))
 | _,_=>False
theorem mt_splitU:MtM X "str.split" rSplit:=by
 intro pins s σ H x vs v us Q I rx rv h
 unfold rSplit at h
 split at h
 ·rename_i z y
  obtain ⟨hy,hz,q⟩:=h
  obtain ⟨t,rfl⟩:=rx
  obtain ⟨u,rfl,t',rfl⟩:=rv.one
  have q:=q _ (I.hok.fresh (Nat.le_refl _))
  have alone:Txt.split z y=[z]->EP X pins σ Q (.ref s.heap.objs.size) { s with heap:=s.heap.push { cls:=.type "list",data:=.seq [Value.str z t].toArray } }:=fun e=>by
   rw [e] at q
   exact ⟨.ref s.heap.objs.size,upd H s.heap.objs.size (.lst [.str z]),I.laid (t':=s.toks) (o:=.lst [.str z]) (fun b u e=>Heap.get?_push_of_some _ e) (Nat.le_refl _) ⟨by show 1<=sizeLine;decide,[Value.str z t],0,.cons ⟨_,rfl⟩ .nil,Heap.get?_push_size _ rfl⟩,rfl,q⟩
  have hn:(partsBetween z (occurrences z y 0 z.length (z.length+1)) y.length).length<=sizeLine:=by
   have:=StrLaws.occ_length_le z y 0 z.length (z.length+1)
   rw [length_partsBetween]
   omega
  have hT:=typeIs_str s z t
  cases h1:(decide (z.length < y.length) || decide (PySem.Builtin.Str.strKind z < PySem.Builtin.Str.strKind y)) with
  | true=>exact call_meets F.slot_str_split hT F.entry_str_split (F.args_str_split_2 _ _) (meets_str_split_cannot_occur z y t t' h1) (alone (if_pos h1))
  | false=>
   have n1:¬ (decide (z.length < y.length) || decide (PySem.Builtin.Str.strKind z < PySem.Builtin.Str.strKind y))=true:=by rw [h1];decide
   cases h2:(occurrences z y 0 z.length (z.length+1)).isEmpty with
   | true=>exact call_meets F.slot_str_split hT F.entry_str_split (F.args_str_split_2 _ _) (meets_str_split_not_found z y t t' h1 hy h2) (alone ((if_neg n1).trans (if_pos h2)))
   | false=>
    have n2:¬ (occurrences z y 0 z.length (z.length+1)).isEmpty=true:=by rw [h2];decide
    refine call_meets F.slot_str_split hT F.entry_str_split (F.args_str_split_2 _ _) (meets_str_split_sep z y t t' h1 hy h2 (by omega) hn) ?_
    have e:Txt.split z y=partsBetween z (occurrences z y 0 z.length (z.length+1)) y.length:=(if_neg n1).trans (if_neg n2)
    rw [e] at q
    exact ⟨.ref s.heap.objs.size,upd H s.heap.objs.size (.lst ((partsBetween z (occurrences z y 0 z.length (z.length+1)) y.length).map V.str)),I.laid (o:=.lst ((partsBetween z (occurrences z y 0 z.length (z.length+1)) y.length).map V.str)) (fun b u e=>Heap.get?_push_of_some _ e) (Nat.le_refl _) ⟨by rw [List.length_map];exact hn,_,0,vals_from _ _,Heap.get?_push_size _ rfl⟩,rfl,q⟩
 ·exact h.elim
theorem m_split {cpos:Pos} (ho:PE X o to) (ha:PA X (e :: es) t)
  (hbase:attributeBase o "split" X.env (eval o X.env)=eval o X.env:=by kernel_rfl)
  (hfew:((backTo cpos (starEach (e :: es) X.env)).all (fun x=>!x.1) && (backToKw cpos (keywordEach [] X.env)).all (fun x=>x.1.isSome)
   && decide ((e :: es).length+([]:List Keyword).length+(if ([]:List Keyword).isEmpty then 0 else 1) < 30))=true:=by kernel_rfl)
  (hline:(apos.endLine == cpos.line)=true:=by kernel_rfl) (hs:starEach (e :: es) X.env=(false,eval e X.env) :: starEach es X.env:=by kernel_rfl) (hplain:(backTo cpos (starEach es X.env)).any (·.1)=false:=by kernel_rfl) :
  PE X (.Call (.Attribute o "split" apos) (e :: es) [] cpos) (tMt "str" rSplit to t):=pe_mt PySem.F.plainAttrs_str PySem.F.slot_str_split PySem.F.type_str_split mt_splitU ho ha hbase hfew hline hs hplain
def rFind:V->List V->Hp->VK->Prop:=fun x vs H Q=>match x,vs with
 | .str z,[.str y]=>Q (.int (Txt.find z y)) H
 | _,_=>False
theorem mt_findU:MtM X "str.find" rFind:=by
 intro pins s σ H x vs v us Q I rx rv h
 unfold rFind at h
 split at h
 ·obtain ⟨t,rfl⟩:=rx
  obtain ⟨u,rfl,t',rfl⟩:=rv.one
  exact SC.find ⟨.int _,H,I.tok _,⟨_,rfl⟩,h⟩
 ·exact h.elim
theorem m_find {cpos:Pos} (ho:PE X o to) (ha:PA X (e :: es) t)
  (hbase:attributeBase o "find" X.env (eval o X.env)=eval o X.env:=by kernel_rfl)
  (hfew:((backTo cpos (starEach (e :: es) X.env)).all (fun x=>!x.1) && (backToKw cpos (keywordEach [] X.env)).all (fun x=>x.1.isSome)
   && decide ((e :: es).length+([]:List Keyword).length+(if ([]:List Keyword).isEmpty then 0 else 1) < 30))=true:=by kernel_rfl)
  (hline:(apos.endLine == cpos.line)=true:=by kernel_rfl) (hs:starEach (e :: es) X.env=(false,eval e X.env) :: starEach es X.env:=by kernel_rfl) (hplain:(backTo cpos (starEach es X.env)).any (·.1)=false:=by kernel_rfl) :
  PE X (.Call (.Attribute o "find" apos) (e :: es) [] cpos) (tMt "str" rFind to t):=pe_mt PySem.F.plainAttrs_str PySem.F.slot_str_find PySem.F.type_str_find mt_findU ho ha hbase hfew hline hs hplain
def rClr:V->List V->Hp->VK->Prop:=fun x vs H Q=>match x,vs with
 | .ref l,[]=>∃ xs,H l=some (.lst xs)/\Q .non (upd H l (.lst []))
 | _,_=>False
theorem e_gstr {x:Str} {z:Str} {mg':Str->Option Value} (hm:∃ tk,mg' x=some (.str z tk)) (hX:X.mg=mg') (hg:gB X x=true:=by kernel_rfl) (hd:(x == ("__debug__" : Str))=false:=by kernel_rfl):PE X (.Name x pos) (tC (.str z)):=by
 obtain ⟨tk,hm⟩:=hm
 exact pe_glob (gl_of hg) (by rw [hX];exact hm) ⟨tk,rfl⟩ hd
def rTup1:List V->Hp->VK->Prop:=fun vs H Q=>match vs with
 | [.ref p]=>∃ xs,H p=some (.lst xs)/\∀ l,H l=none->Q (.ref l) (upd H l (.tup xs))
 | _=>False
theorem call_tup1:CallR X (.type "tuple") rTup1:=call_tuple_of.of fun xs H Q q=>by
 unfold rTup1 at q
 split at q
 ·obtain ⟨ys,h,q⟩:=q
  exact ⟨_,ys,rfl,.inl ⟨SqL.of h,q⟩⟩
 ·exact q.elim
theorem fn_tup1 {mg':Str->Option Value} (hm:mg' "tuple" = none) (hX:X.mg=mg') (ha:PA X (e :: es) t) (hg:gB X "tuple" = true:=by kernel_rfl) (he:starEach (e :: es) X.env=(false,eval e X.env) :: starEach es X.env:=by kernel_rfl) (hpl:(backTo pos (starEach es X.env)).any (·.1)=false:=by kernel_rfl) :
  PE X (.Call (.Name "tuple" p) (e :: es) [] pos) (tCB rTup1 t):=pe_callTy call_tup1 (gl_of hg) (by rw [hX];exact hm) PyProof.Rows.boot_tuple ha (he:=he) (hpl:=hpl)
end
end L2
end
section
namespace Om
def allS (rows:Rows):Sn:=fun x=>x < rows.length
def byL (rows:Rows) (S:Sn) (w:List Bool) (l:Nat):Sn:=fun y=>∃ x,S x/\l < (rows.getD x []).length/\step rows x l=(w,y)
def Goes (rows:Rows) (ws:List (List Bool)) (b l:Nat):Prop:=∃ z,afts rows (byL rows (afts rows (allS rows) (ws.take b)) (ws.getD b []) l) (ws.drop (b+1)) z
open Classical in
noncomputable def rd (rows:Rows) (k b:Nat) (ws:List (List Bool)):Option Nat:=(List.range (2 ^ k)).find? fun l=>decide (Goes rows ws b l)
end Om
namespace L2
open PySem PySem.Spec PyProof.Rows
section
variable {H0 H:Hp} {L q:Addr} {ts:List Addr} {yss:Nat->List Nat}
end
end L2
namespace L2
open PySem PySem.Spec PyProof.Rows
section
variable {X:Cx}
end
end L2
namespace Om
end Om
namespace L2
open PySem PySem.Spec PyProof.Rows
end L2
end
section
namespace Om
end Om
namespace L2
open PySem PySem.Spec PyProof.Rows
theorem cut_gen (xs:List V) (a h:Nat):cutV xs (some (a:Int)) (some (h:Int))=(xs.drop a).take (h - a):=by
 unfold cutV
 rw [HT.sIx_nat,HT.sIx_nat]
 by_cases h1:a<=xs.length
 ·rw [Nat.min_eq_left h1]
  by_cases h2:h<=xs.length
  ·rw [Nat.min_eq_left h2]
  ·rw [Nat.min_eq_right (by omega),List.take_of_length_le (by simp),List.take_of_length_le (by simp;omega)]
 ·rw [Nat.min_eq_right (by omega:xs.length<=a),List.drop_of_length_le (Nat.le_refl _),List.drop_of_length_le (by omega)]
  simp
end L2
namespace L2
theorem if_negP {c A B:Prop} [Decidable c] (hc:¬ c) (h:B):if c then A else B:=by rw [if_neg hc];exact h
end L2
namespace L2
end L2
end
section
namespace L2
open PySem PySem.Spec PyProof.Rows
section
variable {X:Cx} {p pos:Pos}
end
end L2
namespace Om
end Om
end
section
namespace L2
open PySem PySem.Spec PyProof.Rows
end L2
namespace L2
open PySem PySem.Spec PyProof.Rows
end L2
namespace L2
open PySem PySem.Spec PyProof.Rows
end L2
end
section
namespace L2
open PySem PySem.Spec PyProof.Rows
section
variable {X:Cx} {p pos apos:Pos} {a b e o:Expr} {es:List Expr} {t:TA} {to:TE}
end
end L2
end
section
namespace L2
open PySem PySem.Spec PyProof.Rows
section
variable {X:Cx} {p pos:Pos}
end
end L2
end
section
namespace Om
end Om
end
section
namespace L2
open PySem PySem.Spec PyProof.Rows
section
variable {G H0 H H':Hp} {a A S q:Addr} {ts:List Addr} {ps:List (Nat×Nat)} {rw:Nat->List (List Bool×Nat)}
end
end L2
namespace L2
open PySem PySem.Spec PyProof.Rows
end L2
end
section
namespace L2
open PySem PySem.Spec PyProof.Rows
section
variable {X:Cx} {p pos:Pos} {a tg:Expr}
end
end L2
namespace L2
open PySem PySem.Spec PyProof.Rows
section
variable {prog:Program} {w:World} {A:Around} {E:Value->Shared->Prop} {s:Shared}
end
section
variable {X:Cx} {p p2 pos pos2:Pos} {a:Expr}
end
end L2
end
section
namespace L2
open PySem PySem.Spec PyProof.Rows
section
variable {prog:Program} {w:World} {A:Around} {E:Value->Shared->Prop} {s:Shared}
end
section
variable {X:Cx} {pos apos:Pos} {o e:Expr} {to:TE} {t:TA} {es:List Expr}
theorem e_gref {x:Str} {a:Addr} {mg':Str->Option Value} (hm:mg' x=some (.ref a)) (hX:X.mg=mg') (hg:gB X x=true:=by kernel_rfl) (hd:(x == ("__debug__" : Str))=false:=by kernel_rfl):PE X (.Name x pos) (tC (.ref a)):=
 pe_glob (gl_of hg) (by rw [hX];exact hm) rfl hd
end
end L2
end
section
namespace L2
open PySem PySem.Spec PyProof.Rows
section
variable {prog:Program} {w:World} {A:Around}
end
section
variable {X:Cx} {p pos:Pos}
end
end L2
end
section
namespace L2
open PySem PySem.Spec PyProof.Rows
section
variable {X:Cx}
end
end L2
namespace L2
end L2
end
section
namespace L2
open PySem PySem.Spec PyProof.Rows PySem.W
section
variable {X:Cx} {p pos:Pos} {e:Expr} {es:List Expr} {t:TA}
end
end L2
end
section
namespace L2
open PySem PySem.Spec PyProof.Rows PySem.W
end L2
end
section
namespace Om
variable {u:List Bool}
end Om
namespace L2
open PySem PySem.Spec PyProof.Rows PySem.W
end L2
end
section
namespace Om
section
variable {k n:Nat} {rows:Rows} {u:List Bool}
end
end Om
end
section
namespace Om
variable {k n:Nat} {rows:Rows} {u:List Bool}
end Om
end
section
namespace L2
open PySem PySem.Spec PyProof.Rows PySem.W
def TrD (h base:Heap) (e:Addr) (c a0:Value) (dd:Option Addr) (fl:Value):Prop:=
 ∃ (oe:Obj) (vs:Array Value) (T:Addr) (oT:Obj) (ts:Array Value),h.get? e=some oe/\oe.cls=c/\oe.dict=dd/\vs[0]? = some a0/\oe.data = .fields vs/\vs[1]? = some (.ref T)/\base.get? T=none/\T≠e/\h.get? T=some oT/\oT.data = .fields ts/\ts[3]? = some fl
def FlyD (base:Heap) (l:List Env) (e:Addr) (c a0:Value) (dd:Option Addr) (h:Heap):Prop:=base.StaysIn h/\base.get? e=none/\h.FunFrames base l/\TrD h base e c a0 dd .none
def HldD (base:Heap) (l:List Env) (e:Addr) (c a0:Value) (dd:Option Addr) (L:Addr) (h:Heap):Prop:=base.StaysIn h/\base.get? e=none/\h.FunFrames base l/\TrD h base e c a0 dd (rawInt L)
theorem TrD.there {h base:Heap} {e:Addr} {c a0 fl:Value} {dd:Option Addr} (x:TrD h base e c a0 dd fl):∃ o,h.get? e=some o/\o.cls=c/\o.dict=dd:=by
 obtain ⟨oe,_,_,_,_,h1,h2,h3,_⟩:=x
 exact ⟨oe,h1,h2,h3⟩
theorem dict_mapFields (f:Array Value->Array Value) (o:Obj):(Obj.mapFields f o).dict=o.dict:=by
 unfold Obj.mapFields
 split<;>rfl
section
variable {M:Model} {A:Around} {E:Value->Shared->Prop} {s:Shared} {base:Heap} {env:Env} {outer:List Env} {L e:Addr} {a0:Value} {Q:Unit->Shared->Prop}
theorem entry_D {oe:Obj} {vs:Array Value} {hd0:Value} {had:Bool} (fr:A.frames=some (env :: outer)) (ff:s.heap.FunFrames base (env :: outer)) (lf:env.frame=some L) (ge:s.heap.get? e=some oe) (bs:base.StaysIn s.heap) (be:base.get? e=none)
  (dv:oe.data = .fields vs) (sz:1 < vs.size) (v0:vs[0]? = some a0)
  (k:∀ h',base.StaysIn h'->h'.FunFrames base (env :: outer)->TrD h' base e oe.cls a0 oe.dict (rawInt L)->s.heap.UpToSlots h'->Q () { s with heap:=h' }) :
  wpAny M A (do let x <-frameOf env;let y <-entryPlaceOf L had;let z <-EntryCells.newEntry hd0 x .none (rawInt L) .none y;setField (.ref e) 1 z) Q E s:=by
 have ne:e ∉ (env :: outer).filterMap (·.frame):=fun m=>by
  obtain ⟨_,o,ho,nf⟩:=ff.mem m
  rw [ge] at ho
  cases ho
  exact nf vs dv
 refine wpAny_bind (wpAny_frameOf_fun fr ff lf fun h1 so=>wpAny_bind (wpAny_entryPlaceOf fun pl ip=>?_))
 unfold EntryCells.newEntry newFields
 refine wpAny_bind (wpAny_newObj_type ?_ (ip.sizeOk5 _ _ _ _ _))
 have e1:h1.get? e=some oe:=(so.2.1 e ne).trans ge
 have b1:base.StaysIn h1:=fun b o q=>(so.2.1 b fun m=>by rw [(ff.mem m).1] at q;cases q).trans (bs b o q)
 have t3:([hd0,.ref L,.none,rawInt L,.none]++(if pl.isEmpty then List.replicate 6 Value.none else pl)).toArray[3]? = some (rawInt L):=by
  first | (simp;done) | (rcases ip with rfl | ⟨_,_,_,_,_,_,_,rfl⟩<;>simp)
 generalize ([hd0,.ref L,.none,rawInt L,.none]++(if pl.isEmpty then List.replicate 6 Value.none else pl)).toArray=arr at t3 ⊢
 have e2:=Heap.get?_push_of_some (h:=h1) { cls:=.type "traceback",dict:=none,data:=.fields arr } e1
 have Te:h1.objs.size≠e:=Nat.ne_of_gt (Heap.lt_size e1)
 have d3:=Obj.data_mapFields dv (·.setIfInBounds 1 (Value.ref h1.objs.size))
 have e3:=Heap.get?_update_self (Obj.mapFields (·.setIfInBounds 1 (Value.ref h1.objs.size))) e2 (Obj.isFreed_of_fields d3)
 have T3:=(Heap.get?_update_other (h1.push { cls:=.type "traceback",dict:=none,data:=.fields arr }) (Obj.mapFields (·.setIfInBounds 1 (Value.ref h1.objs.size))) (Ne.symm Te)).trans (Heap.get?_push_size h1 rfl)
 have kb:∀ b o,b≠e->h1.get? b=some o->((h1.push { cls:=.type "traceback",dict:=none,data:=.fields arr }).update e (Obj.mapFields (·.setIfInBounds 1 (Value.ref h1.objs.size)))).get? b=some o:=fun b o n q=>by
  rw [Heap.get?_update_other _ _ (Ne.symm n)]
  exact Heap.get?_push_of_some _ q
 have nr:∀ b o,s.heap.get? b=some o->(∀ ws,o.data≠.fields ws)->b≠e:=fun b o q nf z=>by
  rw [z,ge] at q
  cases q
  exact nf vs dv
 refine wpAny_setField e2 dv sz (k _ (fun b o q=>kb b o (fun z=>by rw [z,be] at q;cases q) (b1 b o q)) (ff.of_keeps fun b o q nf=>?_) ⟨_,_,h1.objs.size,_,arr,e3,Obj.cls_mapFields _ _,?_,by rw [Array.getElem?_setIfInBounds_ne (by decide)];exact v0,d3,by simp [sz],b1.fresh,Te,T3,rfl,t3⟩ fun b o q nf=>?_)
 ·obtain ⟨sl,q1⟩:=so.2.2 b o q
  exact ⟨_,kb b _ (nr b o q nf) q1,rfl⟩
 ·exact dict_mapFields _ _
 ·obtain ⟨sl,q1⟩:=so.2.2 b o q
  exact ⟨sl,kb b _ (nr b o q nf) q1⟩
theorem note_D {oe:Obj} {vs:Array Value} (fr:A.frames=some (env :: outer)) (ff:s.heap.FunFrames base (env :: outer)) (lf:env.frame=some L) (ge:s.heap.get? e=some oe) (bs:base.StaysIn s.heap) (be:base.get? e=none)
  (dv:oe.data = .fields vs) (v0:vs[0]? = some a0) (v1:vs[1]? = some .none\/∃ (T:Addr) (oT:Obj) (ts:Array Value),vs[1]? = some (.ref T)/\base.get? T=none/\T≠e/\s.heap.get? T=some oT/\oT.data = .fields ts/\ts[3]? = some .none)
  (k:∀ h',base.StaysIn h'->h'.FunFrames base (env :: outer)->TrD h' base e oe.cls a0 oe.dict (rawInt L)->s.heap.UpToSlots h'->Q () { s with heap:=h' }):wpAny M A (noteFrame (.ref e) env) Q E s:=by
 unfold noteFrame
 simp only [lf]
 rcases v1 with v1 | ⟨T,oT,ts,v1,bT,Te,gT,dT,t3⟩
 ·refine wpAny_bind (wpAny_field ge dv v1 ?_)
  rw [if_neg (show ¬ ((Value.none != Value.none)=true) by decide)]
  exact entry_D fr ff lf ge bs be dv (Array.getElem?_eq_some_iff.mp v1).1 v0 k
 ·refine wpAny_bind (wpAny_field ge dv v1 ?_)
  rw [if_pos (show (Value.ref T != Value.none)=true by simp)]
  refine wpAny_bind (wpAny_field gT dT t3 ?_)
  rw [if_neg (show ¬ ((Value.none == rawInt (L:Int))=true) by simp [rawInt])]
  refine wpAny_bind (wpAny_setField gT dT (Array.getElem?_eq_some_iff.mp t3).1 ?_)
  have ot:∀ b,b≠T->(s.heap.update T (Obj.mapFields (·.setIfInBounds 3 Value.none))).get? b=s.heap.get? b:=fun b n=>Heap.get?_update_other _ _ (Ne.symm n)
  have nr:∀ b o,s.heap.get? b=some o->(∀ ws,o.data≠.fields ws)->b≠T:=fun b o q nf z=>by
   rw [z,gT] at q
   cases q
   exact nf ts dT
  refine entry_D fr (ff.of_keeps fun b o q nf=>⟨o,(ot b (nr b o q nf)).trans q,rfl⟩) lf ((ot e (Ne.symm Te)).trans ge) (fun b o q=>(ot b fun z=>by rw [z,bT] at q;cases q).trans (bs b o q)) be dv (Array.getElem?_eq_some_iff.mp v1).1 v0 fun h' k1 k2 k3 k4=>k h' k1 k2 k3 fun b o q nf=>k4 b o ((ot b (nr b o q nf)).trans q) nf
theorem flight_D {c fl:Value} {dd:Option Addr} {l:List Env} (bs:base.StaysIn s.heap) (ff:s.heap.FunFrames base l) (tr:TrD s.heap base e c a0 dd fl)
  (k:∀ h',base.StaysIn h'->h'.FunFrames base l->TrD h' base e c a0 dd .none->s.heap.UpToSlots h'->Q () { s with heap:=h' }):wpAny M A (setFlight (.ref e) none) Q E s:=by
 obtain ⟨oe,vs,T,oT,ts,ge,hc,hd,v0,dv,v1,bT,Te,gT,dT,t3⟩:=tr
 have s3:3 < ts.size:=(Array.getElem?_eq_some_iff.mp t3).1
 have ot:∀ b,b≠T->(s.heap.update T (Obj.mapFields (·.setIfInBounds 3 ((none:Option Addr).elim Value.none fun f=>rawInt f)))).get? b=s.heap.get? b:=fun b n=>Heap.get?_update_other _ _ (Ne.symm n)
 have nr:∀ b o,s.heap.get? b=some o->(∀ ws,o.data≠.fields ws)->b≠T:=fun b o q nf z=>by
  rw [z,gT] at q
  cases q
  exact nf ts dT
 unfold setFlight
 refine wpAny_bind (wpAny_field ge dv v1 ?_)
 rw [if_pos (show (Value.ref T != Value.none)=true by simp)]
 refine wpAny_setField gT dT s3 (k _ (fun b o q=>(ot b fun z=>by rw [z,bT] at q;cases q).trans (bs b o q)) (ff.of_keeps fun b o q nf=>⟨o,(ot b (nr b o q nf)).trans q,rfl⟩) ?_ fun b o q nf=>⟨o.slots,(ot b (nr b o q nf)).trans q⟩)
 exact ⟨oe,vs,T,_,_,(ot e (Ne.symm Te)).trans ge,hc,hd,v0,dv,v1,bT,Te,Heap.get?_update_self _ gT (Obj.isFreed_of_fields (Obj.data_mapFields dT _)),Obj.data_mapFields dT _,by simp [s3]⟩
theorem TrD.note {h:Heap} {c:Value} {dd:Option Addr} (tr:TrD h base e c a0 dd .none):∃ (oe:Obj) (vs:Array Value),h.get? e=some oe/\oe.cls=c/\oe.dict=dd/\oe.data = .fields vs/\vs[0]? = some a0/\∃ (T:Addr) (oT:Obj) (ts:Array Value),vs[1]? = some (.ref T)/\base.get? T=none/\T≠e/\h.get? T=some oT/\oT.data = .fields ts/\ts[3]? = some .none:=by
 obtain ⟨oe,vs,T,oT,ts,h1,h2,h3,h4,h5,h6⟩:=tr
 exact ⟨oe,vs,h1,h2,h3,h5,h4,T,oT,ts,h6⟩
theorem leave_new {oe:Obj} {vs:Array Value} (fr:A.frames=some (env :: outer)) (ff:s.heap.FunFrames base (env :: outer)) (lf:env.frame=some L) (ge:s.heap.get? e=some oe) (bs:base.StaysIn s.heap) (be:base.get? e=none)
  (dv:oe.data = .fields vs) (v0:vs[0]? = some a0) (v1:vs[1]? = some .none) (k:∀ h',FlyD base outer e oe.cls a0 oe.dict h'->s.heap.UpToSlots h'->Q () { s with heap:=h' }):wpAny M A (leaving env (.ref e)) Q E s:=by
 unfold leaving
 refine wpAny_bind (note_D fr ff lf ge bs be dv v0 (.inl v1) fun h1 k1 k2 k3 k4=>?_)
 refine flight_D k1 k2 k3 fun h2 g1 g2 g3 g4=>k h2 ⟨g1,be,?_,g3⟩ (k4.trans g4)
 obtain ⟨_,_,g2⟩:=g2
 exact g2
theorem leave_on {c:Value} {dd:Option Addr} (fr:A.frames=some (env :: outer)) (lf:env.frame=some L) (fl:FlyD base (env :: outer) e c a0 dd s.heap) (k:∀ h',FlyD base outer e c a0 dd h'->s.heap.UpToSlots h'->Q () { s with heap:=h' }):wpAny M A (leaving env (.ref e)) Q E s:=by
 obtain ⟨bs,be,ff,tr⟩:=fl
 obtain ⟨oe,vs,ge,rfl,rfl,dv,v0,more⟩:=tr.note
 unfold leaving
 refine wpAny_bind (note_D fr ff lf ge bs be dv v0 (.inr more) fun h1 k1 k2 k3 k4=>?_)
 refine flight_D k1 k2 k3 fun h2 g1 g2 g3 g4=>k h2 ⟨g1,be,?_,g3⟩ (k4.trans g4)
 obtain ⟨_,_,g2⟩:=g2
 exact g2
theorem look_D {c:Value} {dd:Option Addr} (fr:A.frames=some (env :: outer)) (lf:env.frame=some L) (fl:FlyD base (env :: outer) e c a0 dd s.heap) (k:∀ h',HldD base (env :: outer) e c a0 dd L h'->s.heap.UpToSlots h'->Q () { s with heap:=h' }):wpAny M A (noteFrame (.ref e) env) Q E s:=by
 obtain ⟨bs,be,ff,tr⟩:=fl
 obtain ⟨oe,vs,ge,rfl,rfl,dv,v0,more⟩:=tr.note
 exact note_D fr ff lf ge bs be dv v0 (.inr more) fun h1 k1 k2 k3 k4=>k h1 ⟨k1,be,k2,k3⟩ k4
theorem land_D {c:Value} {dd:Option Addr} {l:List Env} (hh:HldD base l e c a0 dd L s.heap) (k:∀ h',FlyD base l e c a0 dd h'->s.heap.UpToSlots h'->Q () { s with heap:=h' }):wpAny M A (setFlight (.ref e) none) Q E s:=by
 obtain ⟨bs,be,ff,tr⟩:=hh
 exact flight_D bs ff tr fun h1 k1 k2 k3 k4=>k h1 ⟨k1,be,k2,k3⟩ k4
theorem land_D2 {c:Value} {dd:Option Addr} {l:List Env} (hh:FlyD base l e c a0 dd s.heap) (k:∀ h',FlyD base l e c a0 dd h'->s.heap.UpToSlots h'->Q () { s with heap:=h' }):wpAny M A (setFlight (.ref e) none) Q E s:=by
 obtain ⟨bs,be,ff,tr⟩:=hh
 exact flight_D bs ff tr fun h1 k1 k2 k3 k4=>k h1 ⟨k1,be,k2,k3⟩ k4
end
end L2
end
section
namespace PySem.W
open PySem PySem.Spec PySem.Calls PyProof.Rows Builtin Builtin.ObjectAttr Builtin.Getset_descriptor
abbrev veM:List Value:=[.type "ValueError",.type "Exception",.type "BaseException",.type "object"]
section
variable {prog:Program} {w:World} {A:Around} {E:Value->Shared->Prop} {h:Heap} {g:Array GenState} {dr:Drawn} {t:Nat} {os:OsState} {K:Frag}
variable {nm q:Str} {C N B x:Addr} {bs:List Value} {sn:List Str} {sub:List Value} {ab:Bool} {col:Option Bool} {dd:Option Addr} {k0 k1 k2 k3 k5:Option Value} {name:Str} {v:Value} {o:Obj}
end
end PySem.W
end
section
namespace L2
open PySem PySem.Spec PyProof.Rows PySem.W
theorem HOk.has {P:Program} {w:World} {H:Hp} {h:Heap} (x:HOk P w H h) {a:Addr} {u:HO} (e:H a=some u):∃ o,h.get? a=some o:=by
 have lt:=x.lt e
 cases q:h.get? a with
 | some o=>exact ⟨o,rfl⟩
 | none=>
  exfalso
  have y:=x a u e
  cases u with
  | lst xs=>obtain ⟨_,_,_,_,z⟩:=y;rw [q] at z;cases z
  | tup xs=>obtain ⟨_,_,_,ob,z,_⟩:=y;rw [q] at z;cases z
  | dK kvs=>obtain ⟨_,_,_,_,o,_,_,z,_⟩:=y;rw [q] at z;cases z
  | dT kvs=>obtain ⟨_,_,_,_,o,_,_,z,_⟩:=y;rw [q] at z;cases z
  | set S n=>obtain ⟨o,_,_,_,z,_⟩:=y;rw [q] at z;cases z
  | ins C dx fs=>obtain ⟨_,_,_,z,_⟩:=y;rw [q] at z;cases z
  | own y'=>obtain ⟨_,z⟩:=y;rw [q] at z;cases z
  | xd fs=>obtain ⟨_,⟨_,_,_,z,_⟩,_⟩:=y;rw [q] at z;cases z
  | rng lo hi=>obtain ⟨_,_,_,z⟩:=y;rw [q] at z;cases z
  | frz ob u=>obtain ⟨z,_⟩:=y;rw [q] at z;cases z
  | tbl ps=>have z:h.get? a=some _:=y;rw [q] at z;cases z
  | met f y'=>have z:h.get? a=some _:=y;rw [q] at z;cases z
  | ext φ=>obtain ⟨_,⟨_,z⟩,_⟩:=y;rw [q] at z;cases z
section
variable {P:Program} {w:World} {K:PySem.W.Frag} {mg:Str->Option Value} {base:Heap} {N:List Str} {qual:Str} {scope:Scope} {f:Addr} {cd:Value} {A:Around} {outer:List Env} {s:Shared} {H:Hp} {E:XK}
end
end L2
end
section
namespace L2
open PySem PySem.Spec PyProof.Rows PySem.W
abbrev veM:List Value:=[.type "ValueError",.type "Exception",.type "BaseException",.type "object"]
def ExnOk (K:PySem.W.Frag) (C:Addr):Prop:=∃ (nm q:Str) (N:Addr) (bs bm:List Value) (hdct:Bool) (sn:List Str) (sub:List Value) (ab:Bool) (col:Option Bool) (dd:Option Addr) (k0 k1 k2 k3 k5:Option Value) (mN:Str->Option Value),mN "__init__" = none ∧
 ∀ h:Heap,K.In h->h.get? C=some (excClassObj nm q C N bs bm hdct sn sub ab col dd k0 k1 k2 k3 k5 "ValueError.__new__")/\h.Ns N mN/\OwnTail h veM bm
def tRaise (E:XK) (C:Addr) (t:TA):TS:=fun _ σ H=>t σ H fun vs H1=>vs.length<=1000/\E (.ref C) none H1
section
variable {P:Program} {w:World} {K:PySem.W.Frag} {mg:Str->Option Value} {base:Heap} {N:List Str} {qual:Str} {scope:Scope} {f:Addr} {cd:Value} {A:Around} {outer:List Env} {s:Shared} {H:Hp} {E:XK}
end
section
variable {X:Cx} {x:Str} {p pos epos:Pos} {e:Expr} {es:List Expr} {t:TA} {k:Nat} {ps:List Str} {sp:Sp}
end
end L2
end
section
namespace L2
open PySem PySem.Spec PyProof.Rows PySem.W
abbrev Cx.held (X:Cx) (x:Addr):Cx:={ X with A:=X.A.mark (some (.ref x)),calm:=false,xe:=fun _ _=>False }
section
variable {X:Cx} {pins:List (Addr×Obj)} {σ:St} {H H':Hp} {s s':Shared}
theorem Cx.Ok.held {x:Addr} (ok:X.Ok):(X.held x).Ok:=
 ⟨ok.mod,ok.kind,ok.glob,ok.blt,ok.above,ok.inj,ok.has,ok.cab,fun z=>Bool.noConfusion z,ok.frames,ok.stk,ok.exf,ok.bs,ok.bsz,ok.noex,ok.exfs,ok.funs,ok.frf⟩
theorem Inv.held {x:Addr} (I:Inv X pins σ H s):Inv (X.held x) pins σ H s:=⟨I.ok.held,I.os,I.bare,I.base,I.loc,I.cell,I.free,I.freeC,I.pin,I.hok,I.len⟩
theorem Inv.unheld {x:Addr} (ok:X.Ok) (I:Inv (X.held x) pins σ H s):Inv X pins σ H s:=⟨ok,I.os,I.bare,I.base,I.loc,I.cell,I.free,I.freeC,I.pin,I.hok,I.len⟩
theorem name_goes {M:Model} {A:Around} {E:Value->Shared->Prop} {i:Nat} {x:Str} {pos:Pos} {Q:Unit->Shared->Prop} (I:Inv X pins σ H s) (hN:X.N.Nodup) (hi:X.N[i]? = some x) (hk:X.env.scope.names.lookup x=some .local)
  (h:∀ s',Inv X pins (σ.set i none) H s'->Q () s'):wpAny M A (do bindName X.env x .none;unbindBehindTheSuite X.env x pos) Q E s:=by
 obtain ⟨m,hn,hl⟩:=id I.loc
 have hcls:(X.env.scope.kind == .class || (X.env.scope.kind == .module && X.env.locals != X.env.globals))=false:=by rw [I.ok.kind];rfl
 have cne:=I.cne
 refine wpAny_nameGoes_keeps hk hn hcls fun h' v hn' hs=>?_
 obtain ⟨oL,_,_,hoL,_⟩:=id hn
 refine h _ ⟨I.ok,I.os,I.bare,⟨fun b o e n hb hx=>?_,fun b o e n hb hx=>?_,I.base.free,fun b o e hx=>?_,I.base.tups,I.base.frzs,I.base.tbls⟩,⟨_,hn',fun j y v' e1 e2 e3=>?_⟩,fun y c e=>?_,I.free,I.freeC,fun p hp=>?_,fun b ob e=>?_,by simpa using I.len⟩
 ·exact (hs.2 b (Nat.ne_of_lt (Nat.lt_of_lt_of_le (Heap.lt_size e) I.ok.above))).trans (I.base.keep b o e n hb hx)
 ·obtain ⟨sl,e1⟩:=I.base.slot b o e n hb hx
  exact ⟨sl,(hs.2 b (Nat.ne_of_lt (Nat.lt_of_lt_of_le (Heap.lt_size e) I.ok.above))).trans e1⟩
 ·obtain ⟨o',e1⟩:=I.base.there b o e hx
  exact ⟨o',(hs.2 b (Nat.ne_of_lt (Nat.lt_of_lt_of_le (Heap.lt_size e) I.ok.above))).trans e1⟩
 ·by_cases hj:j=i
  ·subst hj
   have hiσ:j < σ.length:=by rw [I.len];exact (List.getElem?_eq_some_iff.mp hi).1
   rw [List.getElem?_set_self hiσ] at e2
   cases e2
  ·rw [List.getElem?_set_ne (Ne.symm hj)] at e2
   obtain ⟨u',r',q⟩:=hl j y v' e1 e2 e3
   refine ⟨u',r',?_⟩
   rcases q with ⟨k,e⟩ | ⟨k,c,e,z⟩
   ·refine .inl ⟨k,?_⟩
    have:y≠x:=fun e=>hj (nodup_ix hN e1 (e ▸ hi))
    simp [this,e]
   ·exact .inr ⟨k,c,e,z.sameBut hs (cne y c e)⟩
 ·obtain ⟨w',z⟩:=I.cell y c e
  exact ⟨w',z.sameBut hs (cne y c e)⟩
 ·obtain ⟨e,n,ne,nf,d⟩:=I.pin p hp
  exact ⟨(hs.2 p.1 ne).trans e,n,ne,nf,d⟩
 ·refine (I.hok b ob e).stay (fun c w' hc q=>(hs.2 c ?_).trans q) (fun _ q=>q) fun _ _ q=>q
  rintro rfl
  rcases hc with rfl | hc
  ·rw [I.free] at e;cases e
  ·rw [I.free] at hc;cases hc
end
section
variable {X:Cx} {np hpos pos:Pos} {body suite:List Stmt} {b₀:Stmt} {tb:XK->TS} {ts:TS}
end
end L2
end
section
namespace PySem.W
open PySem PySem.Spec PySem.Calls PyProof.Rows Builtin Builtin.ObjectAttr Builtin.Getset_descriptor
section
variable {prog:Program} {w:World} {A:Around} {E:Value->Shared->Prop} {s:Shared} {K:Frag} {x C:Addr}
structure ExCls (K:Frag) (C:Addr):Prop where
 ga:findIn K (.ref C) "__getattribute__" = some (some (.builtin "BaseException.__getattribute__"))
 gh:findIn K (.ref C) "__getattr__" = some none
 be:mroIn K C (.type "BaseException")=some true
 cls:(clsIn K C).isSome=true
 at_:findIn K (.ref C) "__class__" = some (some (.builtin "object.__class__"))
 sp:specialIn K (.builtin "object.__class__") "__get__" = some (some (.builtin "getset_descriptor.__get__"))
 tk:takesIn K (.builtin "object.__class__")=some true
 ob:mroIn K C (.type "object")=some true
theorem exc_find {M:Model} {h:Heap} (Z:ExCls K C) (X:K.In h):Looks M h (find (.ref x) (.ref C) "__class__") (.bind (.builtin "getset_descriptor.__get__") (.builtin "object.__class__")):=
 (looks_findIn X Z.at_).andThen (Looks.andThen (looks_specialIn X Z.sp) (Looks.andThen (a:=some (Value.builtin "getset_descriptor.__get__",Value.builtin "object.__class__")) ((looks_takesIn X Z.tk).andThen .now) (Looks.tag .now)))
theorem exc_attr {Q:Option Value->Shared->Prop} (Z:ExCls K C) (X:K.In s.heap) (T:∀ M,Looks M s.heap (typeOf (.ref x)) (.ref C)) (q:Q (some (.ref C)) { s with toks:=s.toks+1 }):wpAny (model prog w) A (getAttr? (.ref x) "__class__") Q E s:=by
 obtain ⟨hh,gg,dd,tt,oo⟩:=s
 have t0:=T (model prog w)
 have t1:=looks_findIn (M:=model prog w) X Z.ga
 have t2:=exc_find (M:=model prog w) (x:=x) Z X
 have t3:=looks_findIn (M:=model prog w) X Z.gh
 have t4:=looks_mroIn (M:=model prog w) X Z.ob
 have t5:=looks_mroIn (M:=model prog w) X Z.be
 have hx2:(onTheHeap (Value.ref C) && Value.builtin "BaseException.__getattribute__" == Value.builtin "object.__getattribute__")=false:=by
  have:(Value.builtin "BaseException.__getattribute__" == Value.builtin "object.__getattribute__")=false:=by decide +kernel
  rw [this,Bool.and_false]
 have hk:builtinKind "BaseException.__getattribute__" = some .slot:=by decide +kernel
 have hsplit:splitId "BaseException.__getattribute__" = some ("BaseException","__getattribute__"):=by decide +kernel
 unfold getAttr? getAttrBy? getAttrBy
 refine wpAny_bind (wpAny_mkText (wpAny_bind (wpAny_attempt (wpAny_holding (wpAny_bind (t0.at (wpAny_bind (t1.at ?_))))))))
 show wpAny _ _ (if (onTheHeap (Value.ref C) && Value.builtin "BaseException.__getattribute__" == Value.builtin "object.__getattribute__")=true then _ else getAttrByItsOwn _ _ _ _ _ _) _ _ _
 rw [hx2,if_neg (by decide)]
 unfold getAttrByItsOwn
 refine wpAny_bind ?_
 show wpAny _ _ (typeLookup (.ref C) "__getattr__") _ _ _
 refine t3.at (wpAny_bind (wpAny_attempt (wpAny_holding ?_)))
 show wpAny _ _ (boundAndCalled _ _ _) _ _ _
 unfold boundAndCalled
 rw [F.excAttr_ValueError.ga.bind (.ref x)]
 refine wpAny_bind (wpAny_pure ?_)
 show wpAny _ _ (call (.builtin "BaseException.__getattribute__") [.ref x,_]) _ _ _
 refine wpAny_call (codeAny_call_builtin F.excAttr_ValueError.ga.plain F.entry_bexc_ga ?_)
 have ha:=F.args_bexc_ga (.ref x) (.str "__class__" tt)
 simp only [checkBuiltinCall,hk,hsplit]
 unfold isInstance
 repeat ((fail_if_success with_reducible refine wpAny_call ?_);lk)
 refine wpAny_call ?_
 refine codeAny_call_builtin KF.slot_gs.plain KF.entry_gs (KF.slot_gs.check _ _ _ _ _ _ _ _ KF.type_class (KF.args_gs _ _ _) ?_)
 unfold Builtin.«getset_descriptor.__get__» descrGet
 rw [dga_obj]
 refine wpAny_bind (wpAny_pure ?_)
 unfold descrGetter descrCheckInstance descrNameAndClass isInstance
 simp only [KF.owner_class]
 repeat lk
 refine ⟨Code.quiet_builtin _ (by decide +kernel),codeAny_builtin KF.entry_class ?_⟩
 unfold Builtin.«object.__class__» shownTypeOf
 repeat lk
 exact q
theorem kitx_exc (Z:ExCls K C):KitX K (.ref x) (.ref C) (fun h=>∃ o,h.get? x=some o/\o.cls = .ref C) where
 ty:=fun M h _ p=>by
  obtain ⟨o,e,c⟩:=p
  exact c ▸ (Looks.ld e).andThen .now
 it:=fun _ _ X _=>by
  obtain ⟨cd,hc⟩:=Option.isSome_iff_exists.mp Z.cls
  unfold clsIn at hc
  split at hc
  ·rename_i ho
   intro A' Q' E' s' k q
   unfold isType loadHead
   exact wpAny_bind (wpAny_loadPart (k _ _ (X _ _ ho)) (wpAny_pure q))
  ·cases hc
 ne:=fun h tp dd its n sl X htp=>by
  refine Bool.eq_false_iff.mpr fun q=>?_
  obtain rfl:C=tp:=Value.ref.inj (beq_iff_eq.mp q)
  obtain ⟨cd,hc⟩:=Option.isSome_iff_exists.mp Z.cls
  unfold clsIn at hc
  split at hc
  ·rename_i ho
   have z:=(X _ _ ho).symm.trans htp
   cases z
  ·cases hc
 ca:=fun X p k=>exc_attr Z X (fun M=>by obtain ⟨o,e,c⟩:=p;exact c ▸ (Looks.ld e).andThen .now) k
end
end PySem.W
namespace L2
open PySem PySem.Spec PyProof.Rows PySem.W
section
variable {X:Cx} {p pos:Pos} {e:Expr} {es:List Expr} {t:TA}
theorem e_clsX (x:Str) {a:Addr} {mg':Str->Option Value} (hm:mg' x=some (.ref a)) (hX:X.mg=mg') (hg:gB X x=true:=by kernel_rfl) (hd:(x == ("__debug__" : Str))=false:=by kernel_rfl):PE X (.Name x pos) (tC (.ref a)):=
 pe_glob (gl_of hg) (by rw [hX];exact hm) rfl hd
theorem e_tyVE {mg':Str->Option Value} (hm:mg' "ValueError" = none) (hX:X.mg=mg') (hg:gB X "ValueError" = true:=by kernel_rfl):PE X (.Name "ValueError" pos) (tC (.ty "ValueError")):=
 pe_bltn (gl_of hg) (by rw [hX];exact hm) (u:=.type "ValueError") (by first | rfl | kernel_rfl | exact PyProof.Rows.Boot.«ValueError») rfl
end
end L2
end
section
namespace L2
open PySem PySem.Spec PyProof.Rows PySem.W
def ExcD (a:Addr) (c:Value) (dd:Option Addr):HO:=.ext fun h=>∃ o,h.get? a=some o/\o.cls=c/\o.dict=dd/\∃ vs,o.data = .fields vs
theorem ExcD.mk {P:Program} {w:World} {H:Hp} {h:Heap} {a:Addr} {c:Value} {dd:Option Addr} {o:Obj} {vs:Array Value} (e:h.get? a=some o) (hc:o.cls=c) (hd:o.dict=dd) (hv:o.data = .fields vs):ObjOk P w H h a (ExcD a c dd):=
 ⟨⟨o,e,hc,hd,vs,hv⟩,⟨o,e⟩,fun h1 h2 ⟨o1,e1,c1⟩ k=>⟨o1,k o1 e1,c1⟩⟩
def CX2 (P:Program) (w:World):CXT:=fun outer H s E e s'=>∃ (x:Addr) (c a0:Value) (dd:Option Addr) (B:Heap) (H':Hp),e = .ref x/\s'.os=s.os/\AllBare s'.gens/\Un (frs outer) [] H H' s.heap s'.heap/\HOk P w H' s'.heap/\FlyD B outer x c a0 dd s'.heap ∧
 (∀ b o,s.heap.get? b=some o->H b=none->b ∉ frs outer->B.get? b=some o)/\(∀ b o,s.heap.get? b=some o->b ∉ frs outer->∃ o',B.get? b=some o')/\(∀ b u,H' b=some u->∀ o,s'.heap.get? b=some o->B.get? b=some o)/\E c dd H'
section
variable {P:Program} {w:World} {K:PySem.W.Frag} {mg:Str->Option Value} {base:Heap} {N:List Str} {qual:Str} {scope:Scope} {f:Addr} {cd:Value} {A:Around} {outer:List Env} {s:Shared} {H:Hp} {E:XK}
def ExcN (x C:Addr) (dd:Option Addr):HO:=.ext fun h=>∃ (ta:Addr) (sl:Array (Option Value)),h.get? x=some { cls:=.ref C,dict:=dd,data:=.fields #[.ref ta,.none,.none,.none,.bool false,.none],slots:=sl }
theorem ExcN.mk {P:Program} {w:World} {H:Hp} {h:Heap} {x C:Addr} {dd:Option Addr} {ta:Addr} {sl:Array (Option Value)} (e:h.get? x=some { cls:=.ref C,dict:=dd,data:=.fields #[.ref ta,.none,.none,.none,.bool false,.none],slots:=sl }):ObjOk P w H h x (ExcN x C dd):=
 ⟨⟨ta,sl,e⟩,⟨_,e⟩,fun h1 h2 ⟨t1,s1,e1⟩ k=>⟨t1,s1,k _ e1⟩⟩
theorem esc3 {pins:List (Addr×Obj)} {σ:St} {H3:Hp} {s3:Shared} {x C:Addr} {dd:Option Addr} (I:Inv (cxOf (CX2 P w) P w K mg base N qual scope f cd A outer s H E) pins σ H3 s3) (hx:H3 x=some (ExcN x C dd)) (nx:∀ b o,s.heap.get? b=some o->b≠x)
  (q:E (.ref C) dd (fun b=>if b=x then none else H3 b)):(cxOf (CX2 P w) P w K mg base N qual scope f cd A outer s H E).xe (.ref x) s3:=by
 obtain ⟨⟨ta,sl,gx⟩,_⟩:=I.hok x _ hx
 have fr:s3.heap.FunFrames base (envOfC qual scope s.heap.objs.size f cd :: outer):=I.stack
 have free:∀ b∈frs (envOfC qual scope s.heap.objs.size f cd :: outer),H3 b=none:=I.stkFree
 have un:Un (frs outer) [] H H3 s.heap s3.heap:=I.base
 have notL:∀ b o,s.heap.get? b=some o->b ∉ frs outer->b ∉ frs (envOfC qual scope s.heap.objs.size f cd :: outer):=fun b o e n hm=>by
  have hm':b∈s.heap.objs.size :: frs outer:=hm
  rcases List.mem_cons.mp hm' with z | z
  ·exact absurd (Heap.lt_size e) (by rw [z];exact Nat.lt_irrefl _)
  ·exact n z
 have wo:∀ b u,H3 b=some u->b≠x->(fun b=>if b=x then none else H3 b) b=some u:=fun b u e n=>by
  show (if b=x then none else H3 b)=some u
  rw [if_neg n];exact e
 have wo':∀ b u,(fun b=>if b=x then none else H3 b) b=some u->b≠x/\H3 b=some u:=fun b u e=>by
  have e:(if b=x then none else H3 b)=some u:=e
  by_cases z:b=x
  ·rw [if_pos z] at e;cases e
  ·rw [if_neg z] at e;exact ⟨z,e⟩
 have hid:∀ b o,s3.heap.get? b=some o->b≠x->b ∉ frs (envOfC qual scope s.heap.objs.size f cd :: outer)->(hideAll s3.heap (x :: frs (envOfC qual scope s.heap.objs.size f cd :: outer))).get? b=some o:=fun b o e n m=>hideAll_get _ e fun z=>(List.mem_cons.mp z).elim n m
 refine leave_new (base:=hideAll s3.heap (x :: frs (envOfC qual scope s.heap.objs.size f cd :: outer))) (L:=s.heap.objs.size) I.ok.frames (funFrames_hide fr fun env he b hb=>List.mem_cons_of_mem _ (List.mem_filterMap.mpr ⟨env,he,hb⟩)) rfl gx (fun b o z=>of_hideAll _ z) (hideAll_none _ (List.mem_cons_self ..)) rfl rfl rfl fun h3 fl up=>?_
 have stay:∀ b o,s3.heap.get? b=some o->b≠x->b ∉ frs (envOfC qual scope s.heap.objs.size f cd :: outer)->h3.get? b=some o:=fun b o e n m=>fl.1 b o (hid b o e n m)
 have trk:∀ b u,H3 b=some u->b ∉ frs (envOfC qual scope s.heap.objs.size f cd :: outer):=fun b u e hm=>by rw [free b hm] at e;cases e
 refine ⟨x,_,_,_,_,(fun b=>if b=x then none else H3 b),rfl,I.os,I.bare,⟨fun b o e n nf _=>?_,fun b o e n hf _=>?_,fun b o e n hb=>?_,fun b o e hb=>?_,fun b xs e=>?_,fun b o u e=>?_,fun b ps e=>?_⟩,fun b u e=>?_,fl,fun b o e n nf=>?_,fun b o e nf=>?_,fun b u e o ho=>?_,q⟩
 ·exact stay b o (un.keep b o e n nf (by simp)) (nx b o e) (notL b o e nf)
 ·obtain ⟨sl,e1⟩:=un.slot b o e n hf (by simp)
  have hm:b∈frs (envOfC qual scope s.heap.objs.size f cd :: outer):=List.mem_cons_of_mem _ hf
  obtain ⟨_,o',ho',nd⟩:=fr.mem hm
  rw [e1] at ho'
  cases ho'
  obtain ⟨sl2,e2⟩:=up b _ e1 nd
  exact ⟨sl2,e2⟩
 ·show (if b=x then none else H3 b)=none
  rw [un.free b o e n hb]
  split<;>rfl
 ·obtain ⟨o',e1⟩:=un.there b o e hb
  by_cases hm:b∈frs (envOfC qual scope s.heap.objs.size f cd :: outer)
  ·obtain ⟨_,o2,ho2,nd⟩:=fr.mem hm
   obtain ⟨sl2,e2⟩:=up b _ ho2 nd
   exact ⟨_,e2⟩
  ·exact ⟨o',stay b o' e1 (nx b o e) hm⟩
 ·have e':=un.tups b xs e
  exact wo b _ e' fun z=>by rw [z,hx] at e';cases e'
 ·have e':=un.frzs b o u e
  exact wo b _ e' fun z=>by rw [z,hx] at e';cases e'
 ·obtain ⟨m,e'⟩:=un.tbls b ps e
  exact ⟨m,wo b _ e' fun z=>by rw [z,hx] at e';cases e'⟩
 ·obtain ⟨nb,e⟩:=wo' b u e
  refine (I.hok b u e).stay (fun b' u' hb' e'=>?_) (fun b' z=>?_) fun b' xs z=>?_
  ·rcases hb' with rfl | z
   ·exact stay _ u' e' nb (trk _ _ e)
   ·exact stay _ u' e' (fun y=>by rw [y,hx] at z;cases z) (trk _ _ z)
  ·exact wo _ _ z fun y=>by rw [y,hx] at z;cases z
  ·exact wo _ _ z fun y=>by rw [y,hx] at z;cases z
 ·exact hid b o (un.keep b o e n nf (by simp)) (nx b o e) (notL b o e nf)
 ·obtain ⟨o',e1⟩:=un.there b o e (by simp)
  exact ⟨o',hid b o' e1 (nx b o e) (notL b o e nf)⟩
 ·obtain ⟨nb,e⟩:=wo' b u e
  obtain ⟨o1,e1⟩:=I.hok.has e
  have:=stay b o1 e1 nb (trk b u e)
  rw [ho] at this
  cases this
  exact hid b o e1 nb (trk b u e)
theorem pass2 {E':XK} (hE:∀ c dd H',E' c dd H'->E c dd H'):Passes (CX2 P w) (cxOf (CX2 P w) P w K mg base N qual scope f cd A outer s H E) E':=by
 rintro pins σ H1 s1 e s' I ⟨x,c,a0,dd,B,H',rfl,os,bare,un,ok',fl,k1,k3,k2,q⟩
 refine leave_on (L:=s.heap.objs.size) I.ok.frames rfl fl fun h3 fl3 up=>?_
 obtain ⟨f1,f2,f3,f4⟩:=id fl
 have nofr:x ∉ frs (envOfC qual scope s.heap.objs.size f cd :: outer):=fun hm=>by
  obtain ⟨_,o,ho,nd⟩:=f3.mem hm
  obtain ⟨oe,vs,_,_,_,he,_,_,_,hd,_⟩:=f4
  rw [he] at ho
  cases ho
  exact nd vs hd
 have unA:Un (frs outer) [] H H1 s.heap s1.heap:=I.base
 have unB:Un (frs (envOfC qual scope s.heap.objs.size f cd :: outer)) [] H1 H' s1.heap s'.heap:=un
 have notL:∀ b o,s.heap.get? b=some o->b ∉ frs outer->b ∉ frs (envOfC qual scope s.heap.objs.size f cd :: outer):=fun b o e n hm=>by
  have hm':b∈s.heap.objs.size :: frs outer:=hm
  rcases List.mem_cons.mp hm' with z | z
  ·exact absurd (Heap.lt_size e) (by rw [z];exact Nat.lt_irrefl _)
  ·exact n z
 have freeS:∀ b∈frs (envOfC qual scope s.heap.objs.size f cd :: outer),H1 b=none:=I.stkFree
 have inB:∀ b o,s.heap.get? b=some o->H b=none->b ∉ frs outer->B.get? b=some o:=fun b o e n nf=>k1 b o (unA.keep b o e n nf (by simp)) (unA.free b o e n (by simp)) (notL b o e nf)
 have inB3:∀ b o,s.heap.get? b=some o->b ∉ frs outer->∃ o',B.get? b=some o':=fun b o e nf=>by
  obtain ⟨o',e1⟩:=unA.there b o e (by simp)
  exact k3 b o' e1 (notL b o e nf)
 refine ⟨x,c,a0,dd,B,H',rfl,os.trans I.os,bare,⟨fun b o e n nf _=>fl3.1 b o (inB b o e n nf),fun b o e n hf _=>?_,fun b o e n hb=>?_,fun b o e hb=>?_,fun b xs e=>unB.tups b xs (unA.tups b xs e),fun b o u e=>unB.frzs b o u (unA.frzs b o u e),fun b ps e=>?_⟩,fun b u e=>?_,fl3,inB,inB3,fun b u e o ho=>?_,hE _ _ _ q⟩
 ·have hm:b∈frs (envOfC qual scope s.heap.objs.size f cd :: outer):=List.mem_cons_of_mem _ hf
  obtain ⟨sl,e1⟩:=unA.slot b o e n hf (by simp)
  obtain ⟨sl2,e2⟩:=unB.slot b _ e1 (freeS b hm) hm (by simp)
  obtain ⟨_,o',ho',nd⟩:=f3.mem hm
  rw [e2] at ho'
  cases ho'
  obtain ⟨sl3,e3⟩:=up b _ e2 nd
  exact ⟨sl3,e3⟩
 ·obtain ⟨o',e1⟩:=unA.there b o e hb
  exact unB.free b o' e1 (unA.free b o e n hb) (by simp)
 ·by_cases hm:b∈frs (envOfC qual scope s.heap.objs.size f cd :: outer)
  ·obtain ⟨_,o2,ho2,nd⟩:=f3.mem hm
   obtain ⟨sl2,e2⟩:=up b _ ho2 nd
   exact ⟨_,e2⟩
  ·obtain ⟨o',q'⟩:=inB3 b o e fun z=>hm (List.mem_cons_of_mem _ z)
   exact ⟨o',fl3.1 b o' q'⟩
 ·obtain ⟨m1,e1⟩:=unA.tbls b ps e
  obtain ⟨m2,e2⟩:=unB.tbls b _ e1
  exact ⟨m1++m2,by rw [e2,Array.append_assoc]⟩
 ·refine (ok' b u e).stay (fun b' u' hb' e'=>?_) (fun _ z=>z) fun _ _ z=>z
  rcases hb' with rfl | z
  ·exact fl3.1 _ u' (k2 _ _ e u' e')
  ·exact fl3.1 _ u' (k2 _ _ z u' e')
 ·obtain ⟨o1,e1⟩:=ok'.has e
  have b1:=k2 b u e o1 e1
  have:=fl3.1 b o1 b1
  rw [ho] at this
  cases this
  exact b1
end
end L2
end
section
namespace L2
open PySem PySem.Spec PyProof.Rows PySem.W
def spInit (C:Addr):Sp:=fun vs H Q _=>match vs with
 | [.ref x,.int n]=>(0<=n/\n < 2048)/\H x=some (ExcN x C none)/\∀ d,H d=none->d≠x->Q .non (upd (upd H x (ExcN x C (some d))) d (.xd [("at",.int n)]))
 | _=>False
section
variable {X:Cx} {pins:List (Addr×Obj)} {σ:St} {H:Hp} {s:Shared} {C fI:Addr} {fd:FuncData} {k:Nat}
end
section
variable {P:Program} {w:World} {K:PySem.W.Frag} {mg:Str->Option Value} {base:Heap} {N:List Str} {qual:Str} {scope:Scope} {f:Addr} {cd:Value} {A:Around} {outer:List Env} {s:Shared} {H:Hp} {E:XK}
end
end L2
end
section
namespace L2
open PySem PySem.Spec PyProof.Rows PySem.W
section
variable {X:Cx} {p pos apos epos:Pos} {b:Str} {B C fI:Addr} {e:Expr} {es:List Expr} {t:TA} {mg':Str->Option Value}
end
section
variable {X:Cx} {pos pos':Pos} {C fI:Addr} {o value:Expr} {ta tv:TE}
end
end L2
end
section
namespace L2
open PySem PySem.Spec PyProof.Rows PySem.W
section
variable {X:Cx} {p pos:Pos} {e:Expr} {es:List Expr} {t:TA} {ta:TE}
def rIsY (K:PySem.W.Frag):List V->Hp->VK->Prop:=fun vs H Q=>match vs with
 | [.ref x,.ref D]=>∃ C dd b,PySem.W.ExCls K C/\H x=some (ExcD x (.ref C) dd)/\(PySem.W.kitOne K (.ref C) (.ref D)=some b\/∃ ds:List Addr,H D=some (.tup (ds.map V.ref))/\PySem.W.kitAny K (.ref C) (ds.map Value.ref)=some b)/\Q (.bl b) H
 | [.ref x,.ty T]=>∃ C dd b,PySem.W.ExCls K C/\H x=some (ExcD x (.ref C) dd)/\PySem.W.kitOne K (.ref C) (.type T)=some b/\Q (.bl b) H
 | _=>False
theorem vals_refs:∀ {ds:List Addr} {us:List Value},Vals (ds.map V.ref) us->us=ds.map Value.ref
 | [],_,r=>by cases r;rfl
 | d :: ds,_,r=>by
  cases r with
  | cons r1 r2=>
   cases r1
   rw [vals_refs r2];rfl
theorem call_isY:CallR X (.builtin "isinstance") (rIsY X.K):=by
 intro pins s σ H vs us Q I r h
 unfold rIsY at h
 split at h
 ·rename_i x D
  obtain ⟨C,dd,b,Z,hx,k,q⟩:=h
  obtain ⟨u,w',rfl,r1,r2⟩:=vals2 r
  cases r1
  cases r2
  obtain ⟨⟨o,gx,hc,_⟩,_⟩:=I.hok x _ hx
  rcases k with k | ⟨ds,hD,k⟩
  ·exact kia_one (kitx_exc Z) I.kIn ⟨o,gx,hc⟩ k (by intro z;cases z) fun tk=>⟨.bl b,H,I.tok _,rfl,q⟩
  ·obtain ⟨_,its,rv,o2,g2,c2,n2,d2⟩:=I.hok D _ hD
   have ei:=vals_refs rv
   subst ei
   obtain ⟨oc,od,odt,osl⟩:=o2
   dsimp only at c2 d2
   subst c2
   subst d2
   exact kia_tup (kitx_exc Z) I.kIn ⟨o,gx,hc⟩ g2 k (by intro z;cases z) fun tk=>⟨.bl b,H,I.tok _,rfl,q⟩
 ·rename_i x T
  obtain ⟨C,dd,b,Z,hx,k,q⟩:=h
  obtain ⟨u,w',rfl,r1,r2⟩:=vals2 r
  cases r1
  obtain rfl:w' = .type T:=r2
  obtain ⟨⟨o,gx,hc,_⟩,_⟩:=I.hok x _ hx
  exact kia_one (kitx_exc Z) I.kIn ⟨o,gx,hc⟩ k (by intro z;cases z) fun tk=>⟨.bl b,H,I.tok _,rfl,q⟩
 ·exact h.elim
theorem fn_isY {mg':Str->Option Value} (hm:mg' "isinstance" = none) (hX:X.mg=mg') (ha:PA X (e :: es) t) (hg:gB X "isinstance" = true:=by kernel_rfl) (he:starEach (e :: es) X.env=(false,eval e X.env) :: starEach es X.env:=by kernel_rfl) (hpl:(backTo pos (starEach es X.env)).any (·.1)=false:=by kernel_rfl) :
  PE X (.Call (.Name "isinstance" p) (e :: es) [] pos) (tCB (rIsY X.K) t):=pe_callB call_isY (gl_of hg) (by rw [hX];exact hm) PyProof.Rows.boot_isinstance ha (he:=he) (hpl:=hpl)
end
def CanY (P:Program) (w:World) (K:PySem.W.Frag) (mg:Str->Option Value) (base:Heap) (x:Str) (k:Nat) (ps:List Str) (sp:Sp):Prop:=
 ∃ f fd,FnOk P w K mg base (CX2 P w) k f fd ps sp/\mg x=some (.ref f)/\PySem.W.keepIn K (.ref f)=true/\Binds K fd ps []
section
variable {P:Program} {w:World} {K:PySem.W.Frag} {mg:Str->Option Value} {base:Heap} {N:List Str} {qual:Str} {scope:Scope} {f:Addr} {cd:Value} {A:Around} {outer:List Env} {s:Shared} {H:Hp} {E:XK}
theorem canY_fn {x:Str} {st:Stmt} {N ps:List Str} {k:Nat} {sp:Sp} (D:FnX K mg x st ps) (S:FnScope N ps (defScope st)) (len:∀ vs H Q E,sp vs H Q E->vs.length=ps.length)
  (hbody:∀ (f:Addr) (cdv:Value) (A:Around) (outer:List Env) (s:Shared) (H:Hp) (vs:List V) (Q:VK) (E:XK),Room k (A.deeper (envOfC x (defScope st) s.heap.objs.size f cdv))->sp vs H Q E →
   ∃ t,PSs (cxOf (CX2 P w) P w K mg base N x (defScope st) f cdv A outer s H E) (defBody st) t/\t { nx:=fun _ H'=>Q .non H',rt:=Q } (start N vs) H):CanY P w K mg base x (k+1) ps sp:=by
 obtain ⟨f,fd,F,hm,hb⟩:=D
 obtain ⟨oc,od,kV,doc,pm,an,cdv,ct,osl,rfl,lk,hcd⟩:=F.ex
 exact ⟨f,_,fn_of lk hcd S len fun A outer s H vs Q E hr hsp=>hbody f cdv A outer s H vs Q E hr hsp,hm,F.kp,hb⟩
theorem fn_canY (x:Str) {p pos:Pos} {e:Expr} {es:List Expr} {t:TA} {k:Nat} {ps:List Str} {sp:Sp} (C:CanY P w K mg base x k ps sp) (hr:Room k (cxOf (CX2 P w) P w K mg base N qual scope f cd A outer s H E).A) (ha:PA (cxOf (CX2 P w) P w K mg base N qual scope f cd A outer s H E) (e :: es) t)
  (hg:gB (cxOf (CX2 P w) P w K mg base N qual scope f cd A outer s H E) x=true:=by kernel_rfl) (hdb:(x == ("__debug__" : Str))=false:=by kernel_rfl)
  (he:starEach (e :: es) (cxOf (CX2 P w) P w K mg base N qual scope f cd A outer s H E).env=(false,eval e (cxOf (CX2 P w) P w K mg base N qual scope f cd A outer s H E).env) :: starEach es (cxOf (CX2 P w) P w K mg base N qual scope f cd A outer s H E).env:=by kernel_rfl)
  (hpl:(backTo pos (starEach es (cxOf (CX2 P w) P w K mg base N qual scope f cd A outer s H E).env)).any (·.1)=false:=by kernel_rfl) :
  PE (cxOf (CX2 P w) P w K mg base N qual scope f cd A outer s H E) (.Call (.Name x p) (e :: es) [] pos) (tCall sp [] E t):=by
 obtain ⟨g,fd,F,hm,hk,hb⟩:=C
 exact pe_call (X:=cxOf (CX2 P w) P w K mg base N qual scope f cd A outer s H E) F hr (gl_of hg) hm hk hb .nil (pass2 fun _ _ _ q=>q) ha hdb he hpl
end
end L2
end
section
namespace L2
open PySem PySem.Spec PyProof.Rows PySem.W
def PB2 (X:Cx) (st:List Stmt) (t:XK->TS):Prop:=
 ∀ (pins:List (Addr×Obj)) (s:Shared) (σ:St) (H:Hp) (D:Ends) (E:XK),Inv X pins σ H s->t E D σ H →
  wpAny (model X.prog X.w) X.A (execs st X.env) (SP X pins D) (fun e s'=>∃ H1 s1,Inv X pins σ H1 s1/\CX2 X.prog X.w X.stack H1 s1 E e s') s
section
variable {X:Cx} {x:Str} {p pos epos:Pos} {e:Expr} {es:List Expr} {t:TA} {k:Nat} {ps:List Str} {sp:Sp}
end
section
variable {X:Cx} {pins:List (Addr×Obj)} {σ:St} {H H':Hp} {s s':Shared}
theorem land2 {x:Addr} {c a0:Value} {dd:Option Addr} {B h6:Heap} (I:Inv X pins σ H s) (os:s'.os=s.os) (bare:AllBare s'.gens) (un:Un (frs X.stack) [] H H' s.heap s'.heap) (hok:HOk X.prog X.w H' s'.heap) (fl:FlyD B X.stack x c a0 dd s'.heap)
  (k1:∀ b o,s.heap.get? b=some o->H b=none->b ∉ frs X.stack->B.get? b=some o) (k3:∀ b o,s.heap.get? b=some o->b ∉ frs X.stack->∃ o',B.get? b=some o') (k2:∀ b u,H' b=some u->∀ o,s'.heap.get? b=some o->B.get? b=some o)
  (st:B.StaysIn h6) (up:s'.heap.UpToSlots h6) {ox:Obj} {vx:Array Value} (hx:h6.get? x=some ox) (hc:ox.cls=c) (hd:ox.dict=dd) (hv:ox.data = .fields vx):Inv X pins σ (upd H' x (ExcD x c dd)) { s' with heap:=h6 }:=by
 obtain ⟨f1,f2,f3,f4⟩:=fl
 have xH:H' x=none:=by
  cases q:H' x with
  | none=>rfl
  | some u=>
   obtain ⟨o,ho⟩:=hok.has q
   rw [k2 x u q o ho] at f2
   cases f2
 have nofr:x ∉ frs X.stack:=fun hm=>by
  obtain ⟨_,o,ho,nd⟩:=f3.mem hm
  obtain ⟨oe,vs,T,oT,ts,he,_,_,_,hd,_⟩:=f4
  rw [he] at ho
  cases ho
  exact nd vs hd
 have old:∀ b o,s.heap.get? b=some o->b≠x:=fun b o e z=>by
  by_cases hm:b∈frs X.stack
  ·exact nofr (z ▸ hm)
  ·obtain ⟨o',q⟩:=k3 b o e hm
   rw [z,f2] at q
   cases q
 have trk:∀ b u,H b=some u->b≠x:=fun b u e=>by
  obtain ⟨o,ho⟩:=I.hok.has e
  exact old b o ho
 have un':Un (frs X.stack) [] H (upd H' x (ExcD x c dd)) s.heap h6:=by
  refine ⟨fun b o e n nf _=>st b o (k1 b o e n nf),fun b o e n hf hb=>?_,fun b o e n hb=>?_,fun b o e hb=>?_,fun b xs e=>?_,fun b o u e=>?_,fun b ps e=>?_⟩
  ·obtain ⟨sl,e1⟩:=un.slot b o e n hf hb
   obtain ⟨_,o',ho',nd⟩:=f3.mem hf
   rw [e1] at ho'
   cases ho'
   obtain ⟨sl2,e2⟩:=up b _ e1 nd
   exact ⟨sl2,e2⟩
  ·rw [upd_ne (old b o e)]
   exact un.free b o e n hb
  ·by_cases hm:b∈frs X.stack
   ·obtain ⟨_,o2,ho2,nd⟩:=f3.mem hm
    obtain ⟨sl2,e2⟩:=up b _ ho2 nd
    exact ⟨_,e2⟩
   ·obtain ⟨o',q⟩:=k3 b o e hm
    exact ⟨o',st b o' q⟩
  ·rw [upd_ne (trk b _ e)];exact un.tups b xs e
  ·rw [upd_ne (trk b _ e)];exact un.frzs b o u e
  ·rw [upd_ne (trk b _ e)];exact un.tbls b ps e
 have hok':HOk X.prog X.w (upd H' x (ExcD x c dd)) h6:=fun b u e=>by
  by_cases hb:b=x
  ·subst hb
   rw [upd_same] at e
   cases e
   exact ExcD.mk hx hc hd hv
  ·rw [upd_ne hb] at e
   refine (hok b u e).stay (fun b' u' hb' e'=>?_) (fun b' z=>by rw [upd_ne (ne_of_none z xH)];exact z) fun b' xs z=>by rw [upd_ne (ne_of_none z xH)];exact z
   rcases hb' with rfl | z
   ·exact st b' u' (k2 b' u e u' e')
   ·exact st b' u' (k2 b' _ z u' e')
 exact I.call' (s':={ s' with heap:=h6 }) (ch:=[]) os un' hok' bare (fun b z=>absurd z (by simp))
end
section
variable {X:Cx} {np hpos pos:Pos} {body suite:List Stmt} {b₀:Stmt} {tb:XK->TS} {ts:TS}
def tTry2 (K:PySem.W.Frag) (B:Addr) (i:Nat) (tb:XK->TS) (ts:TS):TS:=fun D σ H=>tb (fun c dd H'=>exmOne K c (.ref B)=some true/\∀ x,H' x=none->ts { nx:=fun σ2 H2=>D.nx (σ2.set i none) H2,rt:=fun _ _=>False } (σ.set i (some (.ref x))) (upd H' x (ExcD x c dd))) D σ H
theorem s_try2 (x n:Str) (i:Nat) {B:Addr} {mg':Str->Option Value} (hm:mg' x=some (.ref B)) (hX:X.mg=mg') (hN:X.N.Nodup) (hb:PB2 X body tb) (hs:∀ a,PSs (X.held a) (b₀ :: suite) ts)
  (hxc:X.xct=none:=by rfl) (hst:X.stack=X.env :: X.outer/\X.env.frame=some X.env.locals:=by exact ⟨rfl,rfl⟩) (hi:X.N[i]? = some n:=by with_unfolding_all rfl) (hk:(X.env.scope.names.lookup n == some .local)=true:=by kernel_rfl) (hg:gB X x=true:=by kernel_rfl) (hdb:(x == ("__debug__" : Str))=false:=by kernel_rfl) :
  PS X (.Try body [.ExceptHandler (some (.Name x np)) (some n) (b₀ :: suite) hpos] [] [] pos) (tTry2 X.K B i tb ts):=by
 have hk:X.env.scope.names.lookup n=some .local:=eq_of_beq hk
 intro pins s σ H D I h
 refine wpAny_Try_except (wpAny_mono (hb pins s σ H D _ I h) (fun fl s1 z=>?_) fun e s1 z=>?_)
 ·cases fl with
  | next=>exact wpAny_execs_nil z
  | _=>exact z
 ·obtain ⟨H1,s1',I1,y,c,a0,dd,Bs,H2,rfl,os,bare,un,hok,fl,k1,k3,k2,hx,q⟩:=z
  have frm:X.A.frames=some (X.env :: X.outer):=by rw [I1.ok.frames,hst.1]
  have fl':FlyD Bs (X.env :: X.outer) y c a0 dd s1.heap:=by rw [<-hst.1];exact fl
  have xH:H2 y=none:=by
   cases z:H2 y with
   | none=>rfl
   | some u=>
    obtain ⟨o,ho⟩:=hok.has z
    have:=fl.2.1
    rw [k2 y u z o ho] at this
    cases this
  refine look_D frm hst.2 fl' fun h4 held4 up4=>?_
  refine land_D held4 fun h5 fl5 up5=>?_
  obtain ⟨o5,v5,_,_,_,hy5,hc5,hd5,_,hv5,_⟩:=id fl5.2.2.2
  have I5:=land2 I1 os bare un hok fl k1 k3 k2 fl5.1 (up4.trans up5) hy5 hc5 hd5 hv5
  refine wpAny_handleBy_cons (codeAny_handlers_test (wpAny_noRaise (ld_glob (I5.held (x:=y)) (gl_of (X:=X.held y) hg) (by show X.mg x=_;rw [hX];exact hm) ?_ hdb))) (by intro z;cases z)
  refine wpAny_noRaise ((exm_one (I5.kIn) (by have:=(Looks.ld (part:=none) hy5).andThen (f:=fun o=>pure o.cls) (M:=model X.prog X.w) Looks.now;rw [hc5] at this;exact this) hx).here ?_)
  refine codeAny_handlers_suite_as ?_
  refine land_D2 fl5 fun h6 fl6 up6=>?_
  obtain ⟨o6,v6,_,_,_,hy6,hc6,hd6,_,hv6,_⟩:=id fl6.2.2.2
  have I6:=land2 I1 os bare un hok fl k1 k3 k2 fl6.1 ((up4.trans up5).trans up6) hy6 hc6 hd6 hv6
  refine store_ok (X:=X.held y) (v:=.ref y) I6.held hN hi (.inl hk) rfl (fun s7 I7=>?_) ⟨.inr hk,fun _ z=>absurd (hxc.symm.trans z) (by simp)⟩
  refine wpAny_mono (hs y pins s7 _ _ _ I7 (q y xH)) (fun fl8 s8 z8=>?_) fun _ _ z8=>z8.elim
  cases fl8 with
  | next=>
   obtain ⟨σ8,H8,I8,q8⟩:=z8
   exact name_goes (I8.unheld I1.ok) hN hi hk fun s9 I9=>⟨_,H8,I9,q8⟩
  | brk=>obtain ⟨_,_,_,q8⟩:=z8;exact q8.elim
  | cont=>obtain ⟨_,_,_,q8⟩:=z8;exact q8.elim
  | ret u=>obtain ⟨_,_,_,_,_,q8⟩:=z8;exact q8.elim
end
end L2
end
section
namespace L2
open PySem PySem.Spec PyProof.Rows PySem.W
def CanH (P:Program) (w:World) (K:PySem.W.Frag) (mg:Str->Option Value) (base:Heap) (x:Str) (k:Nat) (ps:List Str) (sp:Sp):Prop:=
 ∃ f fd,(∀ vs H Q E,sp vs H Q E->vs.length=ps.length)/\(∀ (y:Addr) (A:Around) (outer:List Env) (s:Shared) (H:Hp) (args:Args) (us:List Value) (vs:List V) (Q:VK),Room k A->Env0 P w K mg base A outer s H->BindsTo s fd args (ps.zip us)->Vals vs us->sp vs H Q E0 →
  codeAny (model P w) (A.mark (some (.ref y))) (.call (.ref f) args) (CR CX0 outer P w H s Q E0) s)/\mg x=some (.ref f)/\PySem.W.keepIn K (.ref f)=true/\Binds K fd ps []
section
variable {P:Program} {w:World} {K:PySem.W.Frag} {mg:Str->Option Value} {base:Heap}
theorem canH_fn {x:Str} {st:Stmt} {N ps:List Str} {k:Nat} {sp:Sp} (D:FnX K mg x st ps) (S:FnScope N ps (defScope st)) (len:∀ vs H Q E,sp vs H Q E->vs.length=ps.length)
  (hbody:∀ (y f:Addr) (cdv:Value) (A:Around) (outer:List Env) (s:Shared) (H:Hp) (vs:List V) (Q:VK),Room k (A.deeper (envOfC x (defScope st) s.heap.objs.size f cdv))->sp vs H Q E0 →
   ∃ t,PSs ((cxOf CX0 P w K mg base N x (defScope st) f cdv A outer s H E0).held y) (defBody st) t/\t { nx:=fun _ H'=>Q .non H',rt:=Q } (start N vs) H):CanH P w K mg base x (k+1) ps sp:=by
 obtain ⟨f,fd,F,hm,hbd⟩:=D
 obtain ⟨oc,od,kV,doc,pm,an,cdv,ct,osl,rfl,lk,hcd⟩:=F.ex
 refine ⟨f,_,len,fun y A outer s H args us vs Q hr e0 hb r hsp=>?_,hm,F.kp,hbd⟩
 have hl:=len _ _ _ _ hsp
 have KX:K.In s.heap:=e0.mod.kin.keeps fun b o e=>(e0.bs b o e).1
 have lim:s.heap.NoLimit:=e0.mod.nolimit.keeps fun b o e=>(e0.bs b o e).1
 have hkind:∀ z∈ps.zip us,(defScope st).names.lookup z.1=some .local\/((defScope st).names.lookup z.1=some .cell/\((cellsFrom (s.heap.objs.size+1) (defScope st).names []).lookup z.1).isSome=true):=fun ⟨n,v⟩ hy=>by
  rcases S.par n (List.of_mem_zip hy).1 with q | q
  ·exact .inl q
  ·exact .inr ⟨q,PySem.W.cellsFrom_some _ _ _ (.inl q)⟩
 refine codeAny_call_function (A:=A.mark (some (.ref y))) hr.depth (KX _ _ lk) rfl S.co S.gen rfl (PySem.W.codeRec_of KX hcd) (hb _ _ _ _ ?_)
 refine wpAny_newFunctionEnv_cells S.kind hkind fun env he s1 xx=>?_
 subst he
 refine ⟨lim.keeps xx.toInCall.keep,codeAny_func ?_⟩
 obtain ⟨t,ht,hq⟩:=hbody y f cdv A outer s H vs Q (hr.deeper _) hsp
 have I:Inv (cxOf CX0 P w K mg base N x (defScope st) f cdv A outer s H E0) [] (start N vs) H s1:=inv_start S hr.hd e0 hl r xx
 refine wpAny_mono (ht [] s1 (start N vs) H _ I.held hq) (fun fl s' hs=>?_) fun e s' hs=>hs.elim
 have fin:∀ {σ':St} {H':Hp} {v:V} {u:Value},Inv ((cxOf CX0 P w K mg base N x (defScope st) f cdv A outer s H E0).held y) [] σ' H' s'->RelV v u->Q v H'->CE outer P w H s Q u s':=
  fun {σ' H' v u} J rv q=>⟨v,H',J.os,J.bare,J.base,J.hok,rv,q⟩
 cases fl with
 | ret u=>
  obtain ⟨v,σ',H',J,rv,q⟩:=hs
  exact fin J rv q
 | next=>
  obtain ⟨σ',H',J,q⟩:=hs
  exact fin (v:=V.non) (u:=Value.none) J rfl q
 | brk=>
  obtain ⟨_,_,_,q⟩:=hs
  exact False.elim q
 | cont=>
  obtain ⟨_,_,_,q⟩:=hs
  exact False.elim q
end
section
variable {X:Cx} {y:Addr} {p pos:Pos} {e:Expr} {es:List Expr} {t:TA} {k:Nat} {ps:List Str} {sp:Sp}
theorem fn_canH (x:Str) {P':Program} {w':World} {K':PySem.W.Frag} {mg':Str->Option Value} {base':Heap} (C:CanH P' w' K' mg' base' x k ps sp) (hX:X.prog=P'/\X.w=w'/\X.K=K'/\X.mg=mg'/\X.base=base') (hr:Room k X.A) (ha:PA (X.held y) (e :: es) t)
  (hg:gB (X.held y) x=true:=by kernel_rfl) (hdb:(x == ("__debug__" : Str))=false:=by kernel_rfl) (he:starEach (e :: es) X.env=(false,eval e X.env) :: starEach es X.env:=by kernel_rfl) (hpl:(backTo pos (starEach es X.env)).any (·.1)=false:=by kernel_rfl) :
  PE (X.held y) (.Call (.Name x p) (e :: es) [] pos) (tCan sp t):=by
 obtain ⟨rfl,rfl,rfl,rfl,rfl⟩:=hX
 obtain ⟨f,fd,len,run,hm,hk,hb⟩:=C
 intro pins s σ H Q I h
 refine wpAny_Call_Name_kw (ld_glob I (gl_of hg) hm ?_ hdb)
 refine PySem.W.callWith_K (h₀:=X.base) I.ok.mod.kin hk (thn (ha pos pins s σ H _ I h) fun us s1 z=>?_) he hpl
 obtain ⟨vs,H1,I1,r,q⟩:=z
 refine ⟨I1.kIn,?_⟩
 have hl:us.length=ps.length:=by rw [<-r.length];exact len _ _ _ _ q
 have hbs:BindsTo s1 fd ⟨us,[]⟩ (ps.zip us):=by have:=hb s1 us I1.kIn (by rw [List.append_nil];exact hl);rw [List.append_nil] at this;exact this
 have e1:=I1.env0
 have e0:Env0 X.prog X.w X.K X.mg X.base X.A X.stack s1 H1:=⟨e1.frames,e1.mod,e1.bs,e1.bsz,e1.funs,e1.frf,e1.hok,e1.bare⟩
 refine wpAny_call (codeAny_mono (run y X.A X.stack s1 H1 ⟨us,[]⟩ us vs _ hr e0 hbs r q) fun rr s' hq=>?_)
 cases rr with
 | error e=>exact False.elim hq
 | ok fl=>
  cases fl with
  | ret u=>exact I1.after hq
  | next=>exact False.elim hq
  | brk=>exact False.elim hq
  | cont=>exact False.elim hq
end
end L2
end
section
namespace L2
open PySem PySem.Spec PyProof.Rows PySem.W
section
variable {X:Cx} {p pos:Pos} {e:Expr} {es:List Expr} {t:TA} {k:Nat} {ps:List Str} {sp:Sp}
end
end L2
namespace L2
open PySem PySem.Spec PyProof.Rows
end L2
end
section
namespace L2
open PySem PySem.Spec PyProof.Rows PySem.W
open PySem.Builtin PySem.Builtin.Str in
theorem replaceE {prog:Program} {w:World} {A:Around} {E:Value->Shared->Prop} {s:Shared} {x y z:Str} {t u v:Tok} {Q:Value->Shared->Prop} (hu:u≠0) (hv:v≠0) (huv:u≠v) (hyz:(y == z)=false) (hb:x.length+(x.length+1) * z.length<=16777216)
  (hq:∀ t' k,s.toks<=k->Q (.str (Txt.replace x y z) t') { s with toks:=k }):wpAny (model prog w) A (call (.builtin "str.replace") [.str x t,.str y u,.str z v]) Q E s:=by
 have hl:tooLong (x.length+(occurrences x y 0 x.length (x.length+1)).length * z.length)=false:=by
  have h1:=StrLaws.occ_length_le x y 0 x.length (x.length+1)
  have h2:(occurrences x y 0 x.length (x.length+1)).length * z.length<=(x.length+1) * z.length:=Nat.mul_le_mul_right _ h1
  unfold tooLong sizeLine
  exact decide_eq_false (by omega)
 refine call_gives F.slot_str_replace (typeIs_str _ _ _) F.entry_str_replace (F.args_str_replace_3 _ _ _)
  (gives_str_replace x y z t u v fun _=>⟨by simp [hu,hv],by simp [huv],hyz,hl⟩) ?_
 have hq':=hq
 unfold Txt.replace at hq'
 cases hc:((occurrences x y 0 x.length (x.length+1)).isEmpty || (y.length == 0 && z.length == 0))
 ·rw [hc] at hq'
  simp only [Bool.false_eq_true,if_false] at hq' ⊢
  exact ⟨fits_replaced y hb,hq' _ _ (Nat.le_succ _)⟩
 ·rw [hc] at hq'
  simp only [if_true] at hq' ⊢
  exact hq' t s.toks (Nat.le_refl _)
def PE1 (X:Cx) (e:Expr) (t:TE):Prop:=
 ∀ (pins:List (Addr×Obj)) (s:Shared) (σ:St) (H:Hp) (Q:VK),s.toks≠0->Inv X pins σ H s->t σ H Q->wpAny (model X.prog X.w) X.A (eval e X.env) (fun u s'=>EP X pins σ Q u s'/\s'.toks≠0) X.xe s
section
variable {X:Cx} {p pos apos cpos p1 p2:Pos} {e o:Expr} {es:List Expr} {t:TA} {to:TE} {y z:Str} {j1 j2:Nat}
theorem var1 {i:Nat} {x:Str} (hN:X.N[i]? = some x) (hv:Vis X.env.scope x) (hd:(x == ("__debug__" : Str))=false) (hcd:(x == ("__classdict__" : Str))=false) {pins:List (Addr×Obj)} {s:Shared} {σ:St} {H:Hp} {Q:VK} (I:Inv X pins σ H s) (h:tVar i σ H Q) :
  wpAny (model X.prog X.w) X.A (eval (.Name x pos) X.env) (fun u s'=>EP X pins σ Q u s'/\s'=s) X.xe s:=by
 obtain ⟨v,e,h⟩:=h
 obtain ⟨m,hn,hl⟩:=I.loc
 obtain ⟨u,r,l⟩:=hl i x v hN e hv
 have fin:EP X pins σ Q u s/\s=s:=⟨⟨v,H,I,r.1,h⟩,rfl⟩
 rcases l with ⟨hk,hm⟩ | ⟨hk,c,hc,hcell⟩
 ·exact wpAny_Name (wpAny_loadName_local I.ok.kind hk hn hm fin) hd
 ·rcases hk with hk | hk
  ·exact wpAny_Name (wpAny_loadName_cell I.ok.kind hk hc hcell fin) hd
  ·exact wpAny_Name (wpAny_loadName_free I.ok.kind hk hc hcell fin hcd) hd
theorem n1 (x:Str) (i:Nat) (hN:X.N[i]? = some x:=by with_unfolding_all rfl) (hv:visB X.env.scope x=true:=by kernel_rfl):PE1 X (.Name x pos) (tVar i):=by
 intro pins s σ H Q h0 I h
 exact thn (var1 hN (vis_of hv).1 (vis_of hv).2.1 (vis_of hv).2.2 I h) fun u s' ⟨e1,e2⟩=>⟨e1,by rw [e2];exact h0⟩
end
end L2
end
section
namespace L2
open PySem PySem.Spec PyProof.Rows
def mkS (l:List Nat):Str:=⟨l.toArray⟩
theorem mkS_len (l:List Nat):(mkS l).length=l.length:=by show l.toArray.size=_;simp
theorem mkS_cps (l:List Nat):(mkS l).cps.toList=l:=by show l.toArray.toList=l;simp
theorem mkS_app (a b:List Nat):mkS a++mkS b=mkS (a++b):=by
 show (⟨a.toArray++b.toArray⟩ : Str)=⟨(a++b).toArray⟩
 simp
theorem mkS_of (z:Str):z=mkS z.cps.toList:=by cases z;simp [mkS]
theorem mkS_nil:mkS []=("" : Str):=by decide +kernel
end L2
end
section
namespace L2
open PySem PySem.Spec PyProof.Rows
end L2
end
section
namespace L2
open PySem PySem.Spec PyProof.Rows
section
variable {X:Cx} {a b:Expr} {p pos:Pos} {ta:TA}
end
end L2
end
section
namespace L2
open PySem PySem.Spec PyProof.Rows PySem.W
section
variable {X:Cx}
end
section
variable {X:Cx} {pins:List (Addr×Obj)} {σ:St} {H:Hp} {s:Shared} {h':Heap}
theorem Inv.laidN {a:Addr} {o:HO} (I:Inv X pins σ H s) (k:∀ b u,s.heap.get? b=some u->h'.get? b=some u) (hp:s.heap.get? a=none) (new:ObjOk X.prog X.w (upd H a o) h' a o):Inv X pins σ (upd H a o) { s with heap:=h' }:=by
 have Ha:H a=none:=by
  cases e:H a with
  | none=>rfl
  | some u=>
   obtain ⟨o',e'⟩:=I.hok.has e
   rw [hp] at e';cases e'
 have ne:∀ b u,H b=some u->upd H a o b=some u:=fun b u e=>by rw [upd_ne (fun z=>by rw [z,Ha] at e;cases e)];exact e
 have un:Un (frs X.stack) [] H (upd H a o) s.heap h':=by
  refine ⟨fun b u e n _ _=>k b u e,fun b u e n _ _=>⟨u.slots,k b u e⟩,fun b u e n _=>?_,fun b u e _=>⟨u,k b u e⟩,fun b xs e=>ne b _ e,fun b u v e=>ne b _ e,fun b ps e=>⟨#[],by rw [Array.append_empty];exact ne b _ e⟩⟩
  rw [upd_ne (fun z=>by rw [z,hp] at e;cases e)];exact n
 refine I.call' (s':={ s with heap:=h' }) (ch:=[]) rfl un (fun b u e=>?_) I.bare (fun b z=>absurd z (by simp))
 by_cases z:b=a
 ·subst z
  rw [upd_same] at e
  cases e
  exact new
 ·rw [upd_ne z] at e
  exact (I.hok b u e).stay (fun b' u' hb' e'=>k b' u' e') (fun b' z=>ne b' _ z) fun b' xs z=>ne b' _ z
end
section
variable {P:Program} {w:World} {K:PySem.W.Frag} {mg:Str->Option Value} {base:Heap} {N:List Str} {qual:Str} {scope:Scope} {f:Addr} {cd:Value} {A:Around} {outer:List Env} {s:Shared} {H:Hp} {E:XK}
theorem s_raiseP {x:Str} {C:Addr} {np cpos pos:Pos} {e:Expr} {es:List Expr} {t:TA} (hC:ExnOk K C) (hm:mg x=some (.ref C)) (ha:PA (cxOf (CX2 P w) P w K mg base N qual scope f cd A outer s H E) (e :: es) t)
  (hg:gB (cxOf (CX2 P w) P w K mg base N qual scope f cd A outer s H E) x=true:=by kernel_rfl) (hdb:(x == ("__debug__" : Str))=false:=by kernel_rfl)
  (he:starEach (e :: es) (cxOf (CX2 P w) P w K mg base N qual scope f cd A outer s H E).env=(false,eval e (cxOf (CX2 P w) P w K mg base N qual scope f cd A outer s H E).env) :: starEach es (cxOf (CX2 P w) P w K mg base N qual scope f cd A outer s H E).env:=by kernel_rfl)
  (hpl:(backTo cpos (starEach es (cxOf (CX2 P w) P w K mg base N qual scope f cd A outer s H E).env)).any (·.1)=false:=by kernel_rfl) :
  PS (cxOf (CX2 P w) P w K mg base N qual scope f cd A outer s H E) (.Raise (some (.Call (.Name x np) (e :: es) [] cpos)) none pos) (tRaise E C t):=by
 obtain ⟨nm,q,Nn,bs,bm,hdct,sn,sub,ab,col,dd,k0,k1,k2,k3,k5,mN,hni,hK⟩:=hC
 generalize hXX:cxOf (CX2 P w) P w K mg base N qual scope f cd A outer s H E=X at *
 intro pins s1 σ H1 D I h
 have hbase:bm.contains (.type "BaseException")=true:=(hK s1.heap (by have:=I.kIn;rw [<-hXX] at this;exact this)).2.2.hasType (by decide)
 have hpl2:(backTo cpos (starEach (e :: es) X.env)).any (·.1)=false:=by
  rw [he]
  show (false || (backTo cpos (starEach es X.env)).any (·.1))=false
  rw [hpl];rfl
 refine wpAny_Raise_call_subT (F:=PySem.F.excBase_ValueError) (mN:=mN) (nm:=nm) (q:=q) (C:=C) (N:=Nn) (bs:=bs) (bm:=bm) (hdct:=hdct) (sn:=sn) (sub:=sub) (ab:=ab) (col:=col) (dd:=dd) (k0:=k0) (k1:=k1) (k2:=k2) (k3:=k3) (k5:=k5) hbase (I.ok.hd (by rw [<-hXX];rfl)) hpl2 hni ?_
 refine ld_glob I (gl_of hg) (by rw [<-hXX];exact hm) ⟨rfl,?_⟩ hdb
 have hx:=ha cpos pins s1 σ H1 _ I h
 rw [he] at hx ⊢
 refine PySem.Calls.evalArgs_plain (thn hx fun us s2 z=>?_)
 obtain ⟨vs,H2,I2,r,q2⟩:=z
 have kin:K.In s2.heap:=by have:=I2.kIn;rw [<-hXX] at this;exact this
 obtain ⟨c1,c2,c3⟩:=hK s2.heap kin
 refine ⟨rfl,?_,c1,c2,c3,fun h' x' mx=>?_⟩
 ·show us.length<=sizeLine
  rw [<-r.length];exact le_line q2.1
 ·subst hXX
  obtain ⟨ta,ge,_,_⟩:=mx.there
  have nH:H2 x'=none:=by
   cases e:H2 x' with
   | none=>rfl
   | some u=>
    obtain ⟨o',e'⟩:=I2.hok.has e
    rw [mx.new] at e';cases e'
  obtain ⟨hp,gg,dr,tk,os⟩:=s2
  have I3:Inv (cxOf (CX2 P w) P w K mg base N qual scope f cd A outer s H E) pins σ (upd H2 x' (ExcN x' C none)) ⟨h',gg,dr,tk,os⟩:=I2.laidN (a:=x') (o:=ExcN x' C none) mx.keeps mx.new (ExcN.mk ge)
  refine esc3 I3 upd_same (fun b o eb z=>?_) ?_
  ·have un:Un (frs outer) [] H H2 s.heap hp:=I2.base
   obtain ⟨o',e'⟩:=un.there b o eb (by simp)
   have:=mx.new
   rw [z] at e'
   have this:hp.get? x'=none:=this
   rw [this] at e'
   cases e'
  ·have eH:(fun b=>if b=x' then none else upd H2 x' (ExcN x' C none) b)=H2:=by
    funext b
    by_cases z:b=x'
    ·rw [if_pos z,z,nH]
    ·rw [if_neg z,upd_ne z]
   rw [eH]
   exact q2.2
end
section
variable {X:Cx} {x:Str} {p pos apos npos:Pos} {e:Expr} {es:List Expr} {t:TA} {k:Nat} {ps:List Str} {sp:Sp}
end
end L2
end
section
namespace L2
open PySem PySem.Spec PyProof.Rows PySem.W
section
variable {X:Cx}
end
end L2
end
section
namespace L2
open PySem PySem.Spec PyProof.Rows
section
variable {X:Cx} {pins:List (Addr×Obj)} {σ:St} {H:Hp} {s:Shared} {a:Addr} {u:HO} {o:Obj}
theorem Inv.thaw (I:Inv X pins σ H s) (e:H a=some (.frz o u)) (mu:Mut (some u)) (nf:∀ o' u',X.H₀ a≠some (.frz o' u')):Inv X pins σ (upd H a u) s:=by
 have nn:∀ b,H b=none->b≠a:=fun b h z=>by rw [z,e] at h;cases h
 have nt:∀ b xs,H b=some (.tup xs)->b≠a:=fun b xs h z=>by rw [z,e] at h;cases h
 have no:∀ b y,H b=some (.own y)->b≠a:=fun b y h z=>by rw [z,e] at h;cases h
 refine ⟨I.ok,I.os,I.bare,⟨I.base.keep,I.base.slot,fun b ob q n hx=>?_,I.base.there,fun b xs q=>?_,fun b ob w q=>?_,fun b ps q=>?_⟩,I.loc,I.cell,?_,fun x c h=>?_,fun p hp=>?_,fun b w q=>?_,I.len⟩
 ·have:=I.base.free b ob q n hx
  rw [upd_ne (nn b this)];exact this
 ·have:=I.base.tups b xs q
  rw [upd_ne (nt b xs this)];exact this
 ·have h1:=I.base.frzs b ob w q
  rw [upd_ne (show b≠a from fun z=>nf ob w (z ▸ q))];exact h1
 ·obtain ⟨more,h1⟩:=I.base.tbls b ps q
  exact ⟨more,by rw [upd_ne (fun z=>by rw [z,e] at h1;cases h1)];exact h1⟩
 ·rw [upd_ne (nn _ I.free)];exact I.free
 ·rw [upd_ne (nn _ (I.freeC x c h))];exact I.freeC x c h
 ·obtain ⟨h1,h2,h3⟩:=I.pin p hp
  exact ⟨h1,by rw [upd_ne (nn _ h2)];exact h2,h3⟩
 ·have st:∀ {b:Addr} {w:HO},ObjOk X.prog X.w H s.heap b w->ObjOk X.prog X.w (upd H a u) s.heap b w:=fun {b w} h=>h.stay (fun _ _ _ z=>z) (fun c z=>by rw [upd_ne (no c _ z)];exact z) fun c xs z=>by rw [upd_ne (nt c xs z)];exact z
  by_cases ba:b=a
  ·subst ba
   rw [upd_same] at q
   cases q
   exact st (I.hok b _ e).2
  ·rw [upd_ne ba] at q
   exact st (I.hok b _ q)
end
section
variable {X:Cx} {st:Stmt} {t:TS}
def tThaw (H0:Hp) (t:TS):TS:=fun D σ H=>t { nx:=fun σ' H'=>∃ a o u,H' a=some (.frz o u)/\Mut (some u)/\(∀ o' u',H0 a≠some (.frz o' u'))/\D.nx σ' (upd H' a u),rt:=D.rt,bk:=D.bk,ct:=D.ct } σ H
theorem s_thaw (h:PS X st t):PS X st (tThaw X.H₀ t):=by
 intro pins s σ H D I hw
 refine thn (h pins s σ H _ I hw) fun f s' sp=>?_
 cases f with
 | next=>
  obtain ⟨σ',H',I',a,o,u,e,mu,nf,q⟩:=sp
  exact ⟨σ',_,I'.thaw e mu nf,q⟩
 | _=>exact sp
end
end L2
end
section
namespace L2
open PySem PySem.Spec PyProof.Rows
section
variable {X:Cx} {pos apos:Pos} {o:Expr} {to:TE}
end
end L2
end
section
namespace L2
open PySem PySem.Spec PyProof.Rows
section
variable {X:Cx}
end
end L2
end
section
namespace L2
open PySem PySem.Spec PyProof.Rows PySem.W
section
variable {X:Cx} {p pos apos cpos p1 p2:Pos} {a b e o:Expr} {es:List Expr} {t:TA} {to ta:TE} {y z:Str} {j j1 j2:Nat} {i:Int}
theorem flat_strs (zs:List Str):(zs.map V.str).all flatV=true:=by
 rw [List.all_map,List.all_eq_true]
 intro x _
 rfl
theorem inV_strs (z:Str) (zs:List Str):inV (.str z) (zs.map V.str)=decide (z∈zs):=by
 unfold inV
 rw [List.any_map,Bool.eq_iff_iff,List.any_eq_true,decide_eq_true_eq]
 constructor
 ·rintro ⟨y,hy,e⟩
  have e:(y == z)=true:=e
  exact (eq_of_beq e) ▸ hy
 ·intro h
  exact ⟨z,h,show (z == z)=true by simp⟩
def rIntF:List V->Hp->VK->Prop:=fun vs H Q=>match vs with
 | [.str z]=>∃ d:Nat,d < 10/\z=strI (d:Int)/\Q (.int (d:Nat)) H
 | [.bl k]=>Q (.int (if k then 1 else 0)) H
 | _=>False
theorem figs {d:Nat} (h:d < 10):strI (d:Int)=(["0","1","2","3","4","5","6","7","8","9"]:List Str).getD d "" := by
 have:d=0\/d=1\/d=2\/d=3\/d=4\/d=5\/d=6\/d=7\/d=8\/d=9:=by omega
 rcases this with rfl | rfl | rfl | rfl | rfl | rfl | rfl | rfl | rfl | rfl<;>decide +kernel
theorem call_intF:CallR X (.type "int") rIntF:=by
 intro pins s σ H xs us Q I r h
 unfold rIntF at h
 split at h
 ·rename_i z
  obtain ⟨d,hd,rfl,q⟩:=h
  obtain ⟨u,rfl,t,rfl⟩:=vals1 r
  rw [figs hd]
  have:d=0\/d=1\/d=2\/d=3\/d=4\/d=5\/d=6\/d=7\/d=8\/d=9:=by omega
  rcases this with rfl | rfl | rfl | rfl | rfl | rfl | rfl | rfl | rfl | rfl
  ·exact PySem.W.KIN.call_text (x:=("0" : Str)) (n:=0) (by decide +kernel) (by decide +kernel) ⟨.int 0,H,I.tok _,⟨_,rfl⟩,q⟩
  ·exact PySem.W.KIN.call_text (x:=("1" : Str)) (n:=1) (by decide +kernel) (by decide +kernel) ⟨.int 1,H,I.tok _,⟨_,rfl⟩,q⟩
  ·exact PySem.W.KIN.call_text (x:=("2" : Str)) (n:=2) (by decide +kernel) (by decide +kernel) ⟨.int 2,H,I.tok _,⟨_,rfl⟩,q⟩
  ·exact PySem.W.KIN.call_text (x:=("3" : Str)) (n:=3) (by decide +kernel) (by decide +kernel) ⟨.int 3,H,I.tok _,⟨_,rfl⟩,q⟩
  ·exact PySem.W.KIN.call_text (x:=("4" : Str)) (n:=4) (by decide +kernel) (by decide +kernel) ⟨.int 4,H,I.tok _,⟨_,rfl⟩,q⟩
  ·exact PySem.W.KIN.call_text (x:=("5" : Str)) (n:=5) (by decide +kernel) (by decide +kernel) ⟨.int 5,H,I.tok _,⟨_,rfl⟩,q⟩
  ·exact PySem.W.KIN.call_text (x:=("6" : Str)) (n:=6) (by decide +kernel) (by decide +kernel) ⟨.int 6,H,I.tok _,⟨_,rfl⟩,q⟩
  ·exact PySem.W.KIN.call_text (x:=("7" : Str)) (n:=7) (by decide +kernel) (by decide +kernel) ⟨.int 7,H,I.tok _,⟨_,rfl⟩,q⟩
  ·exact PySem.W.KIN.call_text (x:=("8" : Str)) (n:=8) (by decide +kernel) (by decide +kernel) ⟨.int 8,H,I.tok _,⟨_,rfl⟩,q⟩
  ·exact PySem.W.KIN.call_text (x:=("9" : Str)) (n:=9) (by decide +kernel) (by decide +kernel) ⟨.int 9,H,I.tok _,⟨_,rfl⟩,q⟩
 ·exact call_intU pins s σ H _ us Q I r h
 ·exact h.elim
theorem fn_intF {mg':Str->Option Value} (hm:mg' "int" = none) (hX:X.mg=mg') (ha:PA X (e :: es) t) (hg:gB X "int" = true:=by kernel_rfl) (he:starEach (e :: es) X.env=(false,eval e X.env) :: starEach es X.env:=by kernel_rfl) (hpl:(backTo pos (starEach es X.env)).any (·.1)=false:=by kernel_rfl) :
  PE X (.Call (.Name "int" p) (e :: es) [] pos) (tCB rIntF t):=pe_callTy call_intF (gl_of hg) (by rw [hX];exact hm) PyProof.Rows.boot_int ha (he:=he) (hpl:=hpl)
end
end L2
end
section
namespace L2
open PySem PySem.Spec PyProof.Rows PySem.W
section
variable {X:Cx} {p pos:Pos} {e:Expr} {es:List Expr} {t:TA}
end
end L2
end
section
namespace L2
open PySem PySem.Spec PyProof.Rows Builtin Builtin.Str
theorem gt_ch:(">" : Str)=ch 62:=by decide +kernel
theorem comma_ch:("," : Str)=ch 44:=by decide +kernel
theorem blank_ch:(" " : Str)=ch 32:=by decide +kernel
theorem tjoin (sep:Str) (ps:List Str):Txt.join sep ps=Str.join sep ps:=StrLaws.glued_eq_join _ _
def figS:Str:= "0123456789"
end L2
end
section
namespace L2
open PySem PySem.Spec PyProof.Rows
section
variable {prog:Program} {w:World} {A:Around} {E:Value->Shared->Prop} {s:Shared}
end
section
variable {X:Cx} {p pos tpos:Pos} {a b:Expr} {es:List Expr} {tk:Nat}
end
end L2
end
section
end
section
namespace L2
open PySem PySem.Spec PyProof.Rows PySem.W
theorem join_len (c:Nat):∀ (ps:List Str),ps≠[]->(∀ p∈ps,p.length<=(Str.join (ch c) ps).length)/\ps.length<=(Str.join (ch c) ps).length+1
 | [],h=>absurd rfl h
 | [p],_=>by
  have e:Str.join (ch c) [p]=p:=rfl
  rw [e]
  exact ⟨fun q hq=>by rw [List.mem_singleton.mp hq];exact Nat.le_refl _,by simp⟩
 | p :: q :: r,_=>by
  obtain ⟨h1,h2⟩:=join_len c (q :: r) (by simp)
  have e:(Str.join (ch c) (p :: q :: r)).length=p.length+1+(Str.join (ch c) (q :: r)).length:=by
   have:=congrArg List.length (join_cps c p q r)
   rw [List.length_append,List.length_cons,Array.length_toList,Array.length_toList,Array.length_toList] at this
   show (Str.join (ch c) (p :: q :: r)).cps.size=p.cps.size+1+(Str.join (ch c) (q :: r)).cps.size
   omega
  rw [e]
  refine ⟨fun x hx=>?_,by rw [List.length_cons];omega⟩
  rcases List.mem_cons.mp hx with rfl | hx
  ·omega
  ·have:=h1 x hx
   omega
theorem split_len (z:Str) {c:Nat} (hc:c < 256):Txt.split z (ch c)≠[]/\(∀ p∈Txt.split z (ch c),p.length<=z.length)/\(Txt.split z (ch c)).length<=z.length+1:=by
 obtain ⟨_,h2,h3⟩:=split_fre z hc
 have:=join_len c _ h2
 rw [h3] at this
 exact ⟨h2,this.1,this.2⟩
def spG (z:Str):List Str:=Txt.split z (">" : Str)
def spC (z:Str):List Str:=Txt.split z ("," : Str)
def spB (z:Str):List Str:=Txt.split z (" " : Str)
theorem spG_len (z:Str):spG z≠[]/\(∀ p∈spG z,p.length<=z.length)/\(spG z).length<=z.length+1:=by unfold spG;rw [gt_ch];exact split_len z (by decide)
theorem spC_len (z:Str):spC z≠[]/\(∀ p∈spC z,p.length<=z.length)/\(spC z).length<=z.length+1:=by unfold spC;rw [comma_ch];exact split_len z (by decide)
theorem spB_len (z:Str):spB z≠[]/\(∀ p∈spB z,p.length<=z.length)/\(spB z).length<=z.length+1:=by unfold spB;rw [blank_ch];exact split_len z (by decide)
def numZ (z:Str):Int:=if z.length=1 then Txt.find figS z else -1
def rowV (z:Str):List V:=(spG z).dropLast.map V.str++[.int (numZ ((spG z).getLast?.getD ("" : Str)))]
def rowT (z:Str):PyData:=.tuple ((spG z).dropLast.map PyData.str++[.int (numZ ((spG z).getLast?.getD ("" : Str)))])
def stateT (z:Str):PyData:=.list ((spC z).map rowT)
def codeT (ps:List Str):PyData:=.tuple ((ps.take 2).map (fun p=>PyData.int (numZ p))++[.list ((ps.drop 2).map stateT)])
theorem dvsS {H:Hp}:∀ zs:List Str,DVs H (zs.map V.str) (zs.map PyData.str)
 | []=>.nil
 | z :: zs=>.cons (.str z) (dvsS zs)
theorem rowT_dv {H:Hp} {l:Addr} {z:Str} (h:H l=some (.tup (rowV z))):DV H (.ref l) (rowT z):=.tup h ((dvsS _).app (.cons (.int _) .nil))
theorem rowT_small {z:Str} (h:z.length<=900):smallD (rowT z)=true:=by
 obtain ⟨h1,h2,h3⟩:=spG_len z
 unfold rowT
 rw [smallD,Bool.and_eq_true,decide_eq_true_eq,smallAll_iff]
 refine ⟨by rw [List.length_append,List.length_map,List.length_dropLast];simp;omega,fun d hd=>?_⟩
 rcases List.mem_append.mp hd with hd | hd
 ·obtain ⟨p,hp,rfl⟩:=List.mem_map.mp hd
  have:=h2 p (List.dropLast_subset _ hp)
  rw [smallD]
  exact decide_eq_true (by omega)
 ·rw [List.mem_singleton.mp hd];rfl
theorem stateT_small {z:Str} (h:z.length<=900):smallD (stateT z)=true:=by
 obtain ⟨h1,h2,h3⟩:=spC_len z
 unfold stateT
 rw [smallD,Bool.and_eq_true,decide_eq_true_eq,smallAll_iff]
 refine ⟨by rw [List.length_map];omega,fun d hd=>?_⟩
 obtain ⟨p,hp,rfl⟩:=List.mem_map.mp hd
 exact rowT_small (by have:=h2 p hp;omega)
theorem codeT_small {z:Str} (h:z.length<=900):smallD (codeT (spB z))=true:=by
 obtain ⟨h1,h2,h3⟩:=spB_len z
 unfold codeT
 rw [smallD,Bool.and_eq_true,decide_eq_true_eq,smallAll_iff]
 refine ⟨by rw [List.length_append,List.length_map,List.length_take];simp;omega,fun d hd=>?_⟩
 rcases List.mem_append.mp hd with hd | hd
 ·obtain ⟨p,hp,rfl⟩:=List.mem_map.mp hd
  rfl
 ·rw [List.mem_singleton.mp hd,smallD,Bool.and_eq_true,decide_eq_true_eq,smallAll_iff]
  refine ⟨by rw [List.length_map,List.length_drop];omega,fun d hd=>?_⟩
  obtain ⟨p,hp,rfl⟩:=List.mem_map.mp hd
  exact stateT_small (by have:=h2 p (List.mem_of_mem_drop hp);omega)
end L2
end
section
namespace L2
open PySem PySem.Spec PyProof.Rows PySem.W
section
variable {X:Cx}
end
section
variable {X:Cx} {p pos apos npos:Pos} {e:Expr} {es:List Expr} {t:TA} {k:Nat} {ps1 ps2:List Str} {sp1 sp2:Sp}
end
end L2
end
section
namespace L2
open PySem PySem.Spec PyProof.Rows PySem.W
def MtX (K:PySem.W.Frag) (C:Addr) (m qn:Str) (st:Stmt) (ps:List Str):Prop:=∃ f fd,Fun K m qn st f fd/\Meth K C m f/\Binds K fd ps []
def CanM (P:Program) (w:World) (K:PySem.W.Frag) (mg:Str->Option Value) (base:Heap) (C:Addr) (m:Str) (k:Nat) (ps:List Str) (sp:Sp):Prop:=
 ∃ f fd,FnOk P w K mg base (CX2 P w) k f fd ps sp/\Meth K C m f/\Binds K fd ps []
def CanM0 (P:Program) (w:World) (K:PySem.W.Frag) (mg:Str->Option Value) (base:Heap) (C:Addr) (m:Str) (k:Nat) (ps:List Str) (sp:Sp):Prop:=
 ∃ f fd,FnOk P w K mg base CX0 k f fd ps sp/\Meth K C m f/\Binds K fd ps []
section
variable {P:Program} {w:World} {K:PySem.W.Frag} {mg:Str->Option Value} {base:Heap}
theorem canM_fn {C:Addr} {m qn:Str} {st:Stmt} {N ps:List Str} {k:Nat} {sp:Sp} (D:MtX K C m qn st ps) (S:FnScope N ps (defScope st)) (len:∀ vs H Q E,sp vs H Q E->vs.length=ps.length)
  (hbody:∀ (f:Addr) (cdv:Value) (A:Around) (outer:List Env) (s:Shared) (H:Hp) (vs:List V) (Q:VK) (E:XK),Room k (A.deeper (envOfC qn (defScope st) s.heap.objs.size f cdv))->sp vs H Q E →
   ∃ t,PSs (cxOf (CX2 P w) P w K mg base N qn (defScope st) f cdv A outer s H E) (defBody st) t/\t { nx:=fun _ H'=>Q .non H',rt:=Q } (start N vs) H):CanM P w K mg base C m (k+1) ps sp:=by
 obtain ⟨f,fd,F,hm,hb⟩:=D
 obtain ⟨oc,od,kV,doc,pm,an,cdv,ct,osl,rfl,lk,hcd⟩:=F.ex
 exact ⟨f,_,fn_of lk hcd S len fun A outer s H vs Q E hr hsp=>hbody f cdv A outer s H vs Q E hr hsp,hm,hb⟩
theorem canM0_fn {C:Addr} {m qn:Str} {st:Stmt} {N ps:List Str} {k:Nat} {sp:Sp} (D:MtX K C m qn st ps) (S:FnScope N ps (defScope st)) (len:∀ vs H Q E,sp vs H Q E->vs.length=ps.length)
  (hbody:∀ (f:Addr) (cdv:Value) (A:Around) (outer:List Env) (s:Shared) (H:Hp) (vs:List V) (Q:VK) (E:XK),Room k (A.deeper (envOfC qn (defScope st) s.heap.objs.size f cdv))->sp vs H Q E →
   ∃ t,PSs (cxOf CX0 P w K mg base N qn (defScope st) f cdv A outer s H E).nox (defBody st) t/\t { nx:=fun _ H'=>Q .non H',rt:=Q } (start N vs) H):CanM0 P w K mg base C m (k+1) ps sp:=by
 obtain ⟨f,fd,F,hm,hb⟩:=D
 exact ⟨f,fd,F.ok S len fun cdv A outer s H vs Q E hr h=>hbody f cdv A outer s H vs Q E hr h,hm,hb⟩
end
def tMet (C:Addr) (m:Str) (sp:Sp) (ta:TE) (t:TA):TE:=fun σ H Q=>ta σ H fun x H1=>∃ a dx fs,x = .ref a/\H1 a=some (.ins C dx fs)/\fs.lookup m=none/\t σ H1 fun vs H2=>sp (x :: vs) H2 Q E0
section
variable {X:Cx} {p pos apos epos:Pos} {e o:Expr} {es:List Expr} {t:TA} {ta:TE} {k:Nat} {ps:List Str} {sp:Sp} {C:Addr} {P':Program} {w':World} {K':PySem.W.Frag} {mg':Str->Option Value} {base':Heap}
theorem met_eq {m:Str}:tMeth C m sp [] E0 ta t=tMet C m sp ta t:=by funext σ H Q;unfold tMeth tMet;simp only [List.append_nil]
theorem e_met (m:Str) {pl:Sem Bool} (M:CanM P' w' K' mg' base' C m k ps sp) (c:Cls K' C) (hX:X.prog=P'/\X.w=w'/\X.K=K'/\X.mg=mg'/\X.base=base') (hr:Room k X.A) (he:PE X o ta) (ha:PA X (e :: es) t)
  (hst:starEach (e :: es) X.env=(false,eval e X.env) :: starEach es X.env:=by kernel_rfl) (hpl:(backTo pos (starEach es X.env)).any (·.1)=false:=by kernel_rfl)
  (ht:eval (.Call (.Attribute o m apos) (e :: es) [] pos) X.env=(do
   let ov <-eval o X.env
   standAt apos.atName
   let (f,first) <-holding [ov] (getMethod ov m pl)
   callWith pos f first (backTo pos (starEach (e :: es) X.env)) (backToKw pos (keywordEach [] X.env))):=by rfl):PE X (.Call (.Attribute o m apos) (e :: es) [] pos) (tMet C m sp ta t):=by
 obtain ⟨rfl,rfl,rfl,rfl,rfl⟩:=hX
 obtain ⟨f,fd,F,hm,hb⟩:=M
 have hx:Passes (CX2 X.prog X.w) X E0:=fun pins σ H s e s' I ⟨_,_,_,_,_,_,_,_,_,_,_,_,_,_,_,q⟩=>False.elim q
 have h:=pe_meth (pl:=pl) (dvs:=[]) he c hm F hr hb .nil hx ha hst hpl ht
 rw [met_eq] at h
 exact h
theorem e_met0 (m:Str) {pl:Sem Bool} (M:CanM0 P' w' K' mg' base' C m k ps sp) (c:Cls K' C) (hX:X.prog=P'/\X.w=w'/\X.K=K'/\X.mg=mg'/\X.base=base') (hr:Room k X.A) (he:PE X o ta)
  (ht:eval (.Call (.Attribute o m apos) [] [] pos) X.env=(do
   let ov <-eval o X.env
   standAt apos.atName
   let (f,first) <-holding [ov] (getMethod ov m pl)
   callWith pos f first (backTo pos (starEach [] X.env)) (backToKw pos (keywordEach [] X.env))):=by rfl):PE X (.Call (.Attribute o m apos) [] [] pos) (tMet C m sp ta tNil):=by
 obtain ⟨rfl,rfl,rfl,rfl,rfl⟩:=hX
 obtain ⟨f,fd,F,hm,hb⟩:=M
 have h:=pe_meth0 (pl:=pl) (dvs:=[]) he c hm F hr hb .nil pass0 ht
 rw [met_eq] at h
 exact h
def tMk (C:Addr) (sp:Sp):TE:=fun σ H Q=>∀ x dx,H x=none->H dx=none->dx≠x->sp [.ref x] (upd (upd H dx (.own x)) x (.ins C dx [])) (fun v H2=>v = .non/\Q (.ref x) H2) E0
theorem e_mk (x:Str) {f:Addr} {fd:FuncData} (F:FnOk P' w' K' mg' base' CX0 k f fd ps sp) (M:Mk K' C f) (hb:Binds K' fd ps []) (hm:mg' x=some (.ref C)) (hX:X.prog=P'/\X.w=w'/\X.K=K'/\X.mg=mg'/\X.base=base') (hr:Room (k+1) X.A) (hg:gB X x=true:=by kernel_rfl) (hdb:(x == ("__debug__" : Str))=false:=by kernel_rfl) :
  PE X (.Call (.Name x p) [] [] pos) (tMk C sp):=by
 obtain ⟨rfl,rfl,rfl,rfl,rfl⟩:=hX
 have h:=pe_make0 (pos:=pos) (p:=p) (dvs:=[]) M F hr (gl_of hg) hm hb .nil pass0 hdb
 intro pins s σ H Q I q
 exact h pins s σ H Q I fun x dx a b c=>q x dx a b c
def tMetB (C:Addr) (m:Str) (sp:Sp) (ta:TE) (t:TA):XK->TS:=fun E D σ H=>ta σ H fun x H1=>∃ a dx fs,x = .ref a/\H1 a=some (.ins C dx fs)/\fs.lookup m=none/\t σ H1 fun vs H2=>sp (x :: vs) H2 (fun _ H3=>D.nx σ H3) E
theorem pb_met (m:Str) {pl:Sem Bool} (M:CanM P' w' K' mg' base' C m k ps sp) (c:Cls K' C) (hX:X.prog=P'/\X.w=w'/\X.K=K'/\X.mg=mg'/\X.base=base') (hr:Room k X.A) (ho:PE X.nox o ta) (ha:PA X.nox (e :: es) t)
  (he:starEach (e :: es) X.env=(false,eval e X.env) :: starEach es X.env:=by kernel_rfl) (hpl:(backTo pos (starEach es X.env)).any (·.1)=false:=by kernel_rfl)
  (hs:swapsWith (.Call (.Attribute o m apos) (e :: es) [] pos) none epos.line X.env=pure false:=by kernel_rfl)
  (ht:eval (.Call (.Attribute o m apos) (e :: es) [] pos) X.env=(do
   let ov <-eval o X.env
   standAt apos.atName
   let (f,first) <-holding [ov] (getMethod ov m pl)
   callWith pos f first (backTo pos (starEach (e :: es) X.env)) (backToKw pos (keywordEach [] X.env))):=by rfl):PB2 X [.Expr (.Call (.Attribute o m apos) (e :: es) [] pos) epos] (tMetB C m sp ta t):=by
 obtain ⟨rfl,rfl,rfl,rfl,rfl⟩:=hX
 obtain ⟨f,fd,F,hm,hb⟩:=M
 intro pins s σ H D E I h
 refine wpAny_execs_cons (wpAny_Expr_any ?_ I.quiet hs)
 refine PySem.W.methodCall_KW (pl:=pl) (wpAny_mono (ho pins s σ H _ (I.wish _) h) (fun u s1 z=>?_) fun _ _ z=>z.elim) ht
 obtain ⟨x,H1,I1,rx,a,dx,fs,ex,ea,l,q⟩:=z
 have I1:=I1.unwish
 subst ex
 obtain rfl:u=Value.ref a:=rx
 refine getmeth_ok I1 ea c hm l ?_
 refine PySem.W.callWith_K (first:=[.ref a]) (h₀:=X.base) I.ok.mod.kin hm.kp (wpAny_mono (ha pos pins s1 σ H1 _ (I1.wish _) q) (fun us s2 z=>?_) fun _ _ z=>z.elim) he hpl
 obtain ⟨vs,H2,I2,r,q2⟩:=z
 have I2:=I2.unwish
 refine ⟨I2.kIn,?_⟩
 have r2:Vals (V.ref a :: vs) (Value.ref a :: us):=.cons rfl r
 have hl:(Value.ref a :: us).length=ps.length:=by rw [<-r2.length];exact F.len _ _ _ _ q2
 have hbs:BindsTo s2 fd ⟨Value.ref a :: us,[]⟩ (ps.zip (Value.ref a :: us)):=by have:=hb s2 (Value.ref a :: us) I2.kIn (by rw [List.append_nil];exact hl);rw [List.append_nil] at this;exact this
 refine wpAny_call (codeAny_mono (F.run X.A X.stack s2 H2 ⟨Value.ref a :: us,[]⟩ (Value.ref a :: us) (V.ref a :: vs) _ E hr I2.env0 hbs r2 q2) fun rr s' hq=>?_)
 cases rr with
 | error e=>exact ⟨H2,s2,I2,hq⟩
 | ok fl=>
  cases fl with
  | ret u=>
   obtain ⟨v,H3,I3,_,q3⟩:=I2.after hq
   exact wpAny_execs_nil ⟨σ,H3,I3,q3⟩
  | next=>exact False.elim hq
  | brk=>exact False.elim hq
  | cont=>exact False.elim hq
end
end L2
end
section
namespace L2
open PySem PySem.Spec PyProof.Rows
theorem orStand_keep (t:SetTable) (n:Nat):(t.orStandIn n).led=t.led:=by unfold SetTable.orStandIn;split<;>rfl
theorem layNew_led (t:SetTable) (es:Array (Int×Value)) (h:Int) (x:Value):(layNew t es h x).2.1.led=t.led:=by
 unfold layNew
 split
 ·exact orStand_keep _ _
 ·rfl
theorem relaid_keep {t t':SetTable} {hs:Array Int} {n:Nat} {o:Array Nat} (h:t.relaid hs n=some (t',o)):t'.led=t.led/\t'.plain=t.plain:=by
 unfold SetTable.relaid SetTable.laid at h
 cases e:SetTable.layClean (SetTable.sizeAbove n - 1) hs with
 | none=>rw [e] at h;cases h
 | some z=>
  rw [e] at h
  cases h
  exact ⟨rfl,rfl⟩
theorem relay_keep (t:SetTable) (es:Array (Int×Value)) (n:Nat):(relayAll t es n).2.1.led=t.led/\(t.plain=false->(relayAll t es n).2.1.plain=false):=by
 unfold relayAll
 split
 ·rename_i t' o e
  have k:=relaid_keep e
  dsimp only
  split
  ·exact ⟨k.1,fun p=>k.2.trans p⟩
  ·exact ⟨rfl,fun _=>rfl⟩
 ·exact ⟨rfl,fun _=>rfl⟩
section
variable {prog:Program} {w:World} {A:Around} {E:Value->Shared->Prop} {s:Shared}
def SetX (prog:Program) (w:World) (h:Heap) (a:Addr) (S:Str->Bool) (n:Nat) (L:Bool):Prop:=
 ∃ (o:Obj) (es:Array (Int×Value)) (ep:Nat) (t:SetTable),h.get? a=some o/\o.ExactSet/\o.data = .set es ep t/\ElemsOf (strKind prog w) es.toList/\(∀ k,S k=true↔∃ e∈es.toList,(strKind prog w).is k e.2=true)/\es.size < scanBound/\t.fits es.size=true/\es.size=n/\t.led=L/\(0 < n->t.plain=false)
theorem setX_store {h:Heap} {a:Addr} {o:Obj} {es es':Array (Int×Value)} {ep:Nat} {t t':SetTable} {S:Str->Bool} (ho:h.get? a=some o) (ex:o.ExactSet) (hd:o.data = .set es ep t) (el:ElemsOf (strKind prog w) es'.toList) (mm:∀ k,S k=true↔∃ e∈es'.toList,(strKind prog w).is k e.2=true) (sb:es'.size < scanBound) (ft:t'.fits es'.size=true) (np:t'.plain=false) :
  (h.update a (Obj.putSet es' t')).get? a=some { o with data:=.set es' (ep+1) t' }/\SetX prog w (h.update a (Obj.putSet es' t')) a S es'.size t'.led:=
 have z:=(SetOf_store (knd:=strKind prog w) ho ex hd el mm sb ft).1
 ⟨z,_,es',_,t',z,ex,rfl,el,mm,sb,ft,rfl,rfl,fun _=>np⟩
theorem add_tail {g:Bool->Sem Unit} (hg:∀ (b:Bool) (s1:Shared) (R:Unit->Shared->Prop),R () s1->wpAny (model prog w) A (g b) R E s1) {a:Addr} {o:Obj} {es es1:Array (Int×Value)} {ep:Nat} {t t2:SetTable} {S:Str->Bool} {wd:Bool} {R:Option Bool->Shared->Prop}
  (ho:s.heap.get? a=some o) (ex:o.ExactSet) (hd:o.data = .set es ep t) (el:ElemsOf (strKind prog w) es1.toList) (mm:∀ k,S k=true↔∃ e∈es1.toList,(strKind prog w).is k e.2=true) (sb:es1.size < scanBound) (ft:t2.fits es1.size=true) (np:t2.plain=false)
  (k:∀ h',Heap.SameBut a s.heap h'->SetX prog w h' a S es1.size t2.led->R (some true) { s with heap:=h' }) :
  wpAny (model prog w) A (storeSet a es1 t2 >>= fun _=>if (!wd && t2.tooFull)=true then (g (relayAll t2 es1 (SetTable.grown es1.size)).2.2 >>= fun _=>storeSet a (relayAll t2 es1 (SetTable.grown es1.size)).1 (relayAll t2 es1 (SetTable.grown es1.size)).2.1 >>= fun _=>pure (some true)) else pure (some true)) R E s:=by
 obtain ⟨o1,x1⟩:=setX_store ho ex hd el mm sb ft np
 have b1:=Heap.SameBut.update s.heap a (Obj.putSet es1 t2)
 refine wpAny_bind (wpAny_storeSet_of ho hd ?_ (fits_of_scanBound sb))
 cases (!wd && t2.tooFull) with
 | false=>exact wpAny_pure (k _ b1 x1)
 | true=>
  have pm:=relayAll_perm t2 es1 (SetTable.grown es1.size)
  have ff:=relayAll_fits t2 es1 (SetTable.grown es1.size)
  have kk:=relay_keep t2 es1 (SetTable.grown es1.size)
  rw [if_pos rfl]
  generalize relayAll t2 es1 (SetTable.grown es1.size)=Z at pm ff kk ⊢
  obtain ⟨es3,t3,gv⟩:=Z
  dsimp only at pm ff kk ⊢
  have sz:es3.size=es1.size:=by
   have:=pm.length_eq
   rwa [Array.length_toList,Array.length_toList] at this
  refine wpAny_bind (hg _ _ _ (wpAny_bind (wpAny_storeSet_of o1 rfl ?_ (fits_of_scanBound (by rw [sz];exact sb)))))
  have x3:=(setX_store (prog:=prog) (w:=w) (S:=S) o1 ex rfl (el.perm pm) (fun y=>(mm y).trans ⟨fun ⟨e,he,q⟩=>⟨e,pm.mem_iff.mpr he,q⟩,fun ⟨e,he,q⟩=>⟨e,pm.mem_iff.mp he,q⟩⟩) (by rw [sz];exact sb) ff (kk.2 np)).2
  rw [sz,kk.1] at x3
  exact wpAny_pure (k _ (b1.trans (Heap.SameBut.update _ a _)) x3)
theorem add_str {a:Addr} {S:Str->Bool} {n:Nat} {L:Bool} {z:Str} {tk:Tok} {Q:Bool->Shared->Prop} (x:SetX prog w s.heap a S n L) (room:n+1 < scanBound)
  (q:∀ h',Heap.SameBut a s.heap h'->SetX prog w h' a (fun y=>S y || decide (y=z)) (if S z then n else n+1) L->Q (!S z) { s with heap:=h' }) :
  wpAny (model prog w) A (setAddHashed a (.str z tk) ((strKind prog w).hash z)) Q E s:=by
 obtain ⟨o,es,ep,t,ho,ex,hd,el,mm,sb,ft,en,ld,pl⟩:=x
 have ky:(strKind prog w).is z (.str z tk)=true:=by simp [PySem.strKind,Value.isStrOf]
 have sc:(Value.str z tk).scannable=true:=rfl
 unfold setAddHashed setAddHashedIn
 refine wpAny_holding (wpAny_bind (wpAny_setState_of ho hd ft ?_))
 dsimp only
 rw [byScan_of sc sb el,if_pos rfl]
 unfold setAddByScan
 refine wpAny_bind (wpAny_bind (wpAny_rule (wpAny_bind (wpAny_setScan_of ky ho hd ft el ?_))))
 cases hr:List.findIdx? (fun e=>(strKind prog w).is z e.2) es.toList with
 | some j=>
  obtain ⟨hj,hp,_⟩:=List.findIdx?_eq_some_iff_getElem.mp hr
  have sz:S z=true:=(mm z).mpr ⟨_,List.getElem_mem hj,hp⟩
  have q:=q s.heap (Heap.SameBut.refl a s.heap) ⟨o,es,ep,t,ho,ex,hd,el,fun y=>by
   rw [<-mm y,Bool.or_eq_true,decide_eq_true_eq]
   exact ⟨fun u=>u.elim id fun e=>e ▸ sz,.inl⟩,sb,ft,by rw [if_pos sz];exact en,ld,by rw [if_pos sz];exact pl⟩
  rw [sz] at q
  exact wpAny_pure (wpAny_pure q)
 | none=>
  have sz:S z=false:=by
   cases e:S z with
   | false=>rfl
   | true=>
    obtain ⟨e',he,hp⟩:=(mm z).mp e
    rw [List.findIdx?_eq_none_iff.mp hr e' he] at hp
    cases hp
  have way:∀ (b:Bool) (s1:Shared) (R:Unit->Shared->Prop),R () s1->wpAny (model prog w) A (match b with | true=>rule "set.scan.the-table-gave-way" | false=>pure ()) R E s1:=fun b s1 R h=>by
   cases b
   ·exact wpAny_pure h
   ·exact wpAny_rule h
  have pm:=layNew_perm t es ((strKind prog w).hash z) (.str z tk)
  have ff:=layNew_fits t es ((strKind prog w).hash z) (.str z tk)
  have kl:=layNew_led t es ((strKind prog w).hash z) (.str z tk)
  dsimp only
  generalize layNew t es ((strKind prog w).hash z) (.str z tk)=Z at pm ff kl ⊢
  obtain ⟨es1,t1,wd,gv⟩:=Z
  dsimp only at pm ff kl ⊢
  rw [Array.toList_push] at pm
  have s1:es1.size=n+1:=by
   have:=pm.length_eq
   rw [Array.length_toList,List.length_append,Array.length_toList] at this
   simp at this
   omega
  have el1:=(el.push ky sc).perm pm
  have mm1:=mem_push_iff ky mm pm
  refine wpAny_bind (way _ _ _ ?_)
  have fin:∀ h',Heap.SameBut a s.heap h'->SetX prog w h' a (fun y=>S y || decide (y=z)) es1.size L->Q true { s with heap:=h' }:=fun h' b x=>by
   have:=q h' b
   rw [sz,if_neg (by decide)] at this
   rw [s1] at x
   exact this x
  cases ep1:t1.plain with
  | true=>
   simp only [if_true]
   refine wpAny_bind (wpAny_pure ?_)
   simp only [Bool.false_eq_true,if_false]
   refine add_tail (t2:={ t1 with plain:=false }) (way) ho ex hd el1 mm1 (by omega) ff rfl fun h' b x=>?_
   rw [show ({ t1 with plain:=false }:SetTable).led=t1.led from rfl,kl,ld] at x
   exact wpAny_pure (fin h' b x)
  | false=>
   simp only [Bool.false_eq_true,if_false]
   refine wpAny_bind (wpAny_pure ?_)
   simp only [if_true]
   refine add_tail (way) ho ex hd el1 mm1 (by omega) ff ep1 fun h' b x=>?_
   rw [kl,ld] at x
   exact wpAny_pure (fin h' b x)
end
end L2
end
section
namespace L2
open PySem PySem.Spec PyProof.Rows
section
variable {prog:Program} {w:World} {A:Around} {E:Value->Shared->Prop} {s:Shared}
end
end L2
end
section
namespace L2
open PySem PySem.Spec PyProof.Rows
section
variable {prog:Program} {w:World} {A:Around} {E:Value->Shared->Prop} {s:Shared}
end
end L2
end
section
namespace L2
open PySem PySem.Spec PyProof.Rows
section
variable {prog:Program} {w:World} {A:Around} {E:Value->Shared->Prop} {s:Shared}
end
end L2
end
section
namespace L2
open PySem PySem.Spec PyProof.Rows
section
variable {prog:Program} {w:World} {A:Around} {E:Value->Shared->Prop} {s:Shared}
end
end L2
end
section
namespace L2
open PySem PySem.Spec PyProof.Rows
section
variable {prog:Program} {w:World} {A:Around} {I:Addr} {fp wr:List Addr} {G:Array GenState->Array GenState->Prop} {n:Nat} {P:Nat->Value->Prop} {St:Nat->Shared->Prop}
end
section
variable {X:Cx} {p pos:Pos} {e:Expr} {es:List Expr} {t:TA}
theorem strs_vals:∀ {vs:List Value} {ys:List Str},StrsAre vs ys->Vals (ys.map V.str) vs
 | _,_,.nil=>.nil
 | _,_,.cons z tk h=>.cons ⟨tk,rfl⟩ (strs_vals h)
end
end L2
end
section
namespace L2
open PySem PySem.Spec PyProof.Rows Builtin Builtin.Str
section
variable {X:Cx} {p pos apos:Pos} {a b c e o:Expr} {es:List Expr} {t:TA} {to:TE}
def rSplit2:V->List V->Hp->VK->Prop:=fun x vs H Q=>match x,vs with
 | .str z,[.str y,.int k]=>0<=k/\k < 1000/\(y.length == 0)=false/\z.length+2000<=sizeLine/\∀ l,H l=none->Q (.ref l) (upd H l (.lst ((Txt.splitMax z y k).map V.str)))
 | x,vs=>rSplit x vs H Q
theorem mt_split2:MtM X "str.split" rSplit2:=by
 intro pins s σ H x vs v us Q I rx rv h
 unfold rSplit2 at h
 split at h
 ·rename_i z y k
  obtain ⟨k0,k1,hy,hz,q⟩:=h
  obtain ⟨t,rfl⟩:=rx
  obtain ⟨u,w',rfl,r1,r2⟩:=vals2 rv
  obtain ⟨t',rfl⟩:=r1
  obtain ⟨t'',rfl⟩:=r2
  have q:=q _ (I.hok.fresh (Nat.le_refl _))
  have hk:(decide (k < -(2 ^ 63:Int)) || decide (k ≥ 2 ^ 63))=false:=by
   rw [Bool.or_eq_false_iff]
   exact ⟨decide_eq_false (by omega),decide_eq_false (by omega)⟩
  have alone:Txt.splitMax z y k=[z]->EP X pins σ Q (.ref s.heap.objs.size) { s with heap:=s.heap.push { cls:=.type "list",data:=.seq [Value.str z t].toArray } }:=fun e=>by
   rw [e] at q
   exact ⟨.ref s.heap.objs.size,upd H s.heap.objs.size (.lst [.str z]),I.laid (t':=s.toks) (o:=.lst [.str z]) (fun b u e=>Heap.get?_push_of_some _ e) (Nat.le_refl _) ⟨by show 1<=sizeLine;decide,[Value.str z t],0,.cons ⟨_,rfl⟩ .nil,Heap.get?_push_size _ rfl⟩,rfl,q⟩
  have hn:(partsBetween z (occurrences z y 0 z.length (limitOf z k)) y.length).length<=sizeLine:=by
   have:=StrLaws.occ_length_le z y 0 z.length (limitOf z k)
   rw [length_partsBetween]
   have l2:limitOf z k<=z.length+1000:=by unfold limitOf;split<;>omega
   omega
  have hT:=typeIs_str s z t
  cases h1:(decide (z.length < y.length) || decide (PySem.Builtin.Str.strKind z < PySem.Builtin.Str.strKind y)) with
  | true=>exact call_meets F.slot_str_split hT F.entry_str_split (F.args_str_split_3 _ _ _) (meets_str_split_max_cannot_occur z y k t t' t'' hk h1) (alone (if_pos h1))
  | false=>
   have n1:¬ (decide (z.length < y.length) || decide (PySem.Builtin.Str.strKind z < PySem.Builtin.Str.strKind y))=true:=by rw [h1];decide
   cases h2:(occurrences z y 0 z.length (limitOf z k)).isEmpty with
   | true=>exact call_meets F.slot_str_split hT F.entry_str_split (F.args_str_split_3 _ _ _) (meets_str_split_max_not_found z y k t t' t'' hk h1 hy h2) (alone ((if_neg n1).trans (if_pos h2)))
   | false=>
    have n2:¬ (occurrences z y 0 z.length (limitOf z k)).isEmpty=true:=by rw [h2];decide
    refine call_meets F.slot_str_split hT F.entry_str_split (F.args_str_split_3 _ _ _) (meets_str_split_sep_max z y k t t' t'' hk h1 hy h2 (by omega) hn) ?_
    have e:Txt.splitMax z y k=partsBetween z (occurrences z y 0 z.length (limitOf z k)) y.length:=(if_neg n1).trans (if_neg n2)
    rw [e] at q
    exact ⟨.ref s.heap.objs.size,upd H s.heap.objs.size (.lst ((partsBetween z (occurrences z y 0 z.length (limitOf z k)) y.length).map V.str)),I.laid (o:=.lst ((partsBetween z (occurrences z y 0 z.length (limitOf z k)) y.length).map V.str)) (fun b u e=>Heap.get?_push_of_some _ e) (Nat.le_refl _) ⟨by rw [List.length_map];exact hn,_,0,vals_from _ _,Heap.get?_push_size _ rfl⟩,rfl,q⟩
 ·exact mt_splitU pins s σ H _ _ _ _ Q I rx rv h
theorem m_split2 {cpos:Pos} (ho:PE X o to) (ha:PA X (e :: es) t)
  (hbase:attributeBase o "split" X.env (eval o X.env)=eval o X.env:=by kernel_rfl)
  (hfew:((backTo cpos (starEach (e :: es) X.env)).all (fun x=>!x.1) && (backToKw cpos (keywordEach [] X.env)).all (fun x=>x.1.isSome)
   && decide ((e :: es).length+([]:List Keyword).length+(if ([]:List Keyword).isEmpty then 0 else 1) < 30))=true:=by kernel_rfl)
  (hline:(apos.endLine == cpos.line)=true:=by kernel_rfl) (hs:starEach (e :: es) X.env=(false,eval e X.env) :: starEach es X.env:=by kernel_rfl) (hplain:(backTo cpos (starEach es X.env)).any (·.1)=false:=by kernel_rfl) :
  PE X (.Call (.Attribute o "split" apos) (e :: es) [] cpos) (tMt "str" rSplit2 to t):=pe_mt PySem.F.plainAttrs_str PySem.F.slot_str_split PySem.F.type_str_split mt_split2 ho ha hbase hfew hline hs hplain
def rInZ (K:PySem.W.Frag):R2:=fun x y H Q=>match x,y with
 | .str z,.ref p=>∃ zs:List Str,(SqL K H p (zs.map V.str)\/SqT K H p (zs.map V.str))/\Q (.bl (decide (z∈zs))) H
 | _,_=>False
theorem op_inZ:OpR X (compareOp .In) (rInZ X.K):=op_in_seq.of fun x y H Q q=>by
 unfold rInZ at q
 split at q
 ·obtain ⟨zs,h,q⟩:=q
  refine ⟨_,_,rfl,h,rfl,flat_strs zs,?_⟩
  simp only [Bool.false_eq_true,if_false]
  rw [inV_strs];exact q
 ·exact q.elim
def rSortT:List V->Hp->VK->Prop:=fun vs H Q=>∃ (a:Addr) (kvs:List (Key×V)) (zs:List Str),vs=[.ref a]/\Rd H a (.dK kvs)/\kvs.map (fun p=>kV p.1)=zs.map V.str/\zs.length < 64/\∀ l ys,H l=none->ys.Perm zs->sortedS ys=true->Q (.ref l) (upd H l (.lst (ys.map V.str)))
theorem call_sortT (hc:X.calm=true):CallR X (.builtin "sorted") rSortT:=by
 intro pins s σ H vs us Q I r h
 obtain ⟨a,kvs,zs,rfl,rd,ek,h64,q⟩:=h
 obtain ⟨u,rfl,rx⟩:=vals1 r
 cases rx
 obtain ⟨z,hd,vs,kv,o,es,ep,h1,h2,h3,h4,h5,h6⟩:=dk_rd I.hok rd
 have hT:s.TypeIs (.ref a) "dict" := ⟨o,h1,h2.1⟩
 have rel:=keys_mix kv h5
 have kl:kvs.length=zs.length:=by have:=congrArg List.length ek;simpa using this
 have el:es.size=zs.length:=by
  have e1:=rel.length
  simp at e1
  omega
 refine Calls.call_function_entry kind_sorted plain_sorted entry_sorted (args_sorted1 _) ?_
 unfold Builtin.«sorted»
 refine wpAny_bind (m:=checkCount "sorted" 1 1 _) (wpAny_pure ?_)
 refine wpAny_bind (collect_dict (I.ok.hd hc) hd hT h1 h3 (by rw [el,sizeLine_eq];omega) fun h1' tk acc kp lt it=>?_)
 have rv:=items_keys it rel
 rw [ek] at rv
 have hS:=vals_strs rv
 have v64:acc.toList.length < 64:=by rw [<-rv.length,List.length_map];exact h64
 refine wpAny_bind (wpAny_newList ?_ (by rw [sizeLine_eq];omega))
 have hoL:(h1'.push (seqObj "list" acc.toList.toArray 0)).get? h1'.objs.size=some (seqObj "list" acc.toList.toArray 0):=Heap.get?_push_size _ rfl
 refine wpAny_bind (wpAny_holding (wpAny_call_entry slot_list_sort ⟨_,hoL,rfl⟩ entry_list_sort (list_sort_treeK strKind_oneLt hoL hS.keysOf (fun v1 v2 rest e=>keyKind_strs (by rw [<-e];exact hS)) v64 fun st' p1 p2=>⟨_,rfl,?_⟩) (args_list_sort _)))
 obtain ⟨ys,y1,y2,y3⟩:=sorted_out_str hS p1 p2
 obtain ⟨e,he⟩:=sortedHeap_at (out:=(arrOf st').map (·.2)) hoL
 have kp2:∀ b o,s.heap.get? b=some o->(sortedHeap (h1'.push (seqObj "list" acc.toList.toArray 0)) h1'.objs.size acc.toList ((arrOf st').map (·.2))).get? b=some o:=fun b o hb=>by
  have hb1:=kp b o hb
  have bl:=Heap.lt_size hb1
  rw [sortedHeap_old (Nat.ne_of_lt bl) (by rw [size_push'];exact Nat.lt_succ_of_lt bl)]
  exact Heap.get?_push_of_some _ hb1
 have yl:ys.length=zs.length:=y2.length_eq
 have ok:ObjOk X.prog X.w (upd H h1'.objs.size (.lst (ys.map V.str))) (sortedHeap (h1'.push (seqObj "list" acc.toList.toArray 0)) h1'.objs.size acc.toList ((arrOf st').map (·.2))) h1'.objs.size (.lst (ys.map V.str)):=⟨by rw [List.length_map,yl,sizeLine_eq];omega,_,e,strs_vals y1,he⟩
 refine wpAny_pure ⟨_,rfl,.ref h1'.objs.size,upd H h1'.objs.size (.lst (ys.map V.str)),I.laid (t':=tk) kp2 (Nat.le_of_lt lt) ok,rfl,q _ _ (I.hok.fresh (Nat.le_of_lt lt)) y2 y3⟩
theorem fn_sortT {mg':Str->Option Value} (hm:mg' "sorted" = none) (hX:X.mg=mg') (ha:PA X (e :: es) t) (hc:X.calm=true:=by kernel_rfl) (hg:gB X "sorted" = true:=by kernel_rfl) (he:starEach (e :: es) X.env=(false,eval e X.env) :: starEach es X.env:=by kernel_rfl) (hpl:(backTo pos (starEach es X.env)).any (·.1)=false:=by kernel_rfl) :
  PE X (.Call (.Name "sorted" p) (e :: es) [] pos) (tCB rSortT t):=pe_callB (call_sortT hc) (gl_of hg) (by rw [hX];exact hm) PyProof.Rows.boot_sorted ha (he:=he) (hpl:=hpl)
end
end L2
end
section
namespace L2
open PySem PySem.Spec PyProof.Rows PySem.W
def TokIn (n:Nat) (u:Value):Prop:=∃ z t,u=Value.str z t/\0 < t/\t < n
theorem TokIn.mono {m n:Nat} {u:Value} (h:TokIn m u) (l:m<=n):TokIn n u:=let ⟨z,t,e,a,b⟩:=h;⟨z,t,e,a,Nat.lt_of_lt_of_le b l⟩
theorem thnB {α:Type} {n:Nat} {t:Sem α} {Q Q':α->Shared->Prop} {M:Model} {A:Around} {E:Value->Shared->Prop} {s:Shared} (hn:n<=s.toks) (h:wpAny M A t Q E s) (hQ:∀ a s',n<=s'.toks->Q a s'->Q' a s'):wpAny M A t Q' E s:=
 wpAny_mono (wpAny_toks_of hn h) (fun a s' z=>hQ a s' z.1 z.2) fun _ _ z=>z.2
def PEB (X:Cx) (n:Nat) (e:Expr) (t:TE):Prop:=
 ∀ (pins:List (Addr×Obj)) (s:Shared) (σ:St) (H:Hp) (Q:VK),n<=s.toks->Inv X pins σ H s->t σ H Q->wpAny (model X.prog X.w) X.A (eval e X.env) (EP X pins σ Q) X.xe s
def PAB (X:Cx) (n:Nat) (es:List Expr) (t:TA):Prop:=
 ∀ (pos:Pos) (pins:List (Addr×Obj)) (s:Shared) (σ:St) (H:Hp) (Q:List V->Hp->Prop),n<=s.toks->Inv X pins σ H s->t σ H Q->wpAny (model X.prog X.w) X.A (spliced (backTo pos (starEach es X.env))) (AP X pins σ Q) X.xe s
def PSB (X:Cx) (n:Nat) (st:Stmt) (t:TS):Prop:=
 ∀ (pins:List (Addr×Obj)) (s:Shared) (σ:St) (H:Hp) (D:Ends),n<=s.toks->Inv X pins σ H s->t D σ H->wpAny (model X.prog X.w) X.A (exec st X.env) (SP X pins D) X.xe s
def PSsB (X:Cx) (n:Nat) (st:List Stmt) (t:TS):Prop:=
 ∀ (pins:List (Addr×Obj)) (s:Shared) (σ:St) (H:Hp) (D:Ends),n<=s.toks->Inv X pins σ H s->t D σ H->wpAny (model X.prog X.w) X.A (execs st X.env) (SP X pins D) X.xe s
section
variable {X:Cx} {n:Nat} {p pos apos cpos p1 p2:Pos} {e o:Expr} {es:List Expr} {st:Stmt} {rest:List Stmt} {te to:TE} {t:TA} {ts us:TS}
theorem pssB_cons (h1:PS X st ts) (h2:PSsB X n rest us):PSsB X n (st :: rest) (tSeq ts us):=by
 intro pins s σ H D hn I h
 refine wpAny_execs_cons (thnB hn (h1 pins s σ H { D with nx:=us D } I h) fun f s1 hn1 q=>?_)
 cases f with
 | next=>
  obtain ⟨σ',H',I',q⟩:=q
  exact h2 pins s1 σ' H' D hn1 I' q
 | ret v=>exact q
 | brk=>exact q
 | cont=>exact q
theorem pssB_one (h1:PSB X n st ts):PSsB X n [st] ts:=by
 intro pins s σ H D hn I h
 refine wpAny_execs_cons (thn (h1 pins s σ H D hn I h) fun f s1 q=>?_)
 cases f with
 | next=>exact wpAny_execs_nil q
 | ret v=>exact q
 | brk=>exact q
 | cont=>exact q
theorem psB_ret (he:PEB X n e te):PSB X n (.Return (some e) pos) (tRet te):=by
 intro pins s σ H D hn I h
 exact wpAny_Return_some (thn (he pins s σ H _ hn I h) fun v s1 ⟨x,H1,I1,r1,q1⟩=>⟨x,σ,H1,I1,r1,q1⟩)
theorem paB_one (ha:PEB X n e te) (hs:starEach [e] X.env=(false,eval e X.env) :: starEach [] X.env:=by kernel_rfl):PAB X n [e] (tCons te tNil):=by
 intro pos pins s σ H Q hn I h
 rw [hs]
 show wpAny _ _ (spliced ((false,eval e X.env) :: backTo pos (starEach [] X.env))) _ _ s
 refine Calls.spliced_cons (thn (ha pins s σ H _ hn I h) fun u s1 ⟨x,H1,I1,r1,q1⟩=>?_)
 exact thn (pa_nil pos pins s1 σ H1 _ I1 q1) fun us s2 ⟨xs,H2,I2,r2,q2⟩=>⟨x :: xs,H2,I2,.cons r1 r2,q2⟩
theorem paB_cons (ha:PE X e te) (hr:PAB X n es t) (hs:starEach (e :: es) X.env=(false,eval e X.env) :: starEach es X.env:=by kernel_rfl):PAB X n (e :: es) (tCons te t):=by
 intro pos pins s σ H Q hn I h
 rw [hs]
 show wpAny _ _ (spliced ((false,eval e X.env) :: backTo pos (starEach es X.env))) _ _ s
 refine Calls.spliced_cons (thnB hn (ha pins s σ H _ I h) fun u s1 hn1 ⟨x,H1,I1,r1,q1⟩=>?_)
 exact thn (hr pos pins s1 σ H1 _ hn1 I1 q1) fun us s2 ⟨xs,H2,I2,r2,q2⟩=>⟨x :: xs,H2,I2,.cons r1 r2,q2⟩
theorem fn_canB (x:Str) {k:Nat} {ps:List Str} {sp:Sp} {P':Program} {w':World} {K':PySem.W.Frag} {mg':Str->Option Value} {base':Heap} (C:Can P' w' K' mg' base' x k ps sp) (hX:X.prog=P'/\X.w=w'/\X.K=K'/\X.mg=mg'/\X.base=base') (hr:Room k X.A) (ha:PAB X n (e :: es) t)
  (hg:gB X x=true:=by kernel_rfl) (hdb:(x == ("__debug__" : Str))=false:=by kernel_rfl) (he:starEach (e :: es) X.env=(false,eval e X.env) :: starEach es X.env:=by kernel_rfl) (hpl:(backTo pos (starEach es X.env)).any (·.1)=false:=by kernel_rfl) :
  PEB X n (.Call (.Name x p) (e :: es) [] pos) (tCan sp t):=by
 obtain ⟨rfl,rfl,rfl,rfl,rfl⟩:=hX
 obtain ⟨f,fd,F,hm,hk,hb⟩:=C
 intro pins s σ H Q hn I h
 refine wpAny_Call_Name_kw (ld_glob I (gl_of hg) hm ?_ hdb)
 refine PySem.W.callWith_K (h₀:=X.base) I.ok.mod.kin hk (thn (ha pos pins s σ H _ hn I h) fun us s1 z=>?_) he hpl
 obtain ⟨vs,H1,I1,r,q⟩:=z
 refine ⟨I1.kIn,?_⟩
 have hl:us.length=ps.length:=by rw [<-r.length];exact F.len _ _ _ _ q
 have hbs:BindsTo s1 fd ⟨us,[]⟩ (ps.zip us):=by have:=hb s1 us I1.kIn (by rw [List.append_nil];exact hl);rw [List.append_nil] at this;exact this
 refine wpAny_call (codeAny_mono (F.run X.A X.stack s1 H1 ⟨us,[]⟩ us vs _ _ hr I1.env0 hbs r q) fun rr s' hq=>?_)
 cases rr with
 | error e=>exact False.elim hq
 | ok fl=>
  cases fl with
  | ret u=>exact I1.after hq
  | next=>exact False.elim hq
  | brk=>exact False.elim hq
  | cont=>exact False.elim hq
theorem cmpB {op:CmpOp} {r:R2} {a b:Expr} {ta tb:TE} (ho:OpR X (compareOp op) r) (ha:PEB X n a ta) (hb:PE X b tb) (hm:behindInMarks op b=false:=by kernel_rfl):PEB X n (.Compare a [op] [b] pos) (tOp r ta tb):=by
 intro pins s σ H Q hn I h
 refine wpAny_Compare1 ?_ hm
 refine thn (ha pins s σ H _ hn I h) fun v s1 ⟨x,H1,I1,r1,q1⟩=>?_
 refine thn (hb pins s1 σ H1 _ I1 q1) fun u s2 ⟨y,H2,I2,r2,q2⟩=>?_
 exact ho pins s2 σ H2 x y v u Q I2 r1 r2 q2
def tReplV (y z0:Str) (to:TE):TE:=fun σ H Q=>to σ H fun x H1=>∃ q,x = .str q/\q.length+(q.length+1) * z0.length<=16777216/\Q (.str (Txt.replace q y z0)) H1
theorem m_replV {x y z0:Str} {tk j1 i:Nat} (hc:X.xct=some (x,.str z0 tk)) (h0:0 < tk) (h1:tk < n) (hi:X.N[i]? = some x) (hv:visB X.env.scope x=true) (ho:PE X o to) (hyz:(y == z0)=false)
  (hl:X.env.scope.names.lookup x == some .local)
  (hbase:attributeBase o "replace" X.env (eval o X.env)=eval o X.env:=by kernel_rfl)
  (hfew:((backTo cpos (starEach [.Constant (.str y) j1 p1,.Name x p2] X.env)).all (fun x=>!x.1) && (backToKw cpos (keywordEach [] X.env)).all (fun x=>x.1.isSome)
   && decide (([.Constant (.str y) j1 p1,.Name x p2]:List Expr).length+([]:List Keyword).length+(if ([]:List Keyword).isEmpty then 0 else 1) < 30))=true:=by kernel_rfl)
  (hline:(apos.endLine == cpos.line)=true:=by kernel_rfl) :
  PEB X n (.Call (.Attribute o "replace" apos) [.Constant (.str y) j1 p1,.Name x p2] [] cpos) (fun σ H Q=>(∃ v,σ[i]? = some (some v))/\tReplV y z0 to σ H Q):=by
 intro pins s σ H Q hn I ⟨⟨v0,hσ⟩,h⟩
 refine wpAny_Call_method_late hbase hfew hline rfl (thnB hn (ho pins s σ H _ I h) fun v s1 hn1 ⟨x',H1,I1,r1,q,ex,hb,hq⟩=>?_)
 subst ex
 obtain ⟨t1,rfl⟩:=r1
 have rq:RelV (.str q) (.str q t1):=⟨t1,rfl⟩
 obtain ⟨h2,h3⟩:=tyV_is (T:= "str") I1 rq (tyU_of (show tyU H1 "str" (.str q) from rfl))
 refine ⟨"str","str.replace",PySem.F.plainAttrs_str,PySem.F.slot_str_replace,PySem.F.type_str_replace,h2,h3,?_⟩
 refine Calls.callWith_builtin rfl (Calls.evalArgs_plain ?_)
 refine Calls.spliced_cons (Calls.Constant_str (k:=j1) (pos:=p1) (Calls.spliced_cons ?_))
 have I2:=I1.tok (s1.toks+1)
 obtain ⟨m,hns,hloc⟩:=I2.loc
 obtain ⟨u,⟨_,rx⟩,l⟩:=hloc i x v0 hi hσ (vis_of hv).1
 obtain rfl:=rx _ hc
 have hl:X.env.scope.names.lookup x=some .local:=eq_of_beq hl
 rcases l with ⟨hk,hm⟩ | ⟨hk,_⟩
 ·refine wpAny_Name (wpAny_loadName_local I2.ok.kind hk hns hm (Calls.spliced_nil ?_)) (vis_of hv).2.1
  refine replaceE (by show s1.toks≠0;omega) (Nat.ne_of_gt h0) (by show s1.toks≠tk;omega) hyz hb fun t' k hk=>?_
  exact ⟨.str (Txt.replace q y z0),H1,I1.tok _,⟨_,rfl⟩,hq⟩
 ·have hk:X.env.scope.names.lookup x=some .cell\/X.env.scope.names.lookup x=some .free:=hk
  rcases hk with z | z<;>(rw [hl] at z;cases z)
end
end L2
end
section
namespace L2
open PySem PySem.Spec PyProof.Rows PySem.W
abbrev Cx.exact (X:Cx) (x:Str) (u:Value):Cx:={ X with xct:=some (x,u) }
section
variable {X:Cx} {pins:List (Addr×Obj)} {σ:St} {H:Hp} {s:Shared} {x:Str} {u:Value}
theorem Cx.Ok.exact (ok:X.Ok):(X.exact x u).Ok:=
 ⟨ok.mod,ok.kind,ok.glob,ok.blt,ok.above,ok.inj,ok.has,ok.cab,ok.hd,ok.frames,ok.stk,ok.exf,ok.bs,ok.bsz,ok.noex,ok.exfs,ok.funs,ok.frf⟩
theorem Cx.Ok.inexact (ok:(X.exact x u).Ok):X.Ok:=
 ⟨ok.mod,ok.kind,ok.glob,ok.blt,ok.above,ok.inj,ok.has,ok.cab,ok.hd,ok.frames,ok.stk,ok.exf,ok.bs,ok.bsz,ok.noex,ok.exfs,ok.funs,ok.frf⟩
theorem Inv.inexact (I:Inv (X.exact x u) pins σ H s) (hx:X.xct=none):Inv X pins σ H s:=
 ⟨I.ok.inexact,I.os,I.bare,I.base,let ⟨m,hn,hl⟩:=I.loc;⟨m,hn,fun i y v a b c=>let ⟨w,r,l⟩:=hl i y v a b c;⟨w,⟨r.1,fun _ z=>absurd (hx.symm.trans z) (by simp)⟩,l⟩⟩,I.cell,I.free,I.freeC,I.pin,I.hok,I.len⟩
theorem Inv.exact0 {i:Nat} (I:Inv X pins σ H s) (hN:X.N.Nodup) (hi:X.N[i]? = some x):Inv (X.exact x u) pins (σ.set i none) H s:=
 ⟨I.ok.exact,I.os,I.bare,I.base,let ⟨m,hn,hl⟩:=I.loc;⟨m,hn,fun j y v a b c=>by
  by_cases e:j=i
  ·subst e
   rw [List.getElem?_set_self' ] at b
   cases z:σ[j]? with
   | none=>rw [z] at b;cases b
   | some q=>rw [z] at b;cases b
  ·rw [List.getElem?_set_ne (Ne.symm e)] at b
   obtain ⟨w,r,l⟩:=hl j y v a b c
   refine ⟨w,⟨r.1,fun u' z=>?_⟩,l⟩
   cases z
   exact absurd (nodup_ix hN a hi) e⟩,I.cell,I.free,I.freeC,I.pin,I.hok,by rw [List.length_set];exact I.len⟩
theorem Inv.exact1 {m:Str->Option Value} (I:Inv X pins σ H s) (hm:s.heap.Ns X.env.locals m) (e:m x=some u) (hl:X.env.scope.names.lookup x=some .local):Inv (X.exact x u) pins σ H s:=
 ⟨I.ok.exact,I.os,I.bare,I.base,let ⟨m',hn,hl'⟩:=I.loc;⟨m',hn,fun j y v a b c=>by
  obtain ⟨w,r,l⟩:=hl' j y v a b c
  refine ⟨w,⟨r.1,fun u' z=>?_⟩,l⟩
  cases z
  rcases l with ⟨_,l⟩ | ⟨k,_⟩
  ·obtain ⟨o,es,ep,g1,g2,_,g3⟩:=hm
   obtain ⟨o',es',ep',f1,f2,_,f3⟩:=hn
   rw [g1] at f1;cases f1
   rw [g2] at f2
   injection f2 with f4 _
   subst f4
   rw [<-f3,g3,e] at l
   exact (Option.some.inj l).symm
  ·have k:X.env.scope.names.lookup x=some .cell\/X.env.scope.names.lookup x=some .free:=k
   rcases k with z | z<;>(rw [hl] at z;cases z)⟩,I.cell,I.free,I.freeC,I.pin,I.hok,I.len⟩
end
def CanG (P:Program) (w:World) (K:PySem.W.Frag) (mg:Str->Option Value) (base:Heap) (x:Str) (k:Nat) (ps:List Str) (i:Nat) (sp:Sp):Prop:=
 ∃ f fd,(∀ vs H Q E,sp vs H Q E->vs.length=ps.length)/\(∀ (A:Around) (outer:List Env) (s:Shared) (H:Hp) (args:Args) (us:List Value) (vs:List V) (Q:VK),Room k A->Env0 P w K mg base A outer s H->BindsTo s fd args (ps.zip us)->Vals vs us->(∃ u,us[i]? = some u/\TokIn s.toks u)->sp vs H Q E0 →
  codeAny (model P w) A (.call (.ref f) args) (CR CX0 outer P w H s Q E0) s)/\mg x=some (.ref f)/\PySem.W.keepIn K (.ref f)=true/\Binds K fd ps []
section
variable {P:Program} {w:World} {K:PySem.W.Frag} {mg:Str->Option Value} {base:Heap}
theorem canG_fn {x y:Str} {st:Stmt} {N ps:List Str} {k i:Nat} {sp:Sp} (D:FnX K mg x st ps) (S:FnScope N ps (defScope st)) (len:∀ vs H Q E,sp vs H Q E->vs.length=ps.length) (hi:ps[i]? = some y) (hy:(defScope st).names.lookup y=some .local)
  (hbody:∀ (f:Addr) (cdv:Value) (A:Around) (outer:List Env) (s:Shared) (H:Hp) (vs:List V) (Q:VK) (z:Str) (tk:Nat),Room k (A.deeper (envOfC x (defScope st) s.heap.objs.size f cdv))->vs[i]? = some (.str z)->0 < tk->tk < s.toks->sp vs H Q E0 →
   ∃ t,PSsB ((cxOf CX0 P w K mg base N x (defScope st) f cdv A outer s H E0).exact y (.str z tk)) s.toks (defBody st) t/\t { nx:=fun _ H'=>Q .non H',rt:=Q } (start N vs) H):CanG P w K mg base x (k+1) ps i sp:=by
 obtain ⟨f,fd,F,hm,hbd⟩:=D
 obtain ⟨oc,od,kV,doc,pm,an,cdv,ct,osl,rfl,lk,hcd⟩:=F.ex
 refine ⟨f,_,len,fun A outer s H args us vs Q hr e0 hb r htok hsp=>?_,hm,F.kp,hbd⟩
 obtain ⟨u,hu,z,tk,rfl,t0,t1⟩:=htok
 have hv:vs[i]? = some (.str z):=by
  have hl:=r.length
  have hlt:i < vs.length:=by rw [hl];exact (List.getElem?_eq_some_iff.mp hu).1
  obtain ⟨u',hu',rv⟩:=r.get (List.getElem?_eq_getElem hlt)
  rw [hu] at hu'
  cases hu'
  rw [List.getElem?_eq_getElem hlt]
  generalize vs[i]=v at rv
  cases v with
  | str q=>obtain ⟨t,e⟩:=rv;cases e;rfl
  | non=>cases rv
  | bl b=>cases rv
  | int q=>obtain ⟨t,e⟩:=rv;cases e
  | byt q=>obtain ⟨t,e⟩:=rv;cases e
  | flt q=>obtain ⟨t,e⟩:=rv;cases e
  | ref q=>cases rv
  | ty q=>cases rv
 have hl:=len _ _ _ _ hsp
 have KX:K.In s.heap:=e0.mod.kin.keeps fun b o e=>(e0.bs b o e).1
 have lim:s.heap.NoLimit:=e0.mod.nolimit.keeps fun b o e=>(e0.bs b o e).1
 have hkind:∀ z∈ps.zip us,(defScope st).names.lookup z.1=some .local\/((defScope st).names.lookup z.1=some .cell/\((cellsFrom (s.heap.objs.size+1) (defScope st).names []).lookup z.1).isSome=true):=fun ⟨n,v⟩ hy=>by
  rcases S.par n (List.of_mem_zip hy).1 with q | q
  ·exact .inl q
  ·exact .inr ⟨q,PySem.W.cellsFrom_some _ _ _ (.inl q)⟩
 refine codeAny_call_function (A:=A) hr.depth (KX _ _ lk) rfl S.co S.gen rfl (PySem.W.codeRec_of KX hcd) (hb _ _ _ _ ?_)
 refine wpAny_with_toks (Nat.le_refl _) ?_
 refine wpAny_newFunctionEnv_cells S.kind hkind fun env he s1 xx htk=>?_
 subst he
 refine ⟨lim.keeps xx.toInCall.keep,codeAny_func ?_⟩
 obtain ⟨t,ht,hq⟩:=hbody f cdv A outer s H vs Q z tk (hr.deeper _) hv t0 t1 hsp
 have I:Inv (cxOf CX0 P w K mg base N x (defScope st) f cdv A outer s H E0) [] (start N vs) H s1:=inv_start S hr.hd e0 hl r xx
 have ndP:ps.Nodup:=by rw [<-S.pre];exact S.nd.sublist (List.take_sublist _ _)
 have I':=I.exact1 (x:=y) (u:=.str z tk) xx.toInCall.ns (bindL_get ndP hi hu hy) hy
 refine wpAny_mono (ht [] s1 (start N vs) H _ htk I' hq) (fun fl s' hs=>?_) fun e s' hs=>?_
 ·have fin:∀ {σ':St} {H':Hp} {v:V} {u:Value},Inv ((cxOf CX0 P w K mg base N x (defScope st) f cdv A outer s H E0).exact y (.str z tk)) [] σ' H' s'->RelV v u->Q v H'->CE outer P w H s Q u s':=
   fun {σ' H' v u} J rv q=>⟨v,H',J.os,J.bare,J.base,J.hok,rv,q⟩
  cases fl with
  | ret u=>
   obtain ⟨v,σ',H',J,rv,q⟩:=hs
   exact fin J rv q
  | next=>
   obtain ⟨σ',H',J,q⟩:=hs
   exact fin (v:=V.non) (u:=Value.none) J rfl q
  | brk=>
   obtain ⟨_,_,_,q⟩:=hs
   exact False.elim q
  | cont=>
   obtain ⟨_,_,_,q⟩:=hs
   exact False.elim q
 ·exact hs
end
def CanN (P:Program) (w:World) (K:PySem.W.Frag) (mg:Str->Option Value) (base:Heap) (x:Str) (k:Nat) (ps:List Str) (sp:Sp):Prop:=
 ∃ f fd,(∀ vs H Q E,sp vs H Q E->vs.length=ps.length)/\(∀ (A:Around) (outer:List Env) (s:Shared) (H:Hp) (args:Args) (us:List Value) (vs:List V) (Q:VK),Room k A->Env0 P w K mg base A outer s H->BindsTo s fd args (ps.zip us)->Vals vs us->sp vs H Q E0 →
  codeAny (model P w) A (.call (.ref f) args) (fun r s'=>CR CX0 outer P w H s Q E0 r s'/\∀ u,r = .ok (.ret u)->TokIn s'.toks u) s)/\mg x=some (.ref f)/\PySem.W.keepIn K (.ref f)=true/\Binds K fd ps []
def tName (sp:Sp) (i:Nat) (ta:TA) (tb tc trest:TS):TS:=fun D σ H=>ta σ H fun vs H1=>sp vs H1 (fun v H2=>∃ z,v = .str z/\tSeq tb tc { D with nx:=trest D } (σ.set i (some (.str z))) H2) E0
section
variable {X:Cx} {p py pos spos:Pos} {e:Expr} {es:List Expr} {t:TA} {k:Nat} {ps:List Str} {sp:Sp} {sb sc:Stmt} {rest:List Stmt} {tb tc trest:TS} {D:Ends} {pins:List (Addr×Obj)}
theorem sp_inexact {x:Str} {u:Value} {f:Flow} {s':Shared} (hx:X.xct=none) (h:SP (X.exact x u) pins D f s'):SP X pins D f s':=by
 cases f with
 | next=>obtain ⟨σ',H',I,q⟩:=h;exact ⟨σ',H',I.inexact hx,q⟩
 | brk=>obtain ⟨σ',H',I,q⟩:=h;exact ⟨σ',H',I.inexact hx,q⟩
 | cont=>obtain ⟨σ',H',I,q⟩:=h;exact ⟨σ',H',I.inexact hx,q⟩
 | ret u=>obtain ⟨v,σ',H',I,r,q⟩:=h;exact ⟨v,σ',H',I.inexact hx,r,q⟩
theorem pss_name (g y:Str) (i:Nat) {P':Program} {w':World} {K':PySem.W.Frag} {mg':Str->Option Value} {base':Heap} (C:CanN P' w' K' mg' base' g k ps sp) (hX:X.prog=P'/\X.w=w'/\X.K=K'/\X.mg=mg'/\X.base=base') (hr:Room k X.A) (hN:X.N.Nodup) (hxc:X.xct=none)
  (ha:PA X (e :: es) t) (hb:∀ u,PS (X.exact y u) sb tb) (hc:∀ u n,TokIn n u->PSB (X.exact y u) n sc tc) (hrest:PSs X rest trest)
  (hi:X.N[i]? = some y:=by with_unfolding_all rfl) (hl:(X.env.scope.names.lookup y == some .local)=true:=by kernel_rfl)
  (hg:gB X g=true:=by kernel_rfl) (hdb:(g == ("__debug__" : Str))=false:=by kernel_rfl) (he:starEach (e :: es) X.env=(false,eval e X.env) :: starEach es X.env:=by kernel_rfl) (hpl:(backTo pos (starEach es X.env)).any (·.1)=false:=by kernel_rfl)
  (hs:swapsWith (.Call (.Name g p) (e :: es) [] pos) (some (.Name y py)) spos.line X.env=pure false:=by kernel_rfl) :
  PSs X (.Assign [.Name y py] (.Call (.Name g p) (e :: es) [] pos) spos :: sb :: sc :: rest) (tName sp i t tb tc trest):=by
 have hl:X.env.scope.names.lookup y=some .local:=eq_of_beq hl
 obtain ⟨rfl,rfl,rfl,rfl,rfl⟩:=hX
 obtain ⟨f,fd,len,run,hm,hk,hbd⟩:=C
 intro pins s σ H D I h
 have first:wpAny (model X.prog X.w) X.A (exec (.Assign [.Name y py] (.Call (.Name g p) (e :: es) [] pos) spos) X.env) (fun fl s1=>fl = .next/\∃ z u H2,TokIn s1.toks u/\Inv (X.exact y u) pins (σ.set i (some (.str z))) H2 s1/\tSeq tb tc { D with nx:=trest D } (σ.set i (some (.str z))) H2) X.xe s:=by
  refine wpAny_Assign_Name ?_ hs
  refine wpAny_Call_Name_kw (ld_glob I (gl_of hg) hm ?_ hdb)
  refine PySem.W.callWith_K (h₀:=X.base) I.ok.mod.kin hk (thn (ha pos pins s σ H _ I h) fun us s1 z=>?_) he hpl
  obtain ⟨vs,H1,I1,r,q⟩:=z
  refine ⟨I1.kIn,?_⟩
  have hlen:us.length=ps.length:=by rw [<-r.length];exact len _ _ _ _ q
  have hbs:BindsTo s1 fd ⟨us,[]⟩ (ps.zip us):=by have:=hbd s1 us I1.kIn (by rw [List.append_nil];exact hlen);rw [List.append_nil] at this;exact this
  refine wpAny_call (codeAny_mono (run X.A X.stack s1 H1 ⟨us,[]⟩ us vs _ hr I1.env0 hbs r q) fun rr s' hq=>?_)
  obtain ⟨hq,htok⟩:=hq
  cases rr with
  | error e=>exact False.elim hq
  | ok fl=>
   cases fl with
   | ret u=>
    obtain ⟨v,H3,I3,rv,z,ev,q3⟩:=I1.after hq
    subst ev
    have tu:=htok u rfl
    have I4:=I3.exact0 (x:=y) (u:=u) hN hi
    refine wpAny_with_toks (n:=s'.toks) (Nat.le_refl _) ?_
    refine store_okX (X:=X.exact y u) (v:=.str z) I4 hN hi (.inl hl) rv (fun s5 I5 _ htk=>?_) (.inr hl) (fun u' z=>by cases z;rfl)
    rw [List.set_set] at I5
    exact ⟨rfl,z,u,H3,tu.mono htk,I5,q3⟩
   | next=>exact False.elim hq
   | brk=>exact False.elim hq
   | cont=>exact False.elim hq
 refine wpAny_execs_cons (thn first fun fl s1 hz=>?_)
 obtain ⟨rfl,z,u,H2,tu,I2,q2⟩:=hz
 refine wpAny_execs_cons (thnB (Nat.le_refl _) (hb u pins s1 _ H2 _ I2 q2) fun fl s3 hn3 q3=>?_)
 cases fl with
 | next=>
  obtain ⟨σ3,H3,I3,q3⟩:=q3
  refine wpAny_execs_cons (thn (hc u s1.toks tu pins s3 σ3 H3 _ hn3 I3 q3) fun fl s4 q4=>?_)
  cases fl with
  | next=>
   obtain ⟨σ4,H4,I4,q4⟩:=q4
   exact hrest pins s4 σ4 H4 D (I4.inexact hxc) q4
  | ret v=>exact sp_inexact (D:=D) (f:=.ret v) hxc q4
  | brk=>exact sp_inexact (D:=D) (f:=.brk) hxc q4
  | cont=>exact sp_inexact (D:=D) (f:=.cont) hxc q4
 | ret v=>exact sp_inexact (D:=D) (f:=.ret v) hxc q3
 | brk=>exact sp_inexact (D:=D) (f:=.brk) hxc q3
 | cont=>exact sp_inexact (D:=D) (f:=.cont) hxc q3
def tGone (tc:TT) (sp:Sp) (ta:TA) (ts:TS):TS:=fun D σ H=>tc σ H fun b H1=>if b=true then ta σ H1 fun vs H2=>sp vs H2 (fun v H3=>∃ c,v = .bl c/\if (!c)=true then ts D σ H3 else D.nx σ H3) E0 else D.nx σ H1
theorem psB_gone (g y:Str) (j:Nat) {n:Nat} {u:Value} {P':Program} {w':World} {K':PySem.W.Frag} {mg':Str->Option Value} {base':Heap} {c a b:Expr} {suite:List Stmt} {p2 p3 p4 pn:Pos} {tcc:TT} {ta1 tb1:TE} {ts:TS} (C:CanG P' w' K' mg' base' g k ps 2 sp) (hX:X.prog=P'/\X.w=w'/\X.K=K'/\X.mg=mg'/\X.base=base') (hr:Room k X.A)
  (hxt:X.xct=some (y,u)) (hu:TokIn n u) (hcc:PT X c tcc) (h1:PE X a ta1) (h2:PE X b tb1) (hs:PSs X suite ts)
  (hj:X.N[j]? = some y:=by with_unfolding_all rfl) (hyl:(X.env.scope.names.lookup y == some .local)=true:=by kernel_rfl) (hyd:(y == ("__debug__" : Str))=false:=by kernel_rfl)
  (hg:gB X g=true:=by kernel_rfl) (hdb:(g == ("__debug__" : Str))=false:=by kernel_rfl) (he:starEach [a,b,.Name y pn] X.env=[(false,eval a X.env),(false,eval b X.env),(false,eval (.Name y pn) X.env)]:=by kernel_rfl) (he1:starEach [b,.Name y pn] X.env=[(false,eval b X.env),(false,eval (.Name y pn) X.env)]:=by kernel_rfl)
  (hpl:(backTo pos (starEach [b,.Name y pn] X.env)).any (·.1)=false:=by kernel_rfl)
  (hv:∀ whole,isTrue (.Call (.Name g p) [a,b,.Name y pn] [] pos) X.env whole=(do let v <-whole;standAt (Expr.Call (.Name g p) [a,b,.Name y pn] [] pos).pos;holding [v] (truthy v)):=by intro _;kernel_rfl) :
  PSB X n (.If (.BoolOp .And [c,.UnaryOp .Not (.Call (.Name g p) [a,b,.Name y pn] [] pos) p2] p3) suite [] p4) (tGone tcc sp (tCons ta1 (tCons tb1 (tCons (tV j) tNil))) ts):=by
 have hyl':X.env.scope.names.lookup y=some .local:=eq_of_beq hyl
 obtain ⟨rfl,rfl,rfl,rfl,rfl⟩:=hX
 obtain ⟨f,fd,len,run,hm,hk,hbd⟩:=C
 intro pins s σ H D hn I h
 have test:wpAny (model X.prog X.w) X.A (isTrue (.BoolOp .And [c,.UnaryOp .Not (.Call (.Name g p) [a,b,.Name y pn] [] pos) p2] p3) X.env (eval (.BoolOp .And [c,.UnaryOp .Not (.Call (.Name g p) [a,b,.Name y pn] [] pos) p2] p3) X.env)) (TP X pins σ fun d H1=>if d=true then ts D σ H1 else D.nx σ H1) X.xe s:=by
  refine isTrue_and (thnB hn (hcc pins s σ H _ I h) fun d s1 hn1 ⟨H1,I1,q1⟩=>?_)
  cases d with
  | false=>exact ⟨H1,I1,q1⟩
  | true=>
   rw [if_pos rfl] at q1
   refine isTrue_and (isTrue_not (isTrue_plain ?_ (hv _)))
   refine wpAny_Call_Name_kw (ld_glob I1 (gl_of hg) hm ?_ hdb)
   refine PySem.W.callWith_K (h₀:=X.base) I1.ok.mod.kin hk ?_ (he.trans (by rw [he1])) hpl
   rw [he]
   show wpAny _ _ (spliced [(false,eval a X.env),(false,eval b X.env),(false,eval (.Name y pn) X.env)]) _ _ s1
   refine Calls.spliced_cons (thnB hn1 (h1 pins s1 σ H1 _ I1 q1) fun u1 s2 hn2 ⟨x1,H2,I2,r1,q2⟩=>?_)
   refine Calls.spliced_cons (thnB hn2 (h2 pins s2 σ H2 _ I2 q2) fun u2 s3 hn3 ⟨x2,H3,I3,r2,q3⟩=>?_)
   obtain ⟨m,hns,hloc⟩:=I3.loc
   unfold tCons tV at q3
   split at q3
   ·rename_i v ev
    obtain ⟨w0,⟨rv,rx⟩,l⟩:=hloc j y v hj ev (.inl hyl')
    obtain rfl:=rx _ hxt
    rcases l with ⟨hk2,hm2⟩ | ⟨hk2,_⟩
    ·refine Calls.spliced_cons (wpAny_Name (wpAny_loadName_local I3.ok.kind hk2 hns hm2 (Calls.spliced_nil ?_)) hyd)
     refine ⟨I3.kIn,?_⟩
     have rr:Vals [x1,x2,v] [u1,u2,w0]:=.cons r1 (.cons r2 (.cons rv .nil))
     have hlen:[u1,u2,w0].length=ps.length:=by rw [<-rr.length];exact len _ _ _ _ q3
     have hbs:BindsTo s3 fd ⟨[u1,u2,w0],[]⟩ (ps.zip [u1,u2,w0]):=by have:=hbd s3 [u1,u2,w0] I3.kIn (by rw [List.append_nil];exact hlen);rw [List.append_nil] at this;exact this
     have htk:∃ u',[u1,u2,w0][2]? = some u'/\TokIn s3.toks u':=⟨w0,rfl,hu.mono hn3⟩
     refine wpAny_call (codeAny_mono (run X.A X.stack s3 H3 ⟨[u1,u2,w0],[]⟩ [u1,u2,w0] [x1,x2,v] _ hr I3.env0 hbs rr htk q3) fun rr s' hq=>?_)
     cases rr with
     | error e=>exact False.elim hq
     | ok fl=>
      cases fl with
      | ret u'=>
       obtain ⟨v',H4,I4,rv',cc,ec,q4⟩:=I3.after hq
       subst ec
       cases rv'
       refine wpAny_truthy_bool ?_
       cases cc with
       | true=>exact ⟨H4,I4,q4⟩
       | false=>
        refine isTrue_and_nil ?_
        exact ⟨H4,I4,q4⟩
      | next=>exact False.elim hq
      | brk=>exact False.elim hq
      | cont=>exact False.elim hq
    ·have hk2:X.env.scope.names.lookup y=some .cell\/X.env.scope.names.lookup y=some .free:=hk2
     rcases hk2 with z | z<;>(rw [hyl'] at z;cases z)
   ·exact q3.elim
 refine wpAny_If (thn test fun d s1 ⟨H1,I1,q1⟩=>?_)
 cases d with
 | true=>exact hs pins s1 σ H1 D I1 q1
 | false=>exact wpAny_execs_nil ⟨σ,H1,I1,q1⟩
end
end L2
end
section
namespace L2
open PySem PySem.Spec PyProof.Rows PySem.W
def PEN (X:Cx) (n:Nat) (e:Expr) (t:TE):Prop:=
 ∀ (pins:List (Addr×Obj)) (s:Shared) (σ:St) (H:Hp) (Q:VK),n<=s.toks->0 < n->Inv X pins σ H s->t σ H Q->wpAny (model X.prog X.w) X.A (eval e X.env) (fun u s'=>EP X pins σ Q u s'/\TokIn s'.toks u) X.xe s
def PSsN (X:Cx) (n:Nat) (st:List Stmt) (t:TS):Prop:=
 ∀ (pins:List (Addr×Obj)) (s:Shared) (σ:St) (H:Hp) (D:Ends),n<=s.toks->Inv X pins σ H s->t D σ H->wpAny (model X.prog X.w) X.A (execs st X.env) (fun f s'=>SP X pins D f s'/\∀ u,f = .ret u->TokIn s'.toks u) X.xe s
def PT1 (X:Cx) (e:Expr) (t:TT):Prop:=
 ∀ (pins:List (Addr×Obj)) (s:Shared) (σ:St) (H:Hp) (Q:Bool->Hp->Prop),Inv X pins σ H s->t σ H Q->wpAny (model X.prog X.w) X.A (isTrue e X.env (eval e X.env)) (fun b s'=>TP X pins σ Q b s'/\1<=s'.toks) X.xe s
section
variable {X:Cx} {n:Nat} {p pos p1 p2:Pos} {e a b:Expr} {es:List Expr} {st:Stmt} {rest suite:List Stmt} {te ta:TE} {t:TA} {ts us:TS} {tc:TT}
theorem tcmp1 {op:CmpOp} {r:R2} {i:Int} {j:Nat} (ho:OpR X (compareOp op) r) (ha:PE X a ta) (hm:behindInMarks op (.Constant (.int i) j p1)=false:=by kernel_rfl):PT1 X (.Compare a [op] [.Constant (.int i) j p1] pos) (tBU (tOp r ta (tC (.int i)))):=by
 intro pins s σ H Q I h
 refine wpAny_isTrue_Compare1 (thn (ha pins s σ H _ I h) fun v s1 ⟨x,H1,I1,r1,q1⟩=>?_) hm
 refine wpAny_Constant_int ?_
 refine thnB (n:=1) (Nat.le_add_left 1 _) (ho pins _ σ H1 x (.int i) v _ _ (I1.tok _) r1 ⟨_,rfl⟩ q1) fun w s3 h3 ⟨z,H3,I3,r3,q3⟩=>?_
 obtain ⟨d,rfl,q⟩:=bu_of q3
 cases r3
 exact wpAny_truthy_bool ⟨⟨H3,I3,q⟩,h3⟩
def tIfN (c:TT) (t u:TS):TS:=fun D σ H=>c σ H fun b H1=>if b=true then t { D with nx:=fun _ _=>False } σ H1 else u D σ H1
theorem pssN_if (hc:PT1 X e tc) (ha:PSsN X 1 suite ts) (hb:PSsN X 1 rest us):PSsN X 0 (.If e suite [] pos :: rest) (tIfN tc ts us):=by
 intro pins s σ H D _ I h
 refine wpAny_execs_cons ?_
 refine wpAny_If (thn (hc pins s σ H _ I h) fun d s1 ⟨⟨H1,I1,q1⟩,h1⟩=>?_)
 cases d with
 | true=>
  refine thn (ha pins s1 σ H1 _ h1 I1 q1) fun f s2 ⟨q2,k2⟩=>?_
  cases f with
  | next=>obtain ⟨_,_,_,z⟩:=q2;exact z.elim
  | ret u=>exact ⟨q2,k2⟩
  | brk=>exact ⟨q2,k2⟩
  | cont=>exact ⟨q2,k2⟩
 | false=>exact wpAny_execs_nil (hb pins s1 σ H1 D h1 I1 q1)
def tSeqN (t u:TS):TS:=fun D σ H=>t { nx:=u D,rt:=fun _ _=>False } σ H
theorem pssN_cons (h1:PS X st ts) (h2:PSsN X n rest us):PSsN X n (st :: rest) (tSeqN ts us):=by
 intro pins s σ H D hn I h
 refine wpAny_execs_cons (thnB hn (h1 pins s σ H _ I h) fun f s1 hn1 q=>?_)
 cases f with
 | next=>
  obtain ⟨σ',H',I',q⟩:=q
  exact h2 pins s1 σ' H' D hn1 I' q
 | ret v=>obtain ⟨_,_,_,_,_,z⟩:=q;exact z.elim
 | brk=>obtain ⟨_,_,_,z⟩:=q;exact z.elim
 | cont=>obtain ⟨_,_,_,z⟩:=q;exact z.elim
theorem pssN_ret (hp:0 < n) (he:PEN X n e te):PSsN X n [.Return (some e) pos] (tRet te):=by
 intro pins s σ H D hn I h
 refine wpAny_execs_cons (wpAny_Return_some (thn (he pins s σ H _ hn hp I h) fun v s1 ⟨⟨x,H1,I1,r1,q1⟩,k⟩=>?_))
 exact ⟨⟨x,σ,H1,I1,r1,q1⟩,fun u e=>by cases e;exact k⟩
inductive Consts:List Expr->List Str->Prop
 | nil:Consts [] []
 | cons {z:Str} {j:Nat} {p:Pos} {es:List Expr} {zs:List Str}:Consts es zs->Consts (.Constant (.str z) j p :: es) (z :: zs)
theorem consts_ok {env:Env} {pos:Pos} {M:Model} {A:Around} {E:Value->Shared->Prop}:∀ {es:List Expr} {zs:List Str},Consts es zs->∀ (s:Shared) (Q:List Value->Shared->Prop),Q (strsFrom s.toks zs) { s with toks:=s.toks+zs.length }->wpAny M A (spliced (backTo pos (starEach es env))) Q E s
 | _,_,.nil,s,Q,q=>Calls.spliced_nil q
 | _,_,.cons (z:=z) (j:=j) (p:=p) (es:=es) (zs:=zs) h,s,Q,q=>by
  show wpAny M A (spliced ((false,eval (.Constant (.str z) j p) env) :: backTo pos (starEach es env))) Q E s
  refine Calls.spliced_cons (Calls.Constant_str ?_)
  refine consts_ok h _ _ ?_
  rw [List.length_cons,show s.toks+(zs.length+1)=s.toks+1+zs.length by omega] at q
  exact q
theorem strsFrom_get:∀ (zs:List Str) (tk i:Nat) (z:Str),zs[i]? = some z->(strsFrom tk zs)[i]? = some (.str z (tk+i))
 | [],_,_,_,h=>by simp at h
 | x :: r,tk,0,z,h=>by simp at h;subst h;rfl
 | x :: r,tk,i+1,z,h=>by
  have:=strsFrom_get r (tk+1) i z (by simpa using h)
  rw [show tk+1+i=tk+(i+1) by omega] at this
  simpa [strsFrom] using this
theorem strsFrom_len:∀ (zs:List Str) (tk:Nat),(strsFrom tk zs).length=zs.length
 | [],_=>rfl
 | x :: r,tk=>by simp [strsFrom,strsFrom_len r]
def tPick (zs:List Str) (ti:TE):TE:=fun σ H Q=>zs.length<=1000/\ti σ H fun y H1=>∃ (i:Nat) (z:Str),y = .int (i:Nat)/\zs[i]? = some z/\Q (.str z) H1
theorem e_pick {zs:List Str} (hc:Consts es zs) (hb:PE X b ta) (hs:∀ o i,subscripted b false o i=operate [o,i] (getItem o i):=by intro _ _;kernel_rfl):PEN X n (.Subscript (.List es p1) b p2) (tPick zs ta):=by
 intro pins s σ H Q hn hp I ⟨hz,h⟩
 refine Subscript_ ?_
 refine wpAny_List_spliced (consts_ok hc s _ ⟨by rw [strsFrom_len];exact le_line hz,?_⟩)
 have I1:Inv X pins σ H { s with heap:=s.heap.push { cls:=.type "list",data:=.seq (strsFrom s.toks zs).toArray },toks:=s.toks+zs.length }:=I.kept fun b u e=>Heap.get?_push_of_some _ e
 have ho:(s.heap.push { cls:=.type "list",data:=.seq (strsFrom s.toks zs).toArray }).get? s.heap.objs.size=some { cls:=.type "list",data:=.seq (strsFrom s.toks zs).toArray }:=Heap.get?_push_size _ rfl
 have fp:=I1.pins_of (pins':=(s.heap.objs.size,{ cls:=.type "list",data:=.seq (strsFrom s.toks zs).toArray }) :: pins) (fun q hq=>by
  rcases List.mem_cons.mp hq with rfl | hq
  ·exact ⟨ho,I.hok.fresh (Nat.le_refl _),Nat.ne_of_gt I.lt,I.nofs (Nat.le_refl _),fun v z=>nomatch z⟩
  ·exact I1.pin q (List.mem_append_right _ hq))
 refine thnB (n:=s.toks+zs.length) (Nat.le_refl _) (hb _ _ σ H _ fp h) fun u s2 hn2 ⟨y,H2,I2,r2,i,z,ey,hi,q⟩=>?_
 subst ey
 obtain ⟨ti,rfl⟩:=r2
 obtain ⟨ho2,_⟩:=I2.pin _ (List.mem_append_right _ List.mem_cons_self)
 have I3:Inv X pins σ H2 s2:=I2.pins_of fun q hq=>I2.pin q (List.mem_append_right _ (List.mem_cons_of_mem _ hq))
 have hlt:=(List.getElem?_eq_some_iff.mp hi).1
 have hfit:((i:Nat):Int) < 2 ^ 63:=by
  have h9:i < 1000:=by omega
  have h8:((i:Nat):Int) < 1000:=by omega
  exact Int.lt_trans h8 (by decide)
 have hget:(strsFrom s.toks zs).toArray[(((i:Nat):Int)).toNat]? = some (.str z (s.toks+i)):=by rw [Int.toNat_natCast];simpa using strsFrom_get zs s.toks i z hi
 refine item_listR (items:=(strsFrom s.toks zs).toArray) (k:=((i:Nat):Int)) ⟨_,ho2,rfl,0,rfl⟩ (Int.natCast_nonneg _) hfit hget ?_ (hs _ _)
 have t0:0 < s.toks+i:=by omega
 have t1:s.toks+i < s2.toks:=by omega
 exact ⟨⟨.str z,H2,I3,⟨_,rfl⟩,q⟩,z,s.toks+i,rfl,t0,t1⟩
end
end L2
end
section
namespace L2
open PySem PySem.Spec PyProof.Rows PySem.W
def Good (n:Nat) (l:List (Str×Tok)):Prop:=∀ p∈l,0 < p.2/\p.2 < n
def IsL (o:Obj) (l:List (Str×Tok)):Prop:=o.cls = .type "list"/\∃ n,o.data = .seq (strValues l).toArray n
def tCompG (n:Nat) (js:List Nat) (wi:TI) (g:TG) (te:TE) (σ:St) (H:Hp) (Q:List Str->Hp->Prop):Prop:=wi σ H fun J H1=>∃ W:Nat->Nat->St->Hp->List Str->Prop,
 (∃ m,W 0 m (blk n js σ) H1 [])/\∀ i m τ H2 zs,W i m τ H2 zs->zs.length < 1000 ∧
  ((J.stop i H2/\Q zs H2)\/(J.go i H2/\∃ N:St->Hp->List Str->Prop,(∀ τ' H' zs',N τ' H' zs'->∃ m',m' < m/\W (i+1) m' τ' H' zs')/\∀ x H3,J.yld i H2 x H3->g x τ H3 fun τ4 H4=>te τ4 H4 fun y H6=>∃ z,y = .str z/\N τ4 H6 (zs++[z])))
section
variable {X:Cx}
theorem comp_blockG {pins:List (Addr×Obj)} {σ:St} {H:Hp} {s:Shared} {elt target iter:Expr} {scope:Scope} {pos:Pos} {N:List Str} {js:List Nat} {cl:List (Str×Addr)} {J:It} {fp:List Addr} {it:Addr} {tn:Nat->Heap->Prop}
  {g:TG} {te:TE} {E:Value->Shared->Prop} {RR:Value->Addr->Result->Shared->Prop} {Q:List Str->Hp->Prop}
  (hc:X.calm=true) (h0:0 < s.toks) (I:Inv X pins σ H s) (T:Turn X.prog X.w X.K target J fp it tn) (st:tn 0 s.heap) (hf:∀ b∈fp,FpOk X pins H b)
  (hk:scope.kind = .function) (hN:N.Nodup) (S:CompSc X.env.scope X.N scope N js) (hcl:∀ x c,cl.lookup x=some c->X.env.cells.lookup x=some c) (hcl2:∀ y∈scope.names,y.2 = .free->∃ c,cl.lookup y.1=some c)
  (hg:∀ cl C s H fp,PG (X.block scope cl C N s H fp) target g) (he:∀ cl C s H fp,PEN (X.block scope cl C N s H fp) 1 elt te)
  (h:∃ W:Nat->Nat->St->Hp->List Str->Prop,(∃ m,W 0 m (blk (N.length - js.length) js σ) H [])/\∀ i m τ H2 zs,W i m τ H2 zs->zs.length < 1000 ∧
   ((J.stop i H2/\Q zs H2)\/(J.go i H2/\∃ N:St->Hp->List Str->Prop,(∀ τ' H' zs',N τ' H' zs'->∃ m',m' < m/\W (i+1) m' τ' H' zs')/\∀ x H3,J.yld i H2 x H3->g x τ H3 fun τ4 H4=>te τ4 H4 fun y H6=>∃ z,y = .str z/\N τ4 H6 (zs++[z]))))
  (hend:∀ D C H' s' l,(∃ m,s'.heap.Ns C m)->FpOk X pins H' C->D≠C->Inv X pins σ H' s'->s'.heap.IsList D (strValues l).toArray->Good s'.toks l->0 < s'.toks->Q (l.map (·.1)) H'->RR (.ref D) C (.ok .next) s') :
  wpAny (model X.prog X.w) X.A (newList []) (fun acc s₃=>wpAny (model X.prog X.w) X.A (newFunctionEnv scope X.env.globals cl [] X.env.qual none .none (some X.env)) (fun cenv s₄=>
   codeAny (model X.prog X.w) X.A (.compStart (.ListComp elt [⟨target,iter,[],0⟩] scope pos) 0 (.ref it) acc { cenv with scope:=relabel scope X.env }) (RR acc cenv.locals) s₄) E s₃) E s:=by
 obtain ⟨W,⟨m0,w0⟩,turn⟩:=h
 have fD:=I.fpOk (b:=s.heap.objs.size) (Nat.le_refl _) (I.hok.fresh (Nat.le_refl _))
 refine wpAny_newObj_type ?_
 have I3:Inv X pins σ H { s with heap:=s.heap.push { cls:=.type "list",dict:=none,data:=.seq ([]:List Value).toArray } }:=I.kept (t':=s.toks) fun b o e=>Heap.get?_push_of_some _ e
 have hF3:∀ b∈fp,b < s.heap.objs.size:=fun b hb=>by
  obtain ⟨o,e,_⟩:=T.obj 0 s.heap st b hb
  exact Heap.lt_size e
 have st3:tn 0 (s.heap.push { cls:=.type "list",dict:=none,data:=.seq ([]:List Value).toArray }):=T.keep 0 _ _ st fun b hb o e=>Heap.get?_push_of_some _ e
 have hD3:(s.heap.push { cls:=.type "list",dict:=none,data:=.seq ([]:List Value).toArray }).get? s.heap.objs.size=some { cls:=.type "list",dict:=none,data:=.seq ([]:List Value).toArray }:=Heap.get?_push_size _ rfl
 have hL3:IsL { cls:=.type "list",dict:=none,data:=.seq ([]:List Value).toArray } []:=⟨rfl,0,rfl⟩
 generalize ho3:({ cls:=.type "list",dict:=none,data:=.seq ([]:List Value).toArray }:Obj)=o3 at st3 hD3 hL3 I3 ⊢
 generalize hs3:({ s with heap:=s.heap.push o3 }:Shared)=s3 at I3 ⊢
 have e3:s3.heap=s.heap.push o3:=by rw [<-hs3]
 have t3:s3.toks=s.toks:=by rw [<-hs3]
 rw [<-e3] at st3 hD3
 have z3:s.heap.objs.size < s3.heap.objs.size:=by rw [e3,Heap.size_push];exact Nat.lt_succ_self _
 refine wpAny_newFunctionEnv S.nocell (by intro y hy;simp at hy) (fun h₁ hns₁ hsb₁=>?_) hk
 have old:∀ b o,s3.heap.get? b=some o->h₁.get? b=some o:=fun b o e=>hsb₁.extBut b o (Nat.ne_of_lt (Heap.lt_size e)) (Heap.get?_push_of_some _ e)
 have hf3:∀ b∈s.heap.objs.size :: fp,b < s3.heap.objs.size/\b≠X.env.locals/\b ∉ X.fs/\(b∈X.ex\/X.s₀.heap.objs.size<=b)/\(∀ x c,X.env.cells.lookup x=some c->c≠b):=fun b hb=>by
  rcases List.mem_cons.mp hb with rfl | hb
  ·obtain ⟨_,q1,q2,q3,q4,_⟩:=fD
   exact ⟨z3,q1,q2,q3,q4⟩
  ·obtain ⟨_,q1,q2,q3,q4,_⟩:=hf b hb
   exact ⟨Nat.lt_trans (hF3 b hb) z3,q1,q2,q3,q4⟩
 have nD:∀ b∈fp,b≠s.heap.objs.size:=fun b hb=>Nat.ne_of_lt (hF3 b hb)
 have I4:Inv (X.block scope cl s3.heap.objs.size N s3 H (s.heap.objs.size :: fp)) [] (blk (N.length - js.length) js σ) H { s3 with heap:=h₁,toks:=s3.toks+([]:List (Str×Value)).length }:=
  block_inv I3 hk hN S hcl hcl2 hf3 hns₁ old
 have st4:tn 0 h₁:=T.keep 0 _ _ st3 fun b hb o e=>old b o e
 have hD4:=old _ _ hD3
 have hg':=hg cl s3.heap.objs.size s3 H (s.heap.objs.size :: fp)
 have he':=he cl s3.heap.objs.size s3 H (s.heap.objs.size :: fp)
 have stat:∀ {H':Hp} {l:Obj},(∀ b∈fp,H' b=none)->∀ b∈fp,FpOk (X.block scope cl s3.heap.objs.size N s3 H (s.heap.objs.size :: fp)) [(s.heap.objs.size,l)] H' b:=fun {H' l} hn b hb=>
  ⟨hn b hb,(I4.ok.exf b (List.mem_cons_of_mem _ hb)).1,I4.ok.exfs b (List.mem_cons_of_mem _ hb),.inl (List.mem_cons_of_mem _ hb),(I4.ok.exf b (List.mem_cons_of_mem _ hb)).2,fun p hp=>by
   have e:p=(s.heap.objs.size,l):=by simpa using (show p∈([]:List (Addr×Obj))++[(s.heap.objs.size,l)] from hp)
   rw [e]
   exact (nD b hb).symm⟩
 have pin:∀ {τ:St} {H':Hp} {s':Shared} {l:List (Str×Tok)} {o:Obj},Inv (X.block scope cl s3.heap.objs.size N s3 H (s.heap.objs.size :: fp)) [] τ H' s'->H' s.heap.objs.size=none->s'.heap.get? s.heap.objs.size=some o->IsL o l →
   Inv (X.block scope cl s3.heap.objs.size N s3 H (s.heap.objs.size :: fp)) [(s.heap.objs.size,o)] τ H' s':=fun {τ H' s' l o} J hn hg hL=>J.pins_of fun p hp=>by
  have e:p=(s.heap.objs.size,o):=by simpa using hp
  subst e
  exact ⟨hg,hn,(I4.ok.exf _ List.mem_cons_self).1,I4.ok.exfs _ List.mem_cons_self,fun v z=>by obtain ⟨n,e⟩:=hL.2;rw [e] at z;cases z⟩
 have nHD:H s.heap.objs.size=none:=I.hok.fresh (Nat.le_refl _)
 have loop:codeAny (model X.prog X.w) X.A (.compLoop (.ListComp elt [⟨target,iter,[],0⟩] scope pos) 0 (.ref it) (.ref s.heap.objs.size) (compEnvC scope cl s3.heap.objs.size X.env)) (RR (.ref s.heap.objs.size) s3.heap.objs.size) { s3 with heap:=h₁,toks:=s3.toks+([]:List (Str×Value)).length }:=by
  have p3:0 < s3.toks+([]:List (Str×Value)).length:=by show 0 < s3.toks+0;rw [t3];exact h0
  have g3:Good (s3.toks+([]:List (Str×Value)).length) []:=fun p z=>by cases z
  have q3:=pin I4 nHD hD4 hL3
  refine compLoop_any (fun n s'=>∃ i τ H' l o,IsL o l/\0 < s'.toks/\Good s'.toks l/\Inv (X.block scope cl s3.heap.objs.size N s3 H (s.heap.objs.size :: fp)) [(s.heap.objs.size,o)] τ H' s'/\tn i s'.heap/\(∀ b∈fp,H' b=none)/\W i n τ H' (l.map (·.1))) ?_ m0 ⟨0,_,_,[],o3,hL3,p3,g3,q3,st4,fun b hb=>(hf b hb).1,w0⟩
  rintro n s5 ⟨i,τ,H5,l,o5,L5,p5,g5,I5,st5,fr5,w5⟩
  obtain ⟨hz,hw⟩:=turn i n τ H5 _ w5
  rcases hw with ⟨stop,qn⟩ | ⟨go,M,hM,step⟩
  ·refine wpAny_mono (wpAny_toks_of (Nat.le_refl s5.toks) (T.done (X.block scope cl s3.heap.objs.size N s3 H (s.heap.objs.size :: fp)) rfl rfl rfl hc i [(s.heap.objs.size,o5)] s5 τ H5 (fun _ _=>False) I5 (stat fr5) st5 stop)) (fun r s6 ⟨hk6,hr,I6⟩=>?_) (fun _ _ z=>z.2.elim)
   subst hr
   have hD6:=(I6.pin (s.heap.objs.size,o5) (List.mem_append_right _ List.mem_cons_self)).1
   refine hend _ _ H5 s6 l (let ⟨m,hn,_⟩:=I6.loc;⟨m,hn⟩) (I3.fpOk (Nat.le_refl _) I6.free) (Nat.ne_of_lt z3) ?_ ⟨o5,hD6,L5⟩ (fun p hp=>⟨(g5 p hp).1,Nat.lt_of_lt_of_le (g5 p hp).2 hk6⟩) (Nat.lt_of_lt_of_le p5 hk6) qn
   exact I3.call' (ch:=s.heap.objs.size :: fp) I6.os I6.base I6.hok I6.bare fun b hb=>by
    rcases List.mem_cons.mp hb with rfl | hb
    ·exact ⟨fD.2.2.2.1,fD.2.1,fD.2.2.2.2.1,fD.2.2.2.2.2⟩
    ·exact ⟨(hf b hb).2.2.2.1,(hf b hb).2.1,(hf b hb).2.2.2.2.1,(hf b hb).2.2.2.2.2⟩
  ·refine wpAny_mono (wpAny_toks_of (Nat.le_refl s5.toks) (T.item (X.block scope cl s3.heap.objs.size N s3 H (s.heap.objs.size :: fp)) rfl rfl rfl hc i [(s.heap.objs.size,o5)] s5 τ H5 (fun _ _=>False) I5 (stat fr5) st5 go)) (fun r s6 ⟨hk6,u,hr,h6⟩=>?_) (fun _ _ z=>z.2.elim)
   subst hr
   refine wpAny_mono (wpAny_toks_of hk6 h6) (fun _ s7 ⟨hk7,x,H7,I7,r7,y7,st7,fr7⟩=>?_) (fun _ _ z=>z.2.elim)
   have I7':=I7.pinned (stat fr7) (T.obj _ _ st7)
   refine wpAny_mono (wpAny_toks_of hk7 (hg' _ s7 τ H7 x u _ I7' r7 (step x H7 y7))) (fun _ s8 ⟨hk8,τ8,H8,I8,q8⟩=>?_) (fun _ _ z=>z.2.elim)
   refine wpAny_tests_nil ?_
   refine wpAny_mono (wpAny_toks_of hk8 (he' _ s8 τ8 H8 _ (by omega) Nat.zero_lt_one I8 q8)) (fun y s10 ⟨hk10,⟨v10,H10,I10,r10,z,ez,q10⟩,k10⟩=>?_) (fun _ _ z=>z.2.elim)
   subst ez
   obtain ⟨z',tk,ek,tk0,tk1⟩:=k10
   subst ek
   obtain ⟨tz,ez⟩:=r10
   injection ez with ez1 ez2
   subst ez1
   have hD10:s10.heap.get? s.heap.objs.size=some o5/\H10 s.heap.objs.size=none:=by
    obtain ⟨a,b,_⟩:=I10.pin (s.heap.objs.size,o5) (List.mem_append_right _ (List.mem_append_left _ List.mem_cons_self))
    exact ⟨a,b⟩
   have stI:tn (i+1) s10.heap:=T.keep _ _ _ st7 fun b hb o e=>(I10.pin (b,o) (List.mem_append_right _ (List.mem_append_right _ (mem_pinsAt hb e)))).1
   have frI:∀ b∈fp,H10 b=none:=fun b hb=>by
    obtain ⟨o,e,d⟩:=T.obj _ _ st7 b hb
    exact (I10.pin (b,o) (List.mem_append_right _ (List.mem_append_right _ (mem_pinsAt hb e)))).2.1
   have I10':Inv (X.block scope cl s3.heap.objs.size N s3 H (s.heap.objs.size :: fp)) [] τ8 H10 s10:=I10.pins_of fun p hp=>absurd (show p∈([]:List (Addr×Obj)) from hp) (by simp)
   have hL10:s10.heap.IsList s.heap.objs.size (strValues l).toArray:=⟨o5,hD10.1,L5⟩
   have hlen:(strValues l).length=l.length:=by unfold strValues;rw [List.length_map]
   rw [List.length_map] at hz
   have hz':l.length<=1000:=Nat.le_of_lt hz
   have hsz:(strValues l).toArray.size<=sizeLine:=by rw [List.size_toArray,hlen];exact le_line hz'
   refine wpAny_list_append hL10 (fun h' hl' hs'=>?_) hsz
   obtain ⟨o',ho',hc',n',hd'⟩:=hl'
   have Lp:IsL o' (l++[(z',tk)]):=⟨hc',n',by rw [hd'];simp [strValues]⟩
   obtain ⟨m',hm,w'⟩:=hM _ _ _ q10
   have I11:Inv (X.block scope cl s3.heap.objs.size N s3 H (s.heap.objs.size :: fp)) [] τ8 H10 { s10 with heap:=h' }:=I10'.turned (t':=s10.toks) (fun b o hb e=>hs'.extBut b o hb e) hD10.2 (I4.ok.exf _ List.mem_cons_self).1 (.inl List.mem_cons_self) (I4.ok.exf _ List.mem_cons_self).2 fun p hp=>absurd (show p∈([]:List (Addr×Obj)) from hp) (by simp)
   have gp:Good s10.toks (l++[(z',tk)]):=fun p hp=>by
    rcases List.mem_append.mp hp with z | z
    ·exact ⟨(g5 p z).1,Nat.lt_of_lt_of_le (g5 p z).2 hk10⟩
    ·have ez:p=(z',tk):=by simpa using z
     subst ez
     exact ⟨tk0,tk1⟩
   have p10:0 < s10.toks:=Nat.lt_of_lt_of_le p5 hk10
   refine ⟨m',hm,i+1,τ8,H10,l++[(z',tk)],o',Lp,p10,gp,pin I11 hD10.2 ho' Lp,T.keep _ _ _ stI fun b hb o e=>hs'.extBut b o (nD b hb) e,frI,?_⟩
   rw [List.map_append]
   exact w'
 exact codeAny_compStart_list loop (T.self X.A 0 _ _ _ st4 loop)
end
end L2
end
section
namespace L2
open PySem PySem.Spec PyProof.Rows PySem.W
theorem post_joinT {s:Shared} {sep:Str} {Q:Value->Shared->Prop}:∀ (l:List (Str×Tok)),(Txt.join sep (l.map (·.1))).length<=sizeLine->Good s.toks l->0 < s.toks →
  (∀ t' k,s.toks<=k->0 < t'->t' < k->Q (.str (Txt.join sep (l.map (·.1))) t') { s with toks:=k })->(joinMade sep l).post Q s
 | [],a,_,h0,h=>⟨a,h _ _ (Nat.le_succ _) h0 (Nat.lt_succ_self _)⟩
 | [p],_,g,_,h=>h p.2 s.toks (Nat.le_refl _) (g p List.mem_cons_self).1 (g p List.mem_cons_self).2
 | _ :: _ :: _,a,_,h0,h=>⟨a,h _ _ (Nat.le_succ _) h0 (Nat.lt_succ_self _)⟩
section
variable {prog:Program} {w:World} {A:Around} {E:Value->Shared->Prop} {s:Shared} {x:Str} {t:Tok} {Q:Value->Shared->Prop}
theorem joinT {D:Addr} {l:List (Str×Tok)} (hl:s.heap.IsList D (strValues l).toArray) (g:Good s.toks l) (h0:0 < s.toks) (hok:((l.map (·.1)).map (·.length)).sum+(l.map (·.1)).length * x.length<=16777216)
  (hq:∀ t' k,s.toks<=k->0 < t'->t' < k->Q (.str (Txt.join x (l.map (·.1))) t') { s with toks:=k }):wpAny (model prog w) A (call (.builtin "str.join") [.str x t,.ref D]) Q E s:=by
 have hok:=joinOk_of hok
 unfold JoinOk at hok
 rw [Bool.not_eq_true'] at hok
 exact call_meets PySem.F.slot_str_join (typeIs_str _ _ _) PySem.F.entry_str_join (PySem.F.args_str_join_2 _ _) (meets_str_join_list x t D l hok) ⟨hl,post_joinT l (joinFit_length hok) g h0 hq⟩
end
def tJoinG (sep:Str) (n:Nat) (js:List Nat) (wi:TI) (g:TG) (te:TE):TE:=fun σ H Q=>tCompG n js wi g te σ H fun ws H'=>(ws.map (·.length)).sum+ws.length * sep.length<=16777216/\Q (.str (Txt.join sep ws)) H'
section
variable {X:Cx} {elt target iter:Expr} {scope:Scope} {pos apos cpos p0:Pos} {wi:TI} {g:TG} {te:TE}
theorem e_joinG {n:Nat} {sep:Str} {j0:Nat} (N:List Str) (js:List Nat) (hok:compOk X.env.scope X.N scope N js=true) (hN:N.Nodup) (hc:X.calm=true) (hi:PI X target iter wi)
  (hg:∀ cl C s H fp,PG (X.block scope cl C N s H fp) target g) (he:∀ cl C s H fp,PEN (X.block scope cl C N s H fp) 1 elt te)
  (hbase:attributeBase (.Constant (.str sep) j0 p0) "join" X.env (eval (.Constant (.str sep) j0 p0) X.env)=eval (.Constant (.str sep) j0 p0) X.env:=by kernel_rfl)
  (hfew:((backTo cpos (starEach [.ListComp elt [⟨target,iter,[],0⟩] scope pos] X.env)).all (fun x=>!x.1) && (backToKw cpos (keywordEach [] X.env)).all (fun x=>x.1.isSome)
   && decide (([.ListComp elt [⟨target,iter,[],0⟩] scope pos]:List Expr).length+([]:List Keyword).length+(if ([]:List Keyword).isEmpty then 0 else 1) < 30))=true:=by kernel_rfl)
  (hline:(apos.endLine == cpos.line)=true:=by kernel_rfl)
  (hk:scope.kind = .function:=by kernel_rfl) (hs:∀ x,foldedSetIterable iter X.env x=pure x:=by intro _;kernel_rfl) :
  PEN X n (.Call (.Attribute (.Constant (.str sep) j0 p0) "join" apos) [.ListComp elt [⟨target,iter,[],0⟩] scope pos] [] cpos) (tJoinG sep (N.length - js.length) js wi g te):=by
 intro pins s σ H Q hn hp I h
 have S:=compOk_sc hok
 obtain ⟨cl,hclos,hcl,hcl2⟩:=closure_ok (env:=X.env) (scope:=scope) fun y hy hf=>I.ok.has _ (S.tk y hy hf)
 refine wpAny_Call_method_late hbase hfew hline rfl (Calls.Constant_str ?_)
 have I1:=I.tok (s.toks+1)
 have rq:RelV (.str sep) (.str sep s.toks):=⟨_,rfl⟩
 obtain ⟨h2,h3⟩:=tyV_is (T:= "str") I1 rq (tyU_of (show tyU H "str" (.str sep) from rfl))
 refine ⟨"str","str.join",PySem.F.plainAttrs_str,PySem.F.slot_str_join,PySem.F.type_str_join,h2,h3,?_⟩
 refine Calls.callWith_builtin rfl (Calls.evalArgs_plain ?_)
 show wpAny _ _ (spliced [(false,eval (.ListComp elt [⟨target,iter,[],0⟩] scope pos) X.env)]) _ _ _
 refine Calls.spliced_cons ?_
 rw [eval_ListComp]
 have hn1:s.toks+1<=({ s with toks:=s.toks+1 }:Shared).toks:=Nat.le_refl _
 refine wpAny_comprehension_free (use:=none) rfl hs hclos hk S.names (thnB hn1 (hi pins _ σ H _ I1 h) fun v s1 hn2 h1=>thnB hn2 h1 fun itv s2 hn3 h2=>?_)
 obtain ⟨it,fp,tn,J,H2,e,I2,T,st2,f2,hw⟩:=h2
 subst e
 refine comp_blockG (RR:=fun acc C=>compPost (model X.prog X.w) X.A X.xe none _ acc C) hc (by omega) I2 T st2 f2 hk hN S hcl hcl2 hg he hw ?_
 rintro D C H' s' l ⟨m,hns⟩ ⟨c0,c1,c2,c3,c4,c5⟩ hDC I' hL g' p3 ⟨hz,q⟩
 refine ⟨m,hns,fun h' hs'=>?_⟩
 have I3:Inv X pins σ H' { s' with heap:=h' }:=I'.turned (t':=s'.toks) (fun b o hb e=>(hs'.2 b hb).trans e) c0 c1 c3 c4 c5
 have hL3:h'.IsList D (strValues l).toArray:=let ⟨o,ho,r⟩:=hL;⟨o,(hs'.2 D hDC).trans ho,r⟩
 refine Calls.spliced_nil (joinT (s:={ s' with heap:=h' }) hL3 g' p3 hz fun t' k hk t0 t1=>?_)
 exact ⟨⟨.str _,H',I3.tok _,⟨_,rfl⟩,q⟩,_,t',rfl,t0,t1⟩
end
end L2
end
section
namespace L2
open PySem PySem.Spec PyProof.Rows PySem.W
section
variable {P:Program} {w:World} {K:PySem.W.Frag} {mg:Str->Option Value} {base:Heap}
theorem canN_fn {x:Str} {st:Stmt} {N ps:List Str} {k:Nat} {sp:Sp} (D:FnX K mg x st ps) (S:FnScope N ps (defScope st)) (len:∀ vs H Q E,sp vs H Q E->vs.length=ps.length)
  (hbody:∀ (f:Addr) (cdv:Value) (A:Around) (outer:List Env) (s:Shared) (H:Hp) (vs:List V) (Q:VK),Room k (A.deeper (envOfC x (defScope st) s.heap.objs.size f cdv))->sp vs H Q E0 →
   ∃ t,PSsN (cxOf CX0 P w K mg base N x (defScope st) f cdv A outer s H E0) 0 (defBody st) t/\t { nx:=fun _ _=>False,rt:=Q } (start N vs) H):CanN P w K mg base x (k+1) ps sp:=by
 obtain ⟨f,fd,F,hm,hbd⟩:=D
 obtain ⟨oc,od,kV,doc,pm,an,cdv,ct,osl,rfl,lk,hcd⟩:=F.ex
 refine ⟨f,_,len,fun A outer s H args us vs Q hr e0 hb r hsp=>?_,hm,F.kp,hbd⟩
 have hl:=len _ _ _ _ hsp
 have KX:K.In s.heap:=e0.mod.kin.keeps fun b o e=>(e0.bs b o e).1
 have lim:s.heap.NoLimit:=e0.mod.nolimit.keeps fun b o e=>(e0.bs b o e).1
 have hkind:∀ z∈ps.zip us,(defScope st).names.lookup z.1=some .local\/((defScope st).names.lookup z.1=some .cell/\((cellsFrom (s.heap.objs.size+1) (defScope st).names []).lookup z.1).isSome=true):=fun ⟨n,v⟩ hy=>by
  rcases S.par n (List.of_mem_zip hy).1 with q | q
  ·exact .inl q
  ·exact .inr ⟨q,PySem.W.cellsFrom_some _ _ _ (.inl q)⟩
 refine codeAny_call_function (A:=A) hr.depth (KX _ _ lk) rfl S.co S.gen rfl (PySem.W.codeRec_of KX hcd) (hb _ _ _ _ ?_)
 refine wpAny_newFunctionEnv_cells S.kind hkind fun env he s1 xx=>?_
 subst he
 refine ⟨lim.keeps xx.toInCall.keep,codeAny_func ?_⟩
 obtain ⟨t,ht,hq⟩:=hbody f cdv A outer s H vs Q (hr.deeper _) hsp
 have I:Inv (cxOf CX0 P w K mg base N x (defScope st) f cdv A outer s H E0) [] (start N vs) H s1:=inv_start S hr.hd e0 hl r xx
 refine wpAny_mono (ht [] s1 (start N vs) H _ (Nat.zero_le _) I hq) (fun fl s' ⟨hs,hk⟩=>?_) fun e s' hs=>?_
 ·have fin:∀ {σ':St} {H':Hp} {v:V} {u:Value},Inv (cxOf CX0 P w K mg base N x (defScope st) f cdv A outer s H E0) [] σ' H' s'->RelV v u->Q v H'->CE outer P w H s Q u s':=
   fun {σ' H' v u} J rv q=>⟨v,H',J.os,J.bare,J.base,J.hok,rv,q⟩
  cases fl with
  | ret u=>
   obtain ⟨v,σ',H',J,rv,q⟩:=hs
   refine ⟨fin J rv q,fun u' e=>?_⟩
   cases e
   exact hk u rfl
  | next=>
   obtain ⟨_,_,_,q⟩:=hs
   exact False.elim q
  | brk=>
   obtain ⟨_,_,_,q⟩:=hs
   exact False.elim q
  | cont=>
   obtain ⟨_,_,_,q⟩:=hs
   exact False.elim q
 ·exact wpAny_mono hs (fun x s'' h=>⟨h,fun u z=>by cases z⟩) fun e' s'' h=>⟨h,fun u z=>by cases z⟩
end
section
variable {X:Cx} {a b:Expr} {ta tb:TE} {pos:Pos} {n:Nat}
theorem e_letter (ha:PE X a ta) (hb:PE X b tb) (hs:∀ o i,subscripted b false o i=operate [o,i] (getItem o i):=by intro _ _;kernel_rfl):PEN X n (.Subscript a b pos) (tOp rIxS ta tb):=by
 intro pins s σ H Q hn hp I h
 refine Subscript_ ?_
 refine thnB hn (ha pins s σ H _ I h) fun v s1 hn1 ⟨x,H1,I1,r1,q1⟩=>thnB hn1 (hb pins s1 σ H1 _ I1 q1) fun u s2 hn2 ⟨y,H2,I2,r2,q2⟩=>?_
 obtain ⟨z,i,c,rfl,rfl,hz,he,q⟩:=q2
 obtain ⟨t,rfl⟩:=r1
 obtain ⟨t',rfl⟩:=r2
 obtain ⟨j,h1,h2,h3,h4,h5⟩:=atI_get he
 have hl:z.cps.toList.length=z.length:=by simp [Str.length]
 rw [hl] at h1 h4 h5
 have hn63:=line63
 have p2:0 < s2.toks:=by omega
 exact tail_any (typeIs_str s2 z t) slot_str_getitem.lookup (getItem_str (c:=c) (by
  have e1:decide (i < -(2 ^ 63:Int))=false:=decide_eq_false (by omega)
  have e2:decide (i ≥ 2 ^ 63)=false:=decide_eq_false (by omega)
  rw [e1,e2,Bool.or_false]) (by rw [h1];simpa using h2) ⟨⟨.str ⟨#[c]⟩,H2,I2.tok _,⟨_,rfl⟩,q⟩,⟨#[c]⟩,s2.toks,rfl,p2,Nat.lt_succ_self _⟩) (hs _ _)
end
end L2
end
section
namespace L2
open PySem PySem.StrLaws Builtin Builtin.Str PyProof.Rows
theorem occL_loop (x:Str) (c lim:Nat):∀ (l:List Nat) (st:Array Nat×Nat),l.Pairwise (· < ·)->(∀ i∈l,st.2<=i)->st.1.size<=lim →
  (forIn l st (occBody x (ch c) x.length lim)).run.fst.toList=st.1.toList++(l.filter fun i=>decide (x.cps.toList[i]? = some c)).take (lim - st.1.size)
 | [],st,_,_,_=>by simp
 | a :: l,st,hp,hs,hz=>by
  rw [List.forIn_cons]
  unfold occBody
  have h1:=List.pairwise_cons.mp hp
  by_cases hc:x.cps.toList[a]? = some c
  ·have hc':=(subAt_one x c a).mpr hc
   by_cases hl:st.1.size < lim
   ·rw [if_pos ⟨⟨⟨hl,hs a List.mem_cons_self⟩,hc'.1⟩,hc'.2⟩]
    have ih:=occL_loop x c lim l (st.1.push a,a+(ch c).length) h1.2 (fun i hi=>by
     have:=h1.1 i hi
     show a+1<=i
     omega) (by simp;omega)
    refine Eq.trans ih ?_
    rw [List.filter_cons,if_pos (by simpa using hc)]
    have e:lim - st.1.size=(lim - (st.1.size+1))+1:=by omega
    simp only [Array.size_push,Array.toList_push]
    rw [e,List.take_succ_cons]
    simp
   ·rw [if_neg fun h=>hl h.1.1.1]
    have ih:=occL_loop x c lim l (st.1,st.2) h1.2 (fun i hi=>hs i (List.mem_cons_of_mem _ hi)) hz
    refine Eq.trans ih ?_
    have e:lim - st.1.size=0:=by omega
    simp [e]
  ·rw [if_neg fun h=>hc ((subAt_one x c a).mp ⟨h.1.2,h.2⟩)]
   have ih:=occL_loop x c lim l (st.1,st.2) h1.2 (fun i hi=>hs i (List.mem_cons_of_mem _ hi)) hz
   refine Eq.trans ih ?_
   rw [List.filter_cons,if_neg (by simpa using hc)]
theorem occL (x:Str) (c lim:Nat):occurrences x (ch c) 0 x.length lim=((List.range' 0 (x.length+1)).filter fun i=>decide (x.cps.toList[i]? = some c)).take lim:=by
 rw [occ_eq]
 have:=occL_loop x c lim (List.range' 0 (x.length+1 - 0)) (#[],0) List.pairwise_lt_range' (fun _ _=>Nat.zero_le _) (by simp)
 simpa using this
theorem filt_none {l:List Nat} {c a m:Nat} (h:∀ i,a<=i->i < a+m->l[i]?≠some c):((List.range' a m).filter fun i=>decide (l[i]? = some c))=[]:=by
 rw [List.filter_eq_nil_iff]
 intro i hi
 rw [List.mem_range'_1] at hi
 simpa using h i hi.1 hi.2
theorem filt_two {A B C:List Nat} {c:Nat} (hA:c ∉ A) (hB:c ∉ B):∃ r,((List.range' 0 ((A++c :: (B++c :: C)).length+1)).filter fun i=>decide ((A++c :: (B++c :: C))[i]? = some c))=A.length :: (A.length+1+B.length) :: r:=by
 have e:(A++c :: (B++c :: C)).length+1=A.length+(1+(B.length+(1+(C.length+1)))):=by simp;omega
 rw [e,<-List.range'_append_1,<-List.range'_append_1,<-List.range'_append_1,<-List.range'_append_1,List.filter_append,List.filter_append,List.filter_append,List.filter_append]
 have gA:∀ i,i < A.length->(A++c :: (B++c :: C))[i]?≠some c:=fun i hi z=>by
  rw [List.getElem?_append_left hi] at z
  exact hA (List.mem_of_getElem? z)
 have gB:∀ i,A.length+1<=i->i < A.length+1+B.length->(A++c :: (B++c :: C))[i]?≠some c:=fun i h1 h2 z=>by
  rw [List.getElem?_append_right (by omega)] at z
  obtain ⟨j,rfl⟩ : ∃ j,i=A.length+1+j:=⟨i - (A.length+1),by omega⟩
  rw [show A.length+1+j - A.length=j+1 by omega,List.getElem?_cons_succ,List.getElem?_append_left (by omega)] at z
  exact hB (List.mem_of_getElem? z)
 have c1:(A++c :: (B++c :: C))[A.length]? = some c:=by rw [List.getElem?_append_right (Nat.le_refl _)];simp
 have c2:(A++c :: (B++c :: C))[A.length+1+B.length]? = some c:=by
  rw [List.getElem?_append_right (by omega),show A.length+1+B.length - A.length=B.length+1 by omega,List.getElem?_cons_succ,List.getElem?_append_right (Nat.le_refl _)]
  simp
 rw [filt_none (a:=0) (m:=A.length) (fun i _ h=>gA i (by omega))]
 rw [show List.range' (0+A.length) 1=[A.length] by simp [List.range'_succ]]
 rw [List.filter_cons,if_pos (by simpa using c1),List.filter_nil]
 rw [filt_none (a:=0+A.length+1) (m:=B.length) (fun i h1 h2=>gB i (by omega) (by omega))]
 rw [show List.range' (0+A.length+1+B.length) 1=[A.length+1+B.length] by simp [List.range'_succ]]
 rw [List.filter_cons,if_pos (by simpa using c2),List.filter_nil]
 exact ⟨_,rfl⟩
theorem kind_le (x:Str):1<=PySem.Builtin.Str.strKind x:=by unfold PySem.Builtin.Str.strKind;split;exact Nat.le_refl _;split<;>decide
theorem mkS_sub (l:List Nat) (i j:Nat):strSub (mkS l) i j=mkS ((l.drop i).take (j - i)):=by
 refine str_ext ?_
 rw [strSub_toList,mkS_cps,mkS_cps]
theorem split_max2 {A B C:List Nat} (hA:32 ∉ A) (hB:32 ∉ B):Txt.splitMax (mkS (A++32 :: (B++32 :: C))) (" " : Str) 2=[mkS A,mkS B,mkS C]:=by
 rw [blank_ch]
 have hL:(mkS (A++32 :: (B++32 :: C))).length=A.length+1+B.length+1+C.length:=by rw [mkS_len];simp;omega
 have e0:(decide ((mkS (A++32 :: (B++32 :: C))).length < (ch 32).length) || decide (PySem.Builtin.Str.strKind (mkS (A++32 :: (B++32 :: C))) < PySem.Builtin.Str.strKind (ch 32)))=false:=by
  have h1:(ch 32).length=1:=rfl
  have h2:PySem.Builtin.Str.strKind (ch 32)=1:=by decide +kernel
  have h3:=kind_le (mkS (A++32 :: (B++32 :: C)))
  rw [h1,h2,decide_eq_false (by omega),decide_eq_false (by omega)]
  rfl
 have eo:occurrences (mkS (A++32 :: (B++32 :: C))) (ch 32) 0 (mkS (A++32 :: (B++32 :: C))).length (limitOf (mkS (A++32 :: (B++32 :: C))) 2)=[A.length,A.length+1+B.length]:=by
  rw [occL,mkS_cps,mkS_len]
  obtain ⟨r,hr⟩:=filt_two (C:=C) hA hB
  rw [hr]
  rfl
 unfold Txt.splitMax
 rw [if_neg (by rw [e0];decide),eo,if_neg (fun z=>nomatch z)]
 have h1:(ch 32).length=1:=rfl
 unfold partsBetween
 rw [h1,hL]
 simp only [List.map_cons,List.map_nil,List.cons_append,List.nil_append,List.zip_cons_cons,List.zip_nil_left,mkS_sub]
 congr 1
 ·congr 1
  simp
 ·congr 1
  ·congr 1
   rw [show A.length+1=(A++[32]).length by simp,show A++32 :: (B++32 :: C)=(A++[32])++(B++32 :: C) by simp,List.drop_left]
   simp
  ·congr 1
   congr 1
   rw [show A.length+1+B.length+1=(A++32 :: (B++[32])).length by simp;omega,show A++32 :: (B++32 :: C)=(A++32 :: (B++[32]))++C by simp,List.drop_left]
   simp
theorem split_head {A C:List Nat} (hA:32 ∉ A):(Txt.split (mkS (A++32 :: C)) (" " : Str)).head? = some (mkS A):=by
 rw [blank_ch]
 obtain ⟨h1,h2,h3⟩:=split_fre (mkS (A++32 :: C)) (c:=32) (by decide)
 generalize Txt.split (mkS (A++32 :: C)) (ch 32)=ps at h1 h2 h3
 match ps,h2 with
 | [p],_=>
  have e:p=mkS (A++32 :: C):=h3
  have:=h1 p List.mem_cons_self
  unfold Fre at this
  rw [e,mkS_cps] at this
  exact absurd (by simp) this
 | p :: q :: r,_=>
  have e:=congrArg (fun z:Str=>z.cps.toList) h3
  rw [join_cps,mkS_cps] at e
  have:=(cut_uniq (h1 p List.mem_cons_self) hA e).1
  show some p=_
  rw [<-this]
  exact congrArg some (str_ext (by rw [mkS_cps]))
theorem split_3 {A B C:List Nat} (hA:32 ∉ A) (hB:32 ∉ B) (hC:32 ∉ C):Txt.split (mkS (A++32 :: (B++32 :: C))) (" " : Str)=[mkS A,mkS B,mkS C]:=by
 rw [blank_ch]
 have e:mkS (A++32 :: (B++32 :: C))=Txt.join (ch 32) [mkS A,mkS B,mkS C]:=by
  rw [tjoin]
  refine str_ext ?_
  rw [join_cps,join_cps,mkS_cps,mkS_cps,mkS_cps]
  show _=A++32 :: (B++32 :: (mkS C).cps.toList)
  rw [mkS_cps]
 rw [e]
 refine split_join (by decide) (fun p hp=>?_) (by simp)
 unfold Fre
 simp only [List.mem_cons,List.not_mem_nil,or_false] at hp
 rcases hp with rfl | rfl | rfl<;>(rw [mkS_cps];assumption)
theorem split_2 {A B:List Nat} (hA:32 ∉ A) (hB:32 ∉ B):Txt.split (mkS (A++32 :: B)) (" " : Str)=[mkS A,mkS B]:=by
 rw [blank_ch]
 have e:mkS (A++32 :: B)=Txt.join (ch 32) [mkS A,mkS B]:=by
  rw [tjoin]
  refine str_ext ?_
  rw [join_cps,mkS_cps,mkS_cps]
  show _=A++32 :: (mkS B).cps.toList
  rw [mkS_cps]
 rw [e]
 refine split_join (by decide) (fun p hp=>?_) (by simp)
 unfold Fre
 simp only [List.mem_cons,List.not_mem_nil,or_false] at hp
 rcases hp with rfl | rfl<;>(rw [mkS_cps];assumption)
theorem strip_small (l:List Nat) (h:∀ x∈l,97<=x/\x<=122):Txt.stripChars (mkS l) ("abcdefghijklmnopqrstuvwxyz" : Str)=("" : Str):=by
 have hg:∀ c,97<=c->c<=122->("abcdefghijklmnopqrstuvwxyz" : Str).cps.contains c=true:=fun c h1 h2=>by
  have:c=97\/c=98\/c=99\/c=100\/c=101\/c=102\/c=103\/c=104\/c=105\/c=106\/c=107\/c=108\/c=109\/c=110\/c=111\/c=112\/c=113\/c=114\/c=115\/c=116\/c=117\/c=118\/c=119\/c=120\/c=121\/c=122:=by omega
  rcases this with rfl | rfl | rfl | rfl | rfl | rfl | rfl | rfl | rfl | rfl | rfl | rfl | rfl | rfl | rfl | rfl | rfl | rfl | rfl | rfl | rfl | rfl | rfl | rfl | rfl | rfl<;>decide +kernel
 unfold Txt.stripChars
 rw [stripBy_eq]
 obtain ⟨l1,l2,l3⟩:=lo_facts ("abcdefghijklmnopqrstuvwxyz" : Str).cps.contains (mkS l)
 have e:stripLo ("abcdefghijklmnopqrstuvwxyz" : Str).cps.contains true (mkS l)=(mkS l).length:=by
  rcases l3 with z | z
  ·exact z
  ·rcases Nat.lt_or_ge (stripLo ("abcdefghijklmnopqrstuvwxyz" : Str).cps.contains true (mkS l)) (mkS l).length with y | y
   ·rw [mkS_len] at y
    rw [<-getD_list,mkS_cps,List.getD_eq_getElem?_getD,List.getElem?_eq_getElem y] at z
    have:=h _ (List.getElem_mem y)
    rw [show (some l[stripLo ("abcdefghijklmnopqrstuvwxyz" : Str).cps.contains true (mkS l)]).getD 0=l[stripLo ("abcdefghijklmnopqrstuvwxyz" : Str).cps.contains true (mkS l)] from rfl,hg _ this.1 this.2] at z
    cases z
   ·omega
 rw [e,mkS_sub,mkS_len,List.drop_length,List.take_nil]
 exact mkS_nil
theorem repl_two {x y z pre post:Str} (h0:(occurrences x y 0 x.length (x.length+1)).isEmpty=false) (hy:(y.length == 0)=false) (h2:partsBetween x (occurrences x y 0 x.length (x.length+1)) y.length=[pre,post]) :
  Txt.replace x y z=mkS (pre.cps.toList++(z.cps.toList++post.cps.toList)):=by
 unfold Txt.replace
 rw [h0,hy,if_neg (by simp),h2]
 refine str_ext ?_
 rw [mkS_cps]
 unfold glued
 simp
end L2
end
section
namespace L2
open PySem PySem.Spec PyProof.Rows
section
variable {X:Cx}
end
end L2
end
section
namespace K66
open PySem L2
def top (i:Nat):Stmt:=PySem.Challenge.pw_ownbeat_k66_names_on_desks.main.body.getD i (.Pass ⟨0,0,0,0⟩)
end K66
end
section
open PySem L2
local macro_rules | `(tactic| walk_at "T.n")=>`(tactic| with_reducible first | exact vn _ 0 | exact vn _ 1 | exact vn _ 2 | exact vn _ 3 | exact vn _ 4 | exact vn _ 5 | exact vn _ 6 | exact vn _ 7 | exact vn _ 8 | exact vn _ 9 | exact vn _ 10 | exact vn _ 11 | exact vn _ 12 | exact vn _ 13 | exact vn _ 14 | exact vn _ 15 | exact vn _ 16 | exact vn _ 17 | exact vn _ 18 | exact vn _ 19)
local macro_rules | `(tactic| walk_at "T.a")=>`(tactic| first | (with_reducible exact pa_nil) | ((with_reducible refine' a_cons ?a1 ?a2);(case a1=>walk_at "T.e");(case a2=>walk_at "T.a")))
local macro_rules | `(tactic| walk_at "T.o")=>`(tactic| first | (with_reducible exact po_none) | ((with_reducible refine' po_someU ?a1);(case a1=>walk_at "T.e")))
local macro_rules | `(tactic| walk_at "T.cmp")=>`(tactic| first | (with_reducible exact op_inL) | (with_reducible exact op_notInL) | (with_reducible exact op_lt.n0) | (with_reducible exact op_le.n0) | (with_reducible exact op_gt.n0) | (with_reducible exact op_ge.n0) | ((with_reducible refine' op_eqU ?a1);(case a1=>exact Room.units (by assumption))) | ((with_reducible refine' op_neU ?a1);(case a1=>exact Room.units (by assumption))))
local macro_rules | `(tactic| walk_at "T.op")=>`(tactic| first | (with_reducible exact op_addU) | (with_reducible exact op_sub.n0) | (with_reducible exact op_mulU) | (with_reducible exact op_mod.n) | (with_reducible exact op_fdiv.n) | (with_reducible exact op_pow.n) | (with_reducible exact op_shl.n) | (with_reducible exact op_shr.n) | (with_reducible exact op_and.n0) | (with_reducible exact op_xor.n0) | (with_reducible exact op_or.n0))
local macro_rules | `(tactic| walk_at "T.ty")=>`(tactic| first | ((with_reducible refine' ty_int ?a1 ?a9);(case a1=>with_reducible assumption);(case a9=>rfl)) | ((with_reducible refine' ty_bool ?a1 ?a9);(case a1=>with_reducible assumption);(case a9=>rfl)) | ((with_reducible refine' ty_list ?a1 ?a9);(case a1=>with_reducible assumption);(case a9=>rfl)) | ((with_reducible refine' ty_tuple ?a1 ?a9);(case a1=>with_reducible assumption);(case a9=>rfl)) | ((with_reducible refine' ty_str ?a1 ?a9);(case a1=>with_reducible assumption);(case a9=>rfl)))
local macro_rules | `(tactic| walk_at "T.f")=>`(tactic| ((with_reducible refine' fn_can _ ?a0 ?a9 ?a1 ?a2);(case a0=>with_reducible assumption);(case a9=>exact ⟨rfl,rfl,rfl,rfl,rfl⟩);(case a1=>exact Room.mono (by assumption) (by first | decide | exact Nat.le_refl _));(case a2=>walk_at "T.a")))
local macro_rules | `(tactic| walk_at "T.b")=>`(tactic| first | walk_at "T.f" | ((with_reducible refine' fn_len ?a0 ?a9 ?a1);(case a0=>with_reducible assumption);(case a9=>rfl);(case a1=>walk_at "T.a")) | ((with_reducible refine' fn_isinst ?a0 ?a9 ?a1);(case a0=>with_reducible assumption);(case a9=>rfl);(case a1=>walk_at "T.a")) | ((with_reducible refine' fn_all ?a0 ?a9 ?a1);(case a0=>with_reducible assumption);(case a9=>rfl);(case a1=>walk_at "T.a")) | ((with_reducible refine' fn_max ?a0 ?a9 ?a1);(case a0=>with_reducible assumption);(case a9=>rfl);(case a1=>walk_at "T.a")) | ((with_reducible refine' fn_min ?a0 ?a9 ?a1);(case a0=>with_reducible assumption);(case a9=>rfl);(case a1=>walk_at "T.a")) )
local macro_rules | `(tactic| walk_at "T.m")=>`(tactic| first | ((with_reducible refine' m_append ?a1 ?a2);(case a1=>walk_at "T.e");(case a2=>walk_at "T.a")) | ((with_reducible refine' m_join ?a1 ?a2);(case a1=>walk_at "T.e");(case a2=>walk_at "T.a")) | ((with_reducible refine' m_strip ?a1 ?a2);(case a1=>walk_at "T.e");(case a2=>walk_at "T.a")) | ((with_reducible refine' m_bits ?a1);(case a1=>walk_at "T.e")))
local macro_rules | `(tactic| walk_at "T.c")=>`(tactic| fail "no comprehension's names")
local macro_rules | `(tactic| walk_at "T.e")=>`(tactic| first | (with_reducible exact pe_int) | (with_reducible exact pe_str) | (with_reducible exact pe_bl) | walk_at "T.n" | walk_at "T.ty" | ((with_reducible refine' pe_op ?a1 ?a2 ?a3);(case a1=>walk_at "T.op");(case a2=>walk_at "T.e");(case a3=>walk_at "T.e")) | ((with_reducible refine' e_cmp ?a1 ?a2 ?a3);(case a1=>walk_at "T.cmp");(case a2=>walk_at "T.e");(case a3=>walk_at "T.e")) | ((with_reducible refine' e_chain ?a1 ?a2 ?a3 ?a4 ?a5);(case a1=>walk_at "T.cmp");(case a2=>walk_at "T.cmp");(case a3=>walk_at "T.e");(case a4=>walk_at "T.e");(case a5=>walk_at "T.e")) | ((with_reducible refine' pe_slice slU ?a1 ?a2 ?a3);(case a1=>walk_at "T.e");(case a2=>walk_at "T.o");(case a3=>walk_at "T.o")) | ((with_reducible refine' ix_at ?a1 ?a2);(case a1=>walk_at "T.e");(case a2=>walk_at "T.e")) | ((with_reducible refine' pe_tup ?a1);(case a1=>walk_at "T.a")) | ((with_reducible refine' pe_lst ?a1);(case a1=>walk_at "T.a")) | ((with_reducible refine' pe_andU ?a1 ?a2);(case a1=>walk_at "T.e");(case a2=>walk_at "T.e")) | ((with_reducible refine' pe_orU ?a1 ?a2);(case a1=>walk_at "T.e");(case a2=>walk_at "T.e")) | ((with_reducible refine' pe_one ?a1);(case a1=>walk_at "T.e")) | ((with_reducible refine' pe_notU ?a1);(case a1=>walk_at "T.e")) | ((with_reducible refine' e_neg ?a1);(case a1=>walk_at "T.e")) | walk_at "T.b" | walk_at "T.m" | ((with_reducible refine' e_fmt ?a1);(case a1=>walk_at "T.e")) | ((with_reducible refine' e_fstr ?a1);(case a1=>walk_at "T.j")) | walk_at "T.c")
local macro_rules | `(tactic| walk_at "T.j")=>`(tactic| first | (with_reducible exact pj_nil) )
local macro_rules | `(tactic| walk_at "T.t")=>`(tactic| first | ((with_reducible refine' t_cmp ?a1 ?a2 ?a3);(case a1=>walk_at "T.cmp");(case a2=>walk_at "T.e");(case a3=>walk_at "T.e")) | ((with_reducible refine' pt_not ?a1);(case a1=>walk_at "T.t")) | ((with_reducible refine' PW.pt ?a1);(case a1=>walk_at "T.w")) | ((with_reducible refine' t_tru ?a1);(case a1=>walk_at "T.e")))
local macro_rules | `(tactic| walk_at "T.w")=>`(tactic| first | ((with_reducible refine' pw_or ?a1 ?a2);(case a1=>walk_at "T.t");(case a2=>walk_at "T.w")) | ((with_reducible refine' pw_or1 ?a1);(case a1=>walk_at "T.t")))
local macro_rules | `(tactic| walk_at "T.i")=>`(tactic| first | ((with_reducible refine' it_r1 ?a0 ?a9 ?a1);(case a0=>with_reducible assumption);(case a9=>rfl);(case a1=>walk_at "T.a")) | ((with_reducible refine' it_r3 ?a0 ?a9 ?a1);(case a0=>with_reducible assumption);(case a9=>rfl);(case a1=>walk_at "T.a")) | ((with_reducible refine' pi_lst ?a1);(case a1=>walk_at "T.e")))
local macro_rules | `(tactic| walk_at "T.gn")=>`(tactic| with_reducible first | exact gn _ 0 (by with_unfolding_all assumption) | exact gn _ 1 (by with_unfolding_all assumption) | exact gn _ 2 (by with_unfolding_all assumption) | exact gn _ 3 (by with_unfolding_all assumption) | exact gn _ 4 (by with_unfolding_all assumption) | exact gn _ 5 (by with_unfolding_all assumption) | exact gn _ 6 (by with_unfolding_all assumption) | exact gn _ 7 (by with_unfolding_all assumption) | exact gn _ 8 (by with_unfolding_all assumption) | exact gn _ 9 (by with_unfolding_all assumption) | exact gn _ 10 (by with_unfolding_all assumption) | exact gn _ 11 (by with_unfolding_all assumption) | exact gn _ 12 (by with_unfolding_all assumption) | exact gn _ 13 (by with_unfolding_all assumption) | exact gn _ 14 (by with_unfolding_all assumption) | exact gn _ 15 (by with_unfolding_all assumption) | exact gn _ 16 (by with_unfolding_all assumption) | exact gn _ 17 (by with_unfolding_all assumption) | exact gn _ 18 (by with_unfolding_all assumption) | exact gn _ 19 (by with_unfolding_all assumption))
local macro_rules | `(tactic| walk_at "T.g")=>`(tactic| first | walk_at "T.gn" | ((with_reducible refine' g_sub ?a1 ?a2);(case a1=>walk_at "T.e");(case a2=>walk_at "T.e")) )
local macro_rules | `(tactic| walk_at "T.gs")=>`(tactic| first | (with_reducible exact pgs_nil) )
local macro_rules | `(tactic| walk_at "T.sc")=>`(tactic| fail "no comprehension's names")
local macro_rules | `(tactic| walk_at "T.st")=>`(tactic| first | ((with_reducible refine' ps_ret ?a1);(case a1=>walk_at "T.e")) | walk_at "T.sc" | ((with_reducible refine' s_asg ?a1 ?a2);(case a1=>walk_at "T.e");(case a2=>walk_at "T.g")) | ((with_reducible refine' s_expr ?a1);(case a1=>walk_at "T.e")) | ((with_reducible refine' ps_if ?a1 ?a2 ?a3);(case a1=>walk_at "T.t");(case a2=>walk_at "T.s");(case a3=>walk_at "T.s")) | ((with_reducible refine' s_for ?a1 ?a2 ?a3);(case a1=>walk_at "T.i");(case a2=>walk_at "T.g");(case a3=>walk_at "T.s")) | (with_reducible exact s_raise))
local macro_rules | `(tactic| walk_at "T.s")=>`(tactic| first | (with_reducible exact pss_nil) | ((with_reducible refine' pss_one ?a1);(case a1=>walk_at "T.st")) | ((with_reducible refine' pss_cons ?a1 ?a2);(case a1=>walk_at "T.st");(case a2=>walk_at "T.s")))
local macro_rules | `(tactic| walk_at "T.pf")=>`(tactic| first | (with_reducible exact pf_nil) )
local macro_rules | `(tactic| walk_at "T.top1")=>`(tactic| ((refine' pss_one ?a1);(case a1=>walk_at "T.st")))
local macro_rules | `(tactic| walk_at "T.top")=>`(tactic| ((refine' pss_cons ?a1 ?a2);(case a1=>walk_at "T.st");(case a2=>walk_at "T.s")))
section
namespace K66
open PySem L2
section
variable {P:Program} {w:World} {K:PySem.W.Frag} {mg:Str->Option Value} {base:Heap}
abbrev sWhole:Stmt:=top 11
theorem scWhole:FnScope ["thing"] ["thing"] (defScope sWhole):=⟨rfl,rfl,rfl,by decide +kernel,rfl,by decide +kernel,by decide +kernel⟩
theorem ok_whole (D:FnX K mg "is_whole" sWhole ["thing"]) (g1:mg "isinstance" = none) (g2:mg "int" = none) (g3:mg "bool" = none):Can P w K mg base "is_whole" 1 ["thing"] spWholeD:=by
 refine can_fn (k:=0) D scWhole (fun vs H Q E h=>?_) (fun f cdv A outer s H vs Q E hr h=>?_)
 all_goals
  unfold spWholeD at h
  split at h
 ·rfl
 ·exact h.elim
 ·rename_i v
  obtain ⟨d,hd,q⟩:=h
  have nd:=scWhole.nd
  refine ⟨_,(by walk_at "T.top1"),?_⟩
  refine ⟨tyD d,hd.ty,by decide,?_⟩
  cases d with
  | int i=>exact iteP rfl ⟨"int",hd.ty,by decide,q⟩
  | bool b=>exact iteP rfl ⟨"bool",hd.ty,by decide,q⟩
  | _=>exact iteN rfl q
 ·exact h.elim
end
section
variable {P:Program} {w:World} {K:PySem.W.Frag} {mg:Str->Option Value} {base:Heap}
abbrev sWithin:Stmt:=top 29
theorem scWithin:FnScope ["thing","least","greatest"] ["thing","least","greatest"] (defScope sWithin):=⟨rfl,rfl,rfl,by decide +kernel,rfl,by decide +kernel,by decide +kernel⟩
theorem ok_within (D:FnX K mg "is_within" sWithin ["thing","least","greatest"]) (c1:Can P w K mg base "is_whole" 1 ["thing"] spWholeD):Can P w K mg base "is_within" 2 ["thing","least","greatest"] spWithinD:=by
 refine can_fn (k:=1) D scWithin (fun vs H Q E h=>?_) (fun f cdv A outer s H vs Q E hr h=>?_)
 all_goals
  unfold spWithinD at h
  split at h
 ·rfl
 ·exact h.elim
 ·rename_i v a b
  obtain ⟨d,hd,q⟩:=h
  have nd:=scWithin.nd
  refine ⟨_,(by walk_at "T.top1"),?_⟩
  refine ⟨d,hd,?_⟩
  cases d with
  | int i=>
   have e:=hd.int_inv
   subst e
   refine iteP rfl ?_
   dsimp only [Om.within] at q
   refine ite2 (fun h1=>?_) (fun h1=>?_)
   ·rw [h1,Bool.true_and] at q
    exact q
   ·rw [Bool.eq_false_iff.mpr h1,Bool.false_and] at q
    exact q
  | _=>exact iteN rfl q
 ·exact h.elim
end
section
variable {P:Program} {w:World} {K:PySem.W.Frag} {mg:Str->Option Value} {base:Heap}
abbrev sWord:Stmt:=top 32
theorem scWord:FnScope ["thing","n"] ["thing","n"] (defScope sWord):=⟨rfl,rfl,rfl,by decide +kernel,rfl,by decide +kernel,by decide +kernel⟩
theorem ok_word (D:FnX K mg "is_word" sWord ["thing","n"]) (g1:mg "isinstance" = none) (g2:mg "str" = none) (g3:mg "len" = none):Can P w K mg base "is_word" 1 ["thing","n"] spWordD:=by
 refine can_fn (k:=0) D scWord (fun vs H Q E h=>?_) (fun f cdv A outer s H vs Q E hr h=>?_)
 all_goals
  unfold spWordD at h
  split at h
 ·rfl
 ·exact h.elim
 ·rename_i v n
  obtain ⟨d,hd,hs,q⟩:=h
  have nd:=scWord.nd
  refine ⟨_,(by walk_at "T.top1"),?_⟩
  refine ⟨tyD d,hd.ty,by decide,?_⟩
  cases d with
  | str z=>
   have e:=hd.str_inv
   subst e
   have hz:=str_small hs
   refine iteP rfl ?_
   refine ⟨_,lenStr (le_line hz),?_⟩
   dsimp only [Om.wordOk] at q
   refine ite2 (fun h1=>?_) (fun h1=>?_)
   ·rw [h1,Bool.true_and] at q
    exact ⟨rfl,le_line hz,q⟩
   ·rw [Bool.eq_false_iff.mpr h1,Bool.false_and] at q
    exact q
  | _=>exact iteN rfl q
 ·exact h.elim
end
section
variable {P:Program} {w:World} {K:PySem.W.Frag} {mg:Str->Option Value} {base:Heap}
abbrev sRow:Stmt:=top 31
theorem scRow:FnScope ["row","n","count"] ["row","n","count"] (defScope sRow):=⟨rfl,rfl,rfl,by decide +kernel,rfl,by decide +kernel,by decide +kernel⟩
theorem ok_row (D:FnX K mg "is_row" sRow ["row","n","count"]) (g1:mg "isinstance" = none) (g2:mg "tuple" = none) (g3:mg "len" = none) (c1:Can P w K mg base "is_word" 1 ["thing","n"] spWordD) (c2:Can P w K mg base "is_within" 2 ["thing","least","greatest"] spWithinD) :
  Can P w K mg base "is_row" 3 ["row","n","count"] spRowD:=by
 refine can_fn (k:=2) D scRow (fun vs H Q E h=>?_) (fun f cdv A outer s H vs Q E hr h=>?_)
 all_goals
  unfold spRowD at h
  split at h
 ·rfl
 ·exact h.elim
 ·rename_i v n count
  obtain ⟨d,hd,hs,q⟩:=h
  have nd:=scRow.nd
  refine ⟨_,(by walk_at "T.top"),?_⟩
  dsimp only [tSeq,tIfS,tNext]
  by_cases h2:∃ x y,d = .tuple [x,y]
  ·obtain ⟨x,y,rfl⟩:=h2
   obtain ⟨r,xs,rfl,hr',hx⟩:=hd.tup_inv
   obtain ⟨vx,r1,rfl,dx,h1⟩:=hx.one_inv
   obtain ⟨vy,r2,rfl,dy,h2⟩:=h1.one_inv
   have e:=h2.nil_inv
   subst e
   refine tOr_by (c1:=false) (c2:=false) (fun Q q=>⟨"tuple",(by simp [tyN,hr']),by decide,q⟩) (fun _ Q q=>⟨_,lenT hr',q⟩) ?_
   refine iteF ?_
   refine ⟨_,gt hr' (by decide) rfl,?_⟩
   refine ⟨x,dx,(small_tup hs).2 x (by simp),?_⟩
   dsimp only [Om.rowOk] at q
   refine ite2 (fun h3=>?_) (fun h3=>?_)
   ·rw [h3,Bool.true_and] at q
    exact ⟨_,gt hr' (by decide) rfl,y,dy,q⟩
   ·rw [Bool.eq_false_iff.mpr h3,Bool.false_and] at q
    exact q
  ·have e:Om.rowOk d n count=false:=by
    unfold Om.rowOk
    split
    ·exact (h2 ⟨_,_,rfl⟩).elim
    ·rfl
   rw [e] at q
   refine tOr_by (c1:=!(tyD d == "tuple")) (c2:=true) (fun Q q=>⟨tyD d,hd.ty,by decide,?_⟩) (fun h4 Q q=>?_) ?_
   ·show Q (!(tyD d == "tuple" || (tyD d == "bool" && "tuple" == "int"))) H
    have:(tyD d == "tuple" || (tyD d == "bool" && "tuple" == "int"))=(tyD d == "tuple"):=by cases d<;>rfl
    rw [this]
    exact q
   ·cases d with
    | tuple ds=>
     obtain ⟨r,xs,rfl,hr',hx⟩:=hd.tup_inv
     refine ⟨_,lenT hr',?_⟩
     have l:=hx.length
     show Q (!decide (((xs.length:Nat):Int)=2)) H
     rw [decide_eq_false]
     ·exact q
     ·intro h5
      match ds,l with
      | [x,y],_=>exact h2 ⟨_,_,rfl⟩
      | [],l=>simp at l;rw [l] at h5;simp at h5
      | [x],l=>simp at l;omega
      | x :: y :: z :: r,l=>simp at l;omega
    | _=>simp [tyD] at h4
   ·rw [Bool.or_true]
    exact iteP rfl q
 ·exact h.elim
end
end K66
end
section
namespace K66
open PySem L2
section
variable {P:Program} {w:World} {K:PySem.W.Frag} {mg:Str->Option Value} {base:Heap}
abbrev sState:Stmt:=top 30
theorem scState:FnScope ["rows","k","n","count"] ["rows","k","n","count"] (defScope sState):=⟨rfl,rfl,rfl,by decide +kernel,rfl,by decide +kernel,by decide +kernel⟩
local macro_rules | `(tactic| walk_at "T.c")=>`(tactic| (have ndc:(["row","n","count"]:List Str).Nodup:=(by decide +kernel));((with_reducible refine' c_comp ["row","n","count"] [2,3] ?b1 ?b2 (fun cl C s H fp=>?b3) (fun cl C s H fp=>?b4) (fun cl C s H fp=>?b5));(case b1=>exact ndc);(case b2=>walk_at "T.i");(case b3=>walk_at "T.g");(case b4=>walk_at "T.pf");(case b5=>walk_at "T.e")))
theorem ok_state (D:FnX K mg "is_state" sState ["rows","k","n","count"]) (g1:mg "isinstance" = none) (g2:mg "list" = none) (g3:mg "all" = none) (g4:mg "len" = none)
  (c1:Can P w K mg base "is_row" 3 ["row","n","count"] spRowD):Can P w K mg base "is_state" 4 ["rows","k","n","count"] spStateD:=by
 refine can_fn (k:=3) D scState (fun vs H Q E h=>?_) (fun f cdv A outer s H vs Q E hr h=>?_)
 all_goals
  unfold spStateD at h
  split at h
 ·rfl
 ·exact h.elim
 ·rename_i v k n count
  obtain ⟨d,hd,hs,k1,k3,q⟩:=h
  have nd:=scState.nd
  refine ⟨_,(by walk_at "T.top"),?_⟩
  dsimp only [tSeq,tIfS,tNext]
  by_cases hL:∃ ds,d = .list ds
  ·obtain ⟨ds,rfl⟩:=hL
   obtain ⟨r,rs,rfl,hr',hx⟩:=hd.lst_inv
   obtain ⟨sl,sd⟩:=small_list hs
   have rl:rs.length=ds.length:=hx.length
   have p2:((1:Int) * 2 ^ k.toNat)=((2 ^ k.toNat:Nat):Int):=by push_cast;omega
   refine tOr_by (c1:=false) (c2:=!decide (ds.length=2 ^ k.toNat)) (fun Q q=>⟨"list",(by simp [tyN,hr']),by decide,q⟩) (fun _ Q q=>⟨_,lenL hr',⟨by omega,by omega,by decide⟩,?_⟩) ?_
   ·show Q (!decide (((rs.length:Nat):Int)=1 * 2 ^ k.toNat)) H
    have e:decide (((rs.length:Nat):Int)=1 * 2 ^ k.toNat)=decide (ds.length=2 ^ k.toNat):=decide_eq_decide.mpr (by rw [p2,rl];exact Int.ofNat_inj)
    rw [e]
    exact q
   dsimp only [Om.stateOk] at q
   rw [Bool.false_or]
   refine ite2 (fun h1=>?_) (fun h1=>?_)
   ·have e:decide (ds.length=2 ^ k.toNat)=false:=by simpa using h1
    rw [e,Bool.false_and] at q
    exact q _ (Same.refl _)
   ·have e:decide (ds.length=2 ^ k.toNat)=true:=by simpa using h1
    rw [e,Bool.true_and] at q
    refine ⟨⟨_,SqL.of hr'⟩,fun D1 hD1=>?_⟩
    have hD:∀ o,DVs (upd H D1 o) rs ds:=fun o=>hx.mono (Same.upd hD1)
    refine comp_by (it_list _ r rs) (fun i τ H2 ys=>(∃ v,τ=[v,some (.int n),some (.int count)])/\Same H H2/\H2 D1=some (.lst ys)/\ys=(ds.take i).map fun d=>V.bl (Om.rowOk d n count)) (by rw [rl];exact le_line sl) ⟨⟨none,rfl⟩,Same.upd hD1,upd_same,rfl⟩ ?_ ?_ ?_
    ·rintro i τ H2 ys hi ⟨_,s2,h2,rfl⟩
     exact ⟨SqL.of (s2 _ _ hr'),h2,by rw [List.length_map,List.length_take];omega⟩
    ·rintro i x τ H2 ys hi hx' ⟨⟨v,rfl⟩,s2,h2,rfl⟩
     have hi':i < ds.length:=by rw [<-rl];exact hi
     obtain ⟨x',e1,d1⟩:=hx.get (i:=i) (d:=ds[i]) (List.getElem?_eq_getElem hi')
     rw [hx'] at e1
     cases e1
     refine ⟨ds[i],d1.mono s2,sd _ (List.getElem_mem hi'),?_⟩
     refine ⟨h2,⟨_,rfl⟩,fun x o e=>?_,upd_same,?_⟩
     ·rw [upd_ne (ne_of_none e hD1)]
      exact s2 _ _ e
     ·rw [List.take_add_one,List.getElem?_eq_getElem hi',List.map_append]
      rfl
    ·rintro τ H2 ys ⟨_,s2,h2,rfl⟩
     rw [rl,List.take_length] at h2
     refine ⟨ds.map fun d=>Om.rowOk d n count,by rw [h2,List.map_map];rfl,?_⟩
     rw [List.all_map]
     exact q _ s2
  ·have e:Om.stateOk d k.toNat n count=false:=by
    unfold Om.stateOk
    split
    ·exact (hL ⟨_,rfl⟩).elim
    ·rfl
   rw [e] at q
   have ht:(tyD d == "list" || (tyD d == "bool" && "list" == "int"))=false:=by
    cases d<;>first | rfl | exact (hL ⟨_,rfl⟩).elim
   refine tOr_by (c1:=true) (c2:=true) (fun Q q=>⟨tyD d,hd.ty,by decide,?_⟩) (fun h4 Q q=>nomatch h4) ?_
   ·show Q (!(tyD d == "list" || (tyD d == "bool" && "list" == "int"))) H
    rw [ht]
    exact q
   ·exact iteP rfl (q _ (Same.refl _))
 ·exact h.elim
end
end K66
end
section
namespace K66
open PySem L2
section
variable {P:Program} {w:World} {K:PySem.W.Frag} {mg:Str->Option Value} {base:Heap}
abbrev sCode:Stmt:=top 28
theorem scCode:FnScope ["thing","k","n","states"] ["thing"] (defScope sCode):=⟨rfl,rfl,rfl,by decide +kernel,rfl,by decide +kernel,by decide +kernel⟩
local macro_rules | `(tactic| walk_at "T.c")=>`(tactic| (have ndc:(["rows","k","n","states"]:List Str).Nodup:=(by decide +kernel));((with_reducible refine' c_comp ["rows","k","n","states"] [1,2,3] ?b1 ?b2 (fun cl C s H fp=>?b3) (fun cl C s H fp=>?b4) (fun cl C s H fp=>?b5));(case b1=>exact ndc);(case b2=>walk_at "T.i");(case b3=>walk_at "T.g");(case b4=>walk_at "T.pf");(case b5=>walk_at "T.e")))
theorem ok_code (D:FnX K mg "is_code" sCode ["thing"]) (g1:mg "isinstance" = none) (g2:mg "list" = none) (g3:mg "all" = none) (g4:mg "len" = none) (g5:mg "tuple" = none)
  (c1:Can P w K mg base "is_within" 2 ["thing","least","greatest"] spWithinD) (c2:Can P w K mg base "is_state" 4 ["rows","k","n","count"] spStateD):Can P w K mg base "is_code" 5 ["thing"] spCodeD:=by
 refine can_fn (k:=4) D scCode (fun vs H Q E h=>?_) (fun f cdv A outer s H vs Q E hr h=>?_)
 all_goals
  unfold spCodeD at h
  split at h
 ·rfl
 ·exact h.elim
 ·rename_i v
  obtain ⟨d,hd,hs,q⟩:=h
  have nd:=scCode.nd
  refine ⟨_,(by walk_at "T.top"),?_⟩
  dsimp only [tSeq,tIfS,tNext]
  by_cases h3:∃ x y z,d = .tuple [x,y,z]
  ·obtain ⟨x,y,z,rfl⟩:=h3
   obtain ⟨a,xs,rfl,ha,hx⟩:=hd.tup_inv
   obtain ⟨vx,r1,rfl,dx,h1⟩:=hx.one_inv
   obtain ⟨vy,r2,rfl,dy,h2⟩:=h1.one_inv
   obtain ⟨vz,r3,rfl,dz,h3⟩:=h2.one_inv
   have e:=h3.nil_inv
   subst e
   refine tOr_by (c1:=false) (c2:=false) (fun Q q=>⟨"tuple",(by simp [tyN,ha]),by decide,q⟩) (fun _ Q q=>⟨_,lenT ha,q⟩) ?_
   refine iteF ?_
   refine ⟨_,gt ha (by decide) rfl,_,gt ha (by decide) rfl,_,gt ha (by decide) rfl,?_⟩
   dsimp only [tSeq,tIfS,tNext,gName]
   have tz:(tyD z == "list" || (tyD z == "bool" && "list" == "int"))=(tyD z == "list"):=by cases z<;>rfl
   refine tOr_by (c1:=!Om.within x 1 3) (c2:=!Om.within y 1 6 || !(tyD z == "list")) (fun Q q=>⟨x,dx,q⟩) (fun _ Q q=>?_) ?_
   ·refine tOr_by (c1:=!Om.within y 1 6) (c2:=!(tyD z == "list")) (fun Q q=>⟨y,dy,q⟩) (fun _ Q q=>⟨tyD z,dz.ty,by decide,?_⟩) q
    show Q (!(tyD z == "list" || (tyD z == "bool" && "list" == "int"))) H
    rw [tz]
    exact q
   refine ite2 (fun h5=>?_) (fun h5=>?_)
   ·have e:Om.codeOk (.tuple [x,y,z])=false:=by
     cases z with
     | list ss=>
      dsimp only [Om.codeOk]
      have:(tyD (.list ss) == "list")=true:=rfl
      rw [this] at h5
      cases e1:Om.within x 1 3 with
      | false=>rfl
      | true=>
       cases e2:Om.within y 1 6 with
       | false=>rfl
       | true=>rw [e1,e2] at h5;exact nomatch h5
     | _=>rfl
    rw [e] at q
    exact q _ (Same.refl _)
   ·have h6:Om.within x 1 3=true/\Om.within y 1 6=true/\(tyD z == "list")=true:=by
     revert h5
     cases Om.within x 1 3<;>cases Om.within y 1 6<;>cases (tyD z == "list")<;>simp
    obtain ⟨w1,w2,w3⟩:=h6
    obtain ⟨k,rfl,k1,k3⟩:=Om.within_inv w1
    obtain ⟨n,rfl,n1,n6⟩:=Om.within_inv w2
    have ex:=dx.int_inv
    have ey:=dy.int_inv
    subst ex
    subst ey
    obtain ⟨ss,rfl⟩ : ∃ ss,z = .list ss:=by
     cases z<;>first | exact ⟨_,rfl⟩ | exact absurd w3 (by decide) | (simp [tyD] at w3)
    obtain ⟨b,us,rfl,hb,hu⟩:=dz.lst_inv
    have sl:us.length=ss.length:=hu.length
    obtain ⟨zl,zs⟩:=small_list ((small_tup hs).2 (.list ss) (by simp))
    dsimp only [Om.codeOk] at q
    rw [w1,w2,Bool.true_and,Bool.true_and] at q
    refine ⟨_,lenL hb,.int ((us.length:Nat):Int),.int _,?_⟩
    have e8:Om.within (.int ((us.length:Nat):Int)) 1 8=decide (1<=ss.length/\ss.length<=8):=by
     dsimp only [Om.within]
     rw [sl,<-Bool.decide_and]
     exact decide_eq_decide.mpr ⟨fun h=>⟨by omega,by omega⟩,fun h=>⟨by omega,by omega⟩⟩
    rw [e8]
    refine ite2 (fun h7=>?_) (fun h7=>?_)
    ·have e:decide (1<=ss.length/\ss.length<=8)=false:=by
      cases hb8:decide (1<=ss.length/\ss.length<=8) with
      | false=>rfl
      | true=>rw [hb8] at h7;exact nomatch h7
     rw [e,Bool.false_and] at q
     exact q _ (Same.refl _)
    ·have e:decide (1<=ss.length/\ss.length<=8)=true:=by
      cases hb8:decide (1<=ss.length/\ss.length<=8) with
      | true=>rfl
      | false=>rw [hb8] at h7;exact (h7 rfl).elim
     have l8:=of_decide_eq_true e
     rw [e,Bool.true_and] at q
     refine ⟨⟨_,SqL.of hb⟩,fun D1 hD1=>?_⟩
     refine comp_by (it_list _ b us) (fun i τ H2 ys=>(∃ v,τ=[v,some (.int k),some (.int n),some (.ref b)])/\Same H H2/\H2 D1=some (.lst ys)/\ys=(ss.take i).map fun d=>V.bl (Om.stateOk d k.toNat n (ss.length:Nat))) (by rw [sl];exact le_line (by omega)) ⟨⟨none,rfl⟩,Same.upd hD1,upd_same,rfl⟩ ?_ ?_ ?_
     ·rintro i τ H2 ys hi ⟨_,s2,h2,rfl⟩
      exact ⟨SqL.of (s2 _ _ hb),h2,by rw [List.length_map,List.length_take];omega⟩
     ·rintro i x τ H2 ys hi hx' ⟨⟨v,rfl⟩,s2,h2,rfl⟩
      have hi':i < ss.length:=by rw [<-sl];exact hi
      obtain ⟨x',e1,d1⟩:=hu.get (i:=i) (d:=ss[i]) (List.getElem?_eq_getElem hi')
      rw [hx'] at e1
      cases e1
      refine ⟨_,lenL (s2 _ _ hb),?_⟩
      refine ⟨ss[i],d1.mono s2,zs _ (List.getElem_mem hi'),k1,k3,fun H3 s3=>?_⟩
      refine ⟨s3 _ _ h2,⟨_,rfl⟩,fun x o e=>?_,upd_same,?_⟩
      ·rw [upd_ne (ne_of_none e hD1)]
       exact s3 _ _ (s2 _ _ e)
      ·rw [List.take_add_one,List.getElem?_eq_getElem hi',List.map_append,sl]
       rfl
     ·rintro τ H2 ys ⟨_,s2,h2,rfl⟩
      rw [sl,List.take_length] at h2
      refine ⟨ss.map fun d=>Om.stateOk d k.toNat n (ss.length:Nat),by rw [h2,List.map_map];rfl,?_⟩
      rw [List.all_map]
      exact q _ s2
  ·have e:Om.codeOk d=false:=by
    unfold Om.codeOk
    split
    ·exact (h3 ⟨_,_,_,rfl⟩).elim
    ·rfl
   rw [e] at q
   refine tOr_by (c1:=!(tyD d == "tuple")) (c2:=true) (fun Q q=>⟨tyD d,hd.ty,by decide,?_⟩) (fun h4 Q q=>?_) ?_
   ·show Q (!(tyD d == "tuple" || (tyD d == "bool" && "tuple" == "int"))) H
    have:(tyD d == "tuple" || (tyD d == "bool" && "tuple" == "int"))=(tyD d == "tuple"):=by cases d<;>rfl
    rw [this]
    exact q
   ·cases d with
    | tuple ds=>
     obtain ⟨r,xs,rfl,hr',hx⟩:=hd.tup_inv
     refine ⟨_,lenT hr',?_⟩
     have l:=hx.length
     show Q (!decide (((xs.length:Nat):Int)=3)) H
     rw [decide_eq_false]
     ·exact q
     ·intro h5
      match ds,l with
      | [x,y,z],_=>exact h3 ⟨_,_,_,rfl⟩
      | [],l=>simp at l;rw [l] at h5;simp at h5
      | [x],l=>simp at l;omega
      | [x,y],l=>simp at l;omega
      | x :: y :: z :: u :: r,l=>simp at l;omega
    | _=>simp [tyD] at h4
   ·rw [Bool.or_true]
    exact iteP rfl (q _ (Same.refl _))
 ·exact h.elim
end
end K66
end
section
namespace K66
open PySem L2
section
variable {P:Program} {w:World} {K:PySem.W.Frag} {mg:Str->Option Value} {base:Heap}
open Classical in
noncomputable def woF (F:Addr->Prop) (H:Hp):Hp:=fun b=>if F b then none else H b
theorem woF_at {F:Addr->Prop} {H:Hp} {b:Addr} (n:¬ F b):woF F H b=H b:=if_neg n
theorem woF_none {F:Addr->Prop} {H:Hp} {b:Addr} (n:F b):woF F H b=none:=if_pos n
theorem woF_same (F:Addr->Prop) (H:Hp):Same (woF F H) H:=fun b u e=>by
 by_cases z:F b
 ·rw [woF_none z] at e;cases e
 ·rw [woF_at z] at e;exact e
theorem woF_sub {F:Addr->Prop} {H H':Hp} {B:Addr} {o:HO} (s:Same H H') (hB:F B):Same (woF F H) (woF F (upd H' B o)):=fun x u e=>by
 by_cases z:F x
 ·rw [woF_none z] at e;cases e
 ·rw [woF_at z] at e ⊢
  rw [upd_ne (fun c:x=B=>z (by rw [c];exact hB))]
  exact s _ _ e
def Nw (H:Hp) (B:Addr):Addr->Prop:=fun b=>b=B\/∃ u,H b=some u
theorem nw_dv {H H2 H3 G:Hp} {B:Addr} {o:HO} {v:V} {d:PyData} (s2:Same H H2) (hB:∃ u,H2 B=some u) (sG:Same G H3) (gn:∀ b u,H2 b=some u->G b=none) (dv:DV G v d):DV (woF (Nw H B) (upd H3 B o)) v d:=dv.mono fun b u e=>by
 have b1:b≠B:=fun z=>by obtain ⟨u',hu⟩:=hB;rw [z,gn B u' hu] at e;cases e
 have b2:¬ ∃ u,H b=some u:=fun ⟨u',hu⟩=>by rw [gn b u' (s2 _ _ hu)] at e;cases e
 rw [woF_at (fun z=>z.elim b1 b2),upd_ne b1]
 exact sG _ _ e
abbrev sNum:Stmt:=top 78
def spNum:Sp:=fun vs H Q _=>match vs with
 | [.str z]=>z.length<=1000/\Q (.int (numZ z)) H
 | _=>False
theorem scNum:FnScope ["part"] ["part"] (defScope sNum):=⟨rfl,rfl,rfl,by decide +kernel,rfl,by decide +kernel,by decide +kernel⟩
local macro_rules | `(tactic| walk_at "T.ty")=>`(tactic| ((with_reducible refine' e_gstr ?a0 ?a9);(case a0=>with_reducible assumption);(case a9=>rfl)))
local macro_rules | `(tactic| walk_at "T.m")=>`(tactic| ((with_reducible refine' m_find ?a1 ?a2);(case a1=>walk_at "T.e");(case a2=>walk_at "T.a")))
local macro_rules | `(tactic| walk_at "T.c")=>`(tactic| ((with_reducible refine' pe_ifExp ?a1 ?a2 ?a3);(case a1=>walk_at "T.t");(case a2=>walk_at "T.e");(case a3=>walk_at "T.e")))
theorem ok_num (D:FnX K mg "number_of" sNum ["part"]) (g1:mg "len" = none) (g2:∃ tk,mg "FIGURES" = some (.str figS tk)):Can P w K mg base "number_of" 1 ["part"] spNum:=by
 refine can_fn (k:=0) D scNum (fun vs H Q E h=>?_) (fun f cdv A outer s H vs Q E hr h=>?_)
 all_goals
  unfold spNum at h
  split at h
 ·rfl
 ·exact h.elim
 ·rename_i z
  obtain ⟨hz,q⟩:=h
  have nd:=scNum.nd
  refine ⟨_,(by walk_at "T.top1"),?_⟩
  refine ⟨_,lenStr (le_line hz),?_⟩
  dsimp only [tC,rEqU]
  unfold numZ at q
  refine ite2 (fun h1=>?_) (fun h1=>?_)
  ·have h1:z.length=1:=by have:=of_decide_eq_true h1;omega
   rw [if_pos h1] at q
   exact ⟨rfl,q⟩
  ·have h1:¬ z.length=1:=fun e=>h1 (decide_eq_true (by omega))
   rw [if_neg h1] at q
   exact q
 ·exact h.elim
end
section
variable {P:Program} {w:World} {K:PySem.W.Frag} {mg:Str->Option Value} {base:Heap}
abbrev sRowOf:Stmt:=top 77
def spRowOf:Sp:=fun vs H Q _=>match vs with
 | [.str z]=>z.length<=900/\∀ l H',Same H H'->H l=none->H' l=some (.tup (rowV z))->Q (.ref l) H'
 | _=>False
theorem scRowOf:FnScope ["row","pieces"] ["row"] (defScope sRowOf):=⟨rfl,rfl,rfl,by decide +kernel,rfl,by decide +kernel,by decide +kernel⟩
local macro_rules | `(tactic| walk_at "T.m")=>`(tactic| ((with_reducible refine' m_split ?a1 ?a2);(case a1=>walk_at "T.e");(case a2=>walk_at "T.a")))
local macro_rules | `(tactic| walk_at "T.b")=>`(tactic| ((with_reducible refine' fn_tup1 ?a0 ?a9 ?a1);(case a0=>with_reducible assumption);(case a9=>rfl);(case a1=>walk_at "T.a")))
theorem last_split {ps:List Str} (h:ps≠[]):ps=ps.dropLast++[ps.getLast?.getD ("" : Str)]:=by
 rw [List.getLast?_eq_some_getLast h]
 exact (List.dropLast_concat_getLast h).symm
theorem ok_rowOf (D:FnX K mg "row_of" sRowOf ["row"]) (g1:mg "tuple" = none) (c1:Can P w K mg base "number_of" 1 ["part"] spNum):Can P w K mg base "row_of" 2 ["row"] spRowOf:=by
 refine can_fn (k:=1) D scRowOf (fun vs H Q E h=>?_) (fun f cdv A outer s H vs Q E hr h=>?_)
 all_goals
  unfold spRowOf at h
  split at h
 ·rfl
 ·exact h.elim
 ·rename_i z
  obtain ⟨hz,q⟩:=h
  have nd:=scRowOf.nd
  obtain ⟨h1,h2,h3⟩:=spG_len z
  refine ⟨_,(by walk_at "T.top"),?_⟩
  refine ⟨rfl,by decide +kernel,le_line (by omega),fun p1 hp1=>?_⟩
  rw [show Txt.split z (">" : Str)=spG z from rfl]
  unfold rowV at q
  have e0:=last_split h1
  have hlast:((spG z).getLast?.getD ("" : Str)).length<=z.length:=h2 _ (by rw [e0];simp)
  have dl:(spG z).dropLast.length<=z.length:=by rw [List.length_dropLast];omega
  generalize (spG z).getLast?.getD ("" : Str)=lt at e0 q hlast
  generalize (spG z).dropLast=dr at e0 q dl
  rw [e0]
  have em:(dr++[lt]).map V.str=dr.map V.str++[.str lt]:=by rw [List.map_append];rfl
  rw [em]
  have u1:=Same.upd (o:=.lst (dr.map V.str++[.str lt])) hp1
  have k1:upd H p1 (.lst (dr.map V.str++[.str lt])) p1=some (.lst (dr.map V.str++[.str lt])):=upd_same
  generalize upd H p1 (.lst (dr.map V.str++[.str lt]))=H1 at u1 k1 ⊢
  dsimp only [gName]
  refine ⟨_,k1,fun p2 hp2=>?_⟩
  rw [cut_m1]
  have u2:=Same.upd (o:=.lst (dr.map V.str)) hp2
  have k2:upd H1 p2 (.lst (dr.map V.str)) p2=some (.lst (dr.map V.str)):=upd_same
  generalize upd H1 p2 (.lst (dr.map V.str))=H2 at u2 k2 ⊢
  refine ⟨.str lt,by rw [getV_lst (u2 _ _ k1)];exact atI_last _ _,by omega,?_⟩
  refine ⟨le_line (Nat.le_of_ble_eq_true rfl),fun p3 hp3=>?_⟩
  have u3:=Same.upd (o:=.lst [.int (numZ lt)]) hp3
  refine ⟨_,_,u3 _ _ k2,upd_same,le_line (by rw [List.length_map];show _+1<=1000;omega),fun p4 hp4=>?_⟩
  have u4:=Same.upd (o:=.lst (dr.map V.str++[.int (numZ lt)])) hp4
  refine ⟨_,upd_same,fun p5 hp5=>?_⟩
  have u:=((u1.trans u2).trans u3).trans u4
  exact q p5 _ (u.trans (Same.upd hp5)) (u.free hp5) upd_same
 ·exact h.elim
end
section
variable {P:Program} {w:World} {K:PySem.W.Frag} {mg:Str->Option Value} {base:Heap}
abbrev sStateOf:Stmt:=top 76
def spStateOf:Sp:=fun vs H Q _=>match vs with
 | [.str z]=>z.length<=900/\∀ v G H',Same H H'->Same G H'->(∀ b u,H b=some u->G b=none)->DV G v (stateT z)->Q v H'
 | _=>False
theorem scStateOf:FnScope ["part"] ["part"] (defScope sStateOf):=⟨rfl,rfl,rfl,by decide +kernel,rfl,by decide +kernel,by decide +kernel⟩
local macro_rules | `(tactic| walk_at "T.m")=>`(tactic| ((with_reducible refine' m_split ?a1 ?a2);(case a1=>walk_at "T.e");(case a2=>walk_at "T.a")))
local macro_rules | `(tactic| walk_at "T.c")=>`(tactic| (have ndc:(["row"]:List Str).Nodup:=(by decide +kernel));((with_reducible refine' c_comp ["row"] [] ?b1 ?b2 (fun cl C s H fp=>?b3) (fun cl C s H fp=>?b4) (fun cl C s H fp=>?b5));(case b1=>exact ndc);(case b2=>walk_at "T.i");(case b3=>walk_at "T.g");(case b4=>walk_at "T.pf");(case b5=>walk_at "T.e")))
theorem ok_stateOf (D:FnX K mg "state_of" sStateOf ["part"]) (c1:Can P w K mg base "row_of" 2 ["row"] spRowOf):Can P w K mg base "state_of" 3 ["part"] spStateOf:=by
 refine can_fn (k:=2) D scStateOf (fun vs H Q E h=>?_) (fun f cdv A outer s H vs Q E hr h=>?_)
 all_goals
  unfold spStateOf at h
  split at h
 ·rfl
 ·exact h.elim
 ·rename_i z
  obtain ⟨hz,q⟩:=h
  have nd:=scStateOf.nd
  obtain ⟨h1,h2,h3⟩:=spC_len z
  refine ⟨_,(by walk_at "T.top1"),?_⟩
  refine ⟨rfl,by decide +kernel,le_line (by omega),fun p1 hp1=>?_⟩
  rw [show Txt.split z ("," : Str)=spC z from rfl]
  have u1:=Same.upd (o:=.lst ((spC z).map V.str)) hp1
  have k1:upd H p1 (.lst ((spC z).map V.str)) p1=some (.lst ((spC z).map V.str)):=upd_same
  generalize upd H p1 (.lst ((spC z).map V.str))=H1 at u1 k1 ⊢
  refine ⟨⟨_,SqL.of k1⟩,fun D1 hD1=>?_⟩
  refine comp_by (it_list _ p1 ((spC z).map V.str)) (fun i τ H2 ys=>(∃ v,τ=[v])/\Same H1 H2/\H2 D1=some (.lst ys)/\DVs (woF (Nw H1 D1) H2) ys (((spC z).take i).map rowT)) (by rw [List.length_map];exact le_line (by omega)) ⟨⟨none,rfl⟩,Same.upd hD1,upd_same,.nil⟩ ?_ ?_ ?_
  ·rintro i τ H2 ys hi ⟨_,s2,h2',dg⟩
   refine ⟨SqL.of (s2 _ _ k1),h2',?_⟩
   rw [dg.length,List.length_map,List.length_take];omega
  ·rintro i x τ H2 ys hi hx ⟨⟨v,rfl⟩,s2,k2,dg⟩
   have hi':i < (spC z).length:=by simpa using hi
   rw [List.getElem?_map,List.getElem?_eq_getElem hi'] at hx
   have ex:x = .str (spC z)[i]:=(Option.some.inj hx).symm
   subst ex
   have hlr:=h2 _ (List.getElem_mem hi')
   refine ⟨by omega,fun l H3 s3 nl hl=>?_⟩
   have lD:l≠D1:=fun z=>by rw [z,k2] at nl;cases nl
   refine ⟨s3 _ _ k2,⟨_,rfl⟩,(s2.trans s3).own hD1,upd_same,?_⟩
   rw [List.take_add_one,List.getElem?_eq_getElem hi',List.map_append]
   refine (dg.mono (woF_sub s3 (.inl rfl))).app (.cons (rowT_dv ?_) .nil)
   rw [woF_at (fun z=>z.elim lD fun ⟨u,hu⟩=>by rw [s2 _ _ hu] at nl;cases nl),upd_ne lD]
   exact hl
  ·rintro τ H2 ys ⟨_,s2,k2,dg⟩
   rw [List.length_map,List.take_length] at dg
   have nD:H D1=none:=u1.free hD1
   refine q (.ref D1) (woF (fun b=>∃ u,H b=some u) H2) H2 (u1.trans s2) (woF_same _ _) (fun b u e=>woF_none ⟨u,e⟩) (.lst ?_ (dg.mono fun b u e=>?_))
   ·rw [woF_at (fun ⟨u,hu⟩=>by rw [nD] at hu;cases hu)];exact k2
   ·by_cases z:Nw H1 D1 b
    ·rw [woF_none z] at e;cases e
    ·rw [woF_at z] at e
     rw [woF_at (fun ⟨u,hu⟩=>z (.inr ⟨u,u1 _ _ hu⟩))]
     exact e
 ·exact h.elim
end
section
variable {P:Program} {w:World} {K:PySem.W.Frag} {mg:Str->Option Value} {base:Heap}
abbrev sCodeOf:Stmt:=top 75
def spCodeOf:Sp:=fun vs H Q _=>match vs with
 | [.ref p]=>∃ ps:List Str,H p=some (.lst (ps.map V.str))/\ps.length<=901/\(∀ z∈ps,z.length<=900)/\∀ v H',Same H H'->DV H' v (codeT ps)->Q v H'
 | _=>False
theorem scCodeOf:FnScope ["parts","states"] ["parts"] (defScope sCodeOf):=⟨rfl,rfl,rfl,by decide +kernel,rfl,by decide +kernel,by decide +kernel⟩
local macro_rules | `(tactic| walk_at "T.b")=>`(tactic| ((with_reducible refine' fn_tup1 ?a0 ?a9 ?a1);(case a0=>with_reducible assumption);(case a9=>rfl);(case a1=>walk_at "T.a")))
local macro_rules | `(tactic| walk_at "T.sc")=>`(tactic| (have ndc:(["part"]:List Str).Nodup:=(by decide +kernel));((with_reducible refine' s_comp "states" 1 ["part"] [] ?b1 ?b0 ?b2 (fun cl C s H fp=>?b3) (fun cl C s H fp=>?b4) (fun cl C s H fp=>?b5));(case b1=>exact ndc);(case b0=>assumption);(case b2=>walk_at "T.i");(case b3=>walk_at "T.g");(case b4=>walk_at "T.pf");(case b5=>walk_at "T.e")))
local macro_rules | `(tactic| walk_at "T.c")=>`(tactic| (have ndc:(["part"]:List Str).Nodup:=(by decide +kernel));((with_reducible refine' c_comp ["part"] [] ?b1 ?b2 (fun cl C s H fp=>?b3) (fun cl C s H fp=>?b4) (fun cl C s H fp=>?b5));(case b1=>exact ndc);(case b2=>walk_at "T.i");(case b3=>walk_at "T.g");(case b4=>walk_at "T.pf");(case b5=>walk_at "T.e")))
theorem cut_ge (xs:List V) (a:Nat):cutV xs (some (a:Int)) none=xs.drop a:=by
 have:=cut_gen xs a xs.length
 unfold cutV at this ⊢
 rw [show HT.sIx xs.length xs.length none=HT.sIx xs.length xs.length (some ((xs.length:Nat):Int)) by rw [HT.sIx_none,HT.sIx_nat];omega,this,List.take_of_length_le (by rw [List.length_drop];exact Nat.le_refl _)]
theorem cut_le (xs:List V) (h:Nat):cutV xs none (some (h:Int))=xs.take h:=by
 have:=cut_gen xs 0 h
 unfold cutV at this ⊢
 rw [show HT.sIx xs.length 0 none=HT.sIx xs.length 0 (some ((0:Nat):Int)) by rw [HT.sIx_none,HT.sIx_nat];omega,this,List.drop_zero,Nat.sub_zero]
theorem ok_codeOf (D:FnX K mg "code_of" sCodeOf ["parts"]) (g1:mg "tuple" = none) (c1:Can P w K mg base "number_of" 1 ["part"] spNum) (c2:Can P w K mg base "state_of" 3 ["part"] spStateOf):Can P w K mg base "code_of" 4 ["parts"] spCodeOf:=by
 refine can_fn (k:=3) D scCodeOf (fun vs H Q E h=>?_) (fun f cdv A outer s H vs Q E hr h=>?_)
 all_goals
  unfold spCodeOf at h
  split at h
 ·rfl
 ·exact h.elim
 ·rename_i p
  obtain ⟨ps,hp,pl,pz,q⟩:=h
  have nd:=scCodeOf.nd
  refine ⟨_,(by walk_at "T.top"),?_⟩
  refine ⟨_,hp,fun p1 hp1=>?_⟩
  have ec:cutV (ps.map V.str) (some 2) none=(ps.drop 2).map V.str:=by rw [List.map_drop];exact cut_ge _ 2
  rw [ec]
  have u1:=Same.upd (o:=.lst ((ps.drop 2).map V.str)) hp1
  have k1:upd H p1 (.lst ((ps.drop 2).map V.str)) p1=some (.lst ((ps.drop 2).map V.str)):=upd_same
  generalize upd H p1 (.lst ((ps.drop 2).map V.str))=H1 at u1 k1 ⊢
  have dz:∀ z∈ps.drop 2,z.length<=900:=fun z hz=>pz z (List.mem_of_mem_drop hz)
  have dl:(ps.drop 2).length<=901:=by rw [List.length_drop];omega
  unfold codeT at q
  generalize ps.drop 2=ds at *
  refine ⟨⟨_,SqL.of k1⟩,fun D1 hD1=>?_⟩
  refine comp_by (it_list _ p1 (ds.map V.str)) (fun i τ H2 ys=>(∃ v,τ=[v])/\Same H1 H2/\H2 D1=some (.lst ys)/\DVs (woF (Nw H1 D1) H2) ys ((ds.take i).map stateT)) (by rw [List.length_map];exact le_line (by omega)) ⟨⟨none,rfl⟩,Same.upd hD1,upd_same,.nil⟩ ?_ ?_ ?_
  ·rintro i τ H2 ys hi ⟨_,s2,h2',dg⟩
   refine ⟨SqL.of (s2 _ _ k1),h2',?_⟩
   rw [dg.length,List.length_map,List.length_take];omega
  ·rintro i x τ H2 ys hi hx ⟨⟨v,rfl⟩,s2,k2,dg⟩
   have hi':i < ds.length:=by simpa using hi
   rw [List.getElem?_map,List.getElem?_eq_getElem hi'] at hx
   have ex:x = .str ds[i]:=(Option.some.inj hx).symm
   subst ex
   refine ⟨dz _ (List.getElem_mem hi'),fun v G H3 s3 sG gn dv=>?_⟩
   refine ⟨s3 _ _ k2,⟨_,rfl⟩,(s2.trans s3).own hD1,upd_same,?_⟩
   rw [List.take_add_one,List.getElem?_eq_getElem hi',List.map_append]
   exact (dg.mono (woF_sub s3 (.inl rfl))).app (.cons (nw_dv s2 ⟨_,k2⟩ sG gn dv) .nil)
  rintro τ H2 ys ⟨_,s2,k2,dg⟩
  rw [List.length_map,List.take_length] at dg
  have dg2:=dg.mono (woF_same _ _)
  have s02:=u1.trans s2
  refine ⟨_,s02 _ _ hp,fun p2 hp2=>?_⟩
  have ec2:cutV (ps.map V.str) none (some 2)=(ps.take 2).map V.str:=by rw [List.map_take];exact cut_le _ 2
  rw [ec2]
  have u3:=Same.upd (o:=.lst ((ps.take 2).map V.str)) hp2
  have k3:upd H2 p2 (.lst ((ps.take 2).map V.str)) p2=some (.lst ((ps.take 2).map V.str)):=upd_same
  generalize upd H2 p2 (.lst ((ps.take 2).map V.str))=H3 at u3 k3 ⊢
  have tz:∀ z∈ps.take 2,z.length<=900:=fun z hz=>pz z (List.mem_of_mem_take hz)
  have tl:(ps.take 2).length<=2:=by rw [List.length_take];exact Nat.min_le_left _ _
  generalize ps.take 2=ts at *
  refine ⟨⟨_,SqL.of k3⟩,fun D2 hD2=>?_⟩
  refine comp_by (it_list _ p2 (ts.map V.str)) (fun i τ H4 ys=>(∃ v,τ=[v])/\H4=upd H3 D2 (.lst ys)/\ys=((ts.take i).map fun p=>numZ p).map V.int) (by rw [List.length_map];exact le_line (by omega)) ⟨⟨none,rfl⟩,rfl,rfl⟩ ?_ ?_ ?_
  ·rintro i τ H4 ys2 hi ⟨_,rfl,rfl⟩
   refine ⟨SqL.of (Same.upd hD2 _ _ k3),upd_same,?_⟩
   rw [List.length_map,List.length_map,List.length_take];omega
  ·rintro i x τ H4 ys2 hi hx ⟨⟨v,rfl⟩,rfl,rfl⟩
   have hi':i < ts.length:=by simpa using hi
   rw [List.getElem?_map,List.getElem?_eq_getElem hi'] at hx
   have ex:x = .str ts[i]:=(Option.some.inj hx).symm
   subst ex
   refine ⟨by have:=tz _ (List.getElem_mem hi');omega,upd_same,⟨_,rfl⟩,upd_upd,?_⟩
   rw [List.take_add_one,List.getElem?_eq_getElem hi',List.map_append,List.map_append]
   rfl
  rintro τ H4 ys2 ⟨_,rfl,rfl⟩
  rw [List.length_map,List.take_length]
  have u4:=Same.upd (o:=.lst ((ts.map fun p=>numZ p).map V.int)) hD2
  have k4:upd H3 D2 (.lst ((ts.map fun p=>numZ p).map V.int)) D2=some (.lst ((ts.map fun p=>numZ p).map V.int)):=upd_same
  generalize upd H3 D2 (.lst ((ts.map fun p=>numZ p).map V.int))=H4 at u4 k4 ⊢
  refine ⟨le_line (Nat.le_of_ble_eq_true rfl),fun p5 hp5=>?_⟩
  have u5:=Same.upd (o:=.lst [.ref D1]) hp5
  refine ⟨_,_,u5 _ _ k4,upd_same,le_line (by rw [List.length_map,List.length_map];show _+1<=1000;omega),fun p6 hp6=>?_⟩
  have u6:=Same.upd (o:=.lst ((ts.map fun p=>numZ p).map V.int++[.ref D1])) hp6
  refine ⟨_,upd_same,fun p7 hp7=>?_⟩
  have u7:=Same.upd (o:=.tup ((ts.map fun p=>numZ p).map V.int++[.ref D1])) hp7
  have uu:=(((u3.trans u4).trans u5).trans u6).trans u7
  refine q (.ref p7) _ (s02.trans uu) (.tup upd_same ?_)
  have di:∀ (l:List Int) (H:Hp),DVs H (l.map V.int) (l.map PyData.int):=fun l H=>by
   induction l with
   | nil=>exact .nil
   | cons x l ih=>exact .cons (.int x) ih
  have e:ts.map (fun p=>PyData.int (numZ p))=(ts.map fun p=>numZ p).map PyData.int:=by rw [List.map_map];rfl
  rw [e]
  exact (di _ _).app (.cons (.lst (uu _ _ k2) (dg2.mono uu)) .nil)
 ·exact h.elim
end
end K66
end
section
namespace K66
open PySem L2
section
variable {P:Program} {w:World} {K:PySem.W.Frag} {mg:Str->Option Value} {base:Heap}
def Cl (K:PySem.W.Frag) (mg:Str->Option Value) (C:Addr) (x:Str) (b:Bool):Prop:=∃ D,mg x=some (.ref D)/\PySem.W.kitOne K (.ref C) (.ref D)=some b
theorem Cl.at {K:PySem.W.Frag} {mg:Str->Option Value} {C D:Addr} {x:Str} {b:Bool} (h:Cl K mg C x b) (hm:mg x=some (.ref D)):PySem.W.kitOne K (.ref C) (.ref D)=some b:=by
 obtain ⟨D',h1,h2⟩:=h
 rw [hm] at h1
 cases h1
 exact h2
structure KindsOf (K:PySem.W.Frag) (mg:Str->Option Value) (C:Addr) (m:Nat):Prop where
 z:PySem.W.ExCls K C
 k0:Cl K mg C "NoLetter" (decide (0=m))
 k1:Cl K mg C "NoCode" (decide (1=m))
 k2:Cl K mg C "NoWindow" (decide (2=m))
 k3:Cl K mg C "NoMark" (decide (3=m))
 k4:Cl K mg C "NoText" (decide (4=m))
 k5:Cl K mg C "NoName" (decide (5=m))
 k6:Cl K mg C "NoRow" (decide (6=m))
 k7:Cl K mg C "NoWire" (decide (7=m))
 k8:PySem.W.kitOne K (.ref C) (.type "ValueError")=some true
end
end K66
end
section
namespace K66
open PySem L2
section
variable {X:Cx} {p pos:Pos} {e:Expr} {es:List Expr} {t:TA}
end
section
variable {P:Program} {w:World} {K:PySem.W.Frag} {mg:Str->Option Value} {base:Heap}
abbrev sReadCode:Stmt:=top 74
def spRC (C0:Addr):Sp:=fun vs H Q E=>match vs with
 | [.str z]=>z.length<=900/\(Om.codeOk (codeT (spB z))=false->∀ H',Same H H'->E (.ref C0) none H')/\(Om.codeOk (codeT (spB z))=true->∀ v H',Same H H'->DV H' v (codeT (spB z))->Q v H')
 | [x]=>∃ T,tyN H x=some T/\T≠"str"/\E (.ref C0) none H
 | _=>False
theorem scReadCode:FnScope ["text","code"] ["text"] (defScope sReadCode):=⟨rfl,rfl,rfl,by decide +kernel,rfl,by decide +kernel,by decide +kernel⟩
local macro_rules | `(tactic| walk_at "T.m")=>`(tactic| ((with_reducible refine' m_split ?a1 ?a2);(case a1=>walk_at "T.e");(case a2=>walk_at "T.a")))
local macro_rules | `(tactic| walk_at "T.st")=>`(tactic| ((with_reducible refine' s_raiseP ?a0 ?a3 ?a6);(case a0=>with_reducible assumption);(case a3=>with_reducible assumption);(case a6=>walk_at "T.a")))
theorem ok_readCode {C0:Addr} (D:FnX K mg "read_code" sReadCode ["text"]) (g1:mg "isinstance" = none) (g2:mg "str" = none) (c1:Can P w K mg base "code_of" 4 ["parts"] spCodeOf) (c2:Can P w K mg base "is_code" 5 ["thing"] spCodeD) (Z0:ExnOk K C0) (m0:mg "NoText" = some (.ref C0)):CanY P w K mg base "read_code" 6 ["text"] (spRC C0):=by
 refine canY_fn (k:=5) D scReadCode (fun vs H Q E h=>?_) (fun f cdv A outer s H vs Q E hr h=>?_)
 all_goals
  unfold spRC at h
  split at h
 ·rfl
 ·rfl
 ·exact h.elim
 ·rename_i z
  obtain ⟨hz,qe,q⟩:=h
  have nd:=scReadCode.nd
  obtain ⟨h1,h2,h3⟩:=spB_len z
  refine ⟨_,(by walk_at "T.top"),?_⟩
  refine ⟨"str",rfl,by decide,iteF ?_⟩
  refine ⟨rfl,by decide +kernel,le_line (by omega),fun p1 hp1=>?_⟩
  rw [show Txt.split z (" " : Str)=spB z from rfl]
  have u1:=Same.upd (o:=.lst ((spB z).map V.str)) hp1
  refine ⟨spB z,upd_same,by omega,fun p hp=>by have:=h2 p hp;omega,fun v H1 s1 dv=>?_⟩
  dsimp only [gName]
  refine ⟨_,dv,codeT_small hz,fun H2 s2=>?_⟩
  have ss:=(u1.trans s1).trans s2
  cases e:Om.codeOk (codeT (spB z)) with
  | false=>exact iteP rfl ⟨by decide,qe e _ ss⟩
  | true=>exact iteF (q e v _ ss (dv.mono s2))
 ·rename_i x _
  obtain ⟨T,ht,hne,q⟩:=h
  have nd:=scReadCode.nd
  refine ⟨_,(by walk_at "T.top"),?_⟩
  refine ⟨T,ht,by decide,?_⟩
  have e:(T == "str" || (T == "bool" && "str" == "int"))=false:=by
   have h1:(T == "str")=false:=beq_false_of_ne hne
   have h2:(("str" : String) == "int")=false:=by decide
   rw [h1,h2,Bool.and_false];rfl
  rw [e]
  exact iteP (by decide) ⟨by decide,q⟩
 ·exact h.elim
end
end K66
end
section
namespace K66
open PySem L2
section
variable {P:Program} {w:World} {K:PySem.W.Frag} {mg:Str->Option Value} {base:Heap}
abbrev sLetter:Stmt:=top 12
def ltV (j:Nat):V->Bool
 | .int i=>decide (0<=i) && decide (i < 2 ^ j)
 | _=>false
theorem bits_iff {i:Int} {k:Nat} (h0:0<=i):decide (((Builtin.Int.intBits i:Nat):Int)<=(k:Int))=decide (i < 2 ^ k):=by
 rw [decide_eq_decide]
 refine ⟨fun h=>?_,fun h=>bits_le h0 h⟩
 unfold Builtin.Int.intBits at h
 by_cases hi:i=0
 ·subst hi;exact Int.pow_pos (by decide)
 ·have hb:(i == 0)=false:=by simpa using hi
  rw [hb] at h
  simp only [Bool.false_eq_true,if_false] at h
  have hn:i.natAbs≠0:=by omega
  have h2:i.natAbs < 2 ^ k:=(Nat.log2_lt hn).mp (by omega)
  have e:((i.natAbs:Nat):Int)=i:=by omega
  have:((i.natAbs:Nat):Int) < ((2 ^ k:Nat):Int):=by exact_mod_cast h2
  rw [e] at this
  simpa using this
def spLetterD:Sp:=fun vs H Q _=>match vs with
 | [.int k,v]=>∃ (j:Nat) (d:PyData),k=(j:Int)/\DV H v d/\Q (.bl (ltV j v)) H
 | _=>False
theorem scLetter:FnScope ["k","thing"] ["k","thing"] (defScope sLetter):=⟨rfl,rfl,rfl,by decide +kernel,rfl,by decide +kernel,by decide +kernel⟩
theorem ok_letter (D:FnX K mg "is_letter" sLetter ["k","thing"]) (c1:Can P w K mg base "is_whole" 1 ["thing"] spWholeD):Can P w K mg base "is_letter" 2 ["k","thing"] spLetterD:=by
 refine can_fn (k:=1) D scLetter (fun vs H Q E h=>?_) (fun f cdv A outer s H vs Q E hr h=>?_)
 all_goals
  unfold spLetterD at h
  split at h
 ·rfl
 ·exact h.elim
 ·rename_i k v
  obtain ⟨j,d,rfl,hd,q⟩:=h
  have nd:=scLetter.nd
  refine ⟨_,(by walk_at "T.top1"),?_⟩
  refine ⟨d,hd,?_⟩
  cases hd with
  | int i=>
   refine iteP rfl ?_
   refine ite2 (fun h1=>?_) (fun h1=>?_)
   ·have h0:0<=i:=of_decide_eq_true h1
    refine ⟨rfl,?_⟩
    show Q (.bl (decide (((Builtin.Int.intBits i:Nat):Int)<=(j:Int)))) H
    rw [bits_iff h0]
    have e:ltV j (.int i)=decide (i < 2 ^ j):=by show (decide (0<=i) && decide (i < 2 ^ j))=_;rw [decide_eq_true h0,Bool.true_and]
    rw [e] at q
    exact q
   ·have e:ltV j (.int i)=false:=by show (decide (0<=i) && decide (i < 2 ^ j))=_;rw [decide_eq_false (fun z=>h1 (decide_eq_true z)),Bool.false_and]
    rw [e] at q
    exact q
  | _=>exact iteN rfl q
 ·exact h.elim
abbrev sLetterL:Stmt:=top 13
def spLetterL:Sp:=fun vs H Q _=>match vs with
 | [.int k,v]=>∃ j:Nat,k=(j:Int)/\((∃ T,tyN H v=some T/\(T == "list")=false/\Q (.bl false) H)\/∃ l xs ds,v = .ref l/\H l=some (.lst xs)/\DVs H xs ds/\xs.length<=1000/\∀ H',Same H H'->Q (.bl (xs.all (ltV j))) H')
 | _=>False
theorem scLetterL:FnScope ["k","thing"] ["k","thing"] (defScope sLetterL):=⟨rfl,rfl,rfl,by decide +kernel,rfl,by decide +kernel,by decide +kernel⟩
local macro_rules | `(tactic| walk_at "T.c")=>`(tactic| (have ndc:(["one","k"]:List Str).Nodup:=(by decide +kernel));((with_reducible refine' c_comp ["one","k"] [0] ?b1 ?b2 (fun cl C s H fp=>?b3) (fun cl C s H fp=>?b4) (fun cl C s H fp=>?b5));(case b1=>exact ndc);(case b2=>walk_at "T.i");(case b3=>walk_at "T.g");(case b4=>walk_at "T.pf");(case b5=>walk_at "T.e")))
theorem ok_letterL (D:FnX K mg "is_letter_list" sLetterL ["k","thing"]) (g1:mg "isinstance" = none) (g2:mg "list" = none) (g3:mg "all" = none) (c1:Can P w K mg base "is_letter" 2 ["k","thing"] spLetterD):Can P w K mg base "is_letter_list" 3 ["k","thing"] spLetterL:=by
 refine can_fn (k:=2) D scLetterL (fun vs H Q E h=>?_) (fun f cdv A outer s H vs Q E hr h=>?_)
 all_goals
  unfold spLetterL at h
  split at h
 ·rfl
 ·exact h.elim
 ·rename_i k v
  obtain ⟨j,rfl,h⟩:=h
  have nd:=scLetterL.nd
  refine ⟨_,(by walk_at "T.top1"),?_⟩
  rcases h with ⟨T,hT,nT,q⟩ | ⟨l,xs,ds,rfl,hl,dv,hz,q⟩
  ·refine ⟨T,hT,by decide,?_⟩
   have e:(T == "list" || (T == "bool" && ("list" : String) == "int"))=false:=by rw [nT,Bool.false_or];simp
   rw [e]
   exact iteF q
  ·refine ⟨"list",(by simp [tyN,hl]),by decide,?_⟩
   refine iteP (by decide) ?_
   refine ⟨⟨_,SqL.of hl⟩,fun D hD=>?_⟩
   refine comp_map1 (it_list _ l xs) (fun x=>.bl (ltV j x)) (le_line hz) (fun o=>SqL.upd hl hD) (fun i x ys hx C c=>?_) ?_
   ·have hi:=(List.getElem?_eq_some_iff.mp hx).1
    obtain ⟨d,hd⟩ : ∃ d,ds[i]? = some d:=⟨ds[i]'(by rw [<-dv.length];exact hi),List.getElem?_eq_getElem _⟩
    obtain ⟨x',hx',dx⟩:=dv.get hd
    rw [hx] at hx'
    cases hx'
    exact ⟨j,d,rfl,dx.mono (Same.upd hD),c⟩
   ·refine ⟨xs.map (ltV j),by rw [upd_same,List.map_map];rfl,?_⟩
    have e:(xs.map (ltV j)).all id=xs.all (ltV j):=by rw [List.all_map];rfl
    rw [e]
    exact q _ (Same.upd hD)
 ·exact h.elim
end
end K66
end
section
namespace K66
open PySem L2
section
variable {P:Program} {w:World} {K:PySem.W.Frag} {mg:Str->Option Value} {base:Heap}
theorem dvs_ints {H:Hp}:∀ ns:List Int,DVs H (ns.map V.int) (ns.map PyData.int)
 | []=>.nil
 | n :: ns=>.cons (.int n) (dvs_ints ns)
theorem all_lt {k:Nat} {ls:List Nat} (h:∀ l∈ls,l < 2 ^ k):((ni ls).map V.int).all (ltV k)=true:=by
 rw [List.all_map,List.all_eq_true]
 intro x hx
 unfold ni at hx
 obtain ⟨l,hl,rfl⟩:=List.mem_map.mp hx
 show (decide ((0:Int)<=(l:Int)) && decide ((l:Int) < 2 ^ k))=true
 rw [decide_eq_true (by omega),decide_eq_true (by exact_mod_cast h l hl)]
 rfl
abbrev sSent:Stmt:=top 33
def spSent:Sp:=fun vs H Q _=>match vs with
 | [cv,.int st,.ref t]=>∃ (k n:Nat) (rows:Om.Rows) (s0:Nat) (ls:List Nat),DV H cv (codeD k n rows)/\Om.CodeOk k n rows/\st=(s0:Int)/\s0 < rows.length/\H t=some (.lst ((ni ls).map V.int))/\ls.length<=750/\(∀ l∈ls,l < 2 ^ k) ∧
   ∀ p H',Same H H'->H' p=some (.tup [.str (bs (Om.send rows s0 ls).1),.int ((Om.send rows s0 ls).2:Nat)])->Q (.ref p) H'
 | _=>False
theorem scSent:FnScope ["code","state","text","words","letter","row"] ["code","state","text"] (defScope sSent):=⟨rfl,rfl,rfl,by decide +kernel,rfl,by decide +kernel,by decide +kernel⟩
theorem ok_sent (D:FnX K mg "sent" sSent ["code","state","text"]) (c1:Can P w K mg base "is_letter_list" 3 ["k","thing"] spLetterL):Can P w K mg base "sent" 4 ["code","state","text"] spSent:=by
 refine can_fn (k:=3) D scSent (fun vs H Q E h=>?_) (fun f cdv A outer s H vs Q E hr h=>?_)
 all_goals
  unfold spSent at h
  split at h
 ·rfl
 ·exact h.elim
 ·rename_i cv st t
  obtain ⟨k,n,rows,s0,ls,hc,ok,rfl,hs0,ht,hlen,hls,q⟩:=h
  have nd:=scSent.nd
  obtain ⟨a,b,ss,rfl,ha,hb,hss⟩:=code_inv hc
  refine ⟨_,(by walk_at "T.top"),?_⟩
  have hn:(ni ls).length=ls.length:=by unfold ni;simp
  refine ⟨_,gt ha (by decide) rfl,?_⟩
  refine ⟨k,rfl,.inr ⟨t,_,_,rfl,ht,dvs_ints (ni ls),by rw [List.length_map];omega,fun H1 s1=>?_⟩⟩
  rw [show ((ni ls).map V.int).all (ltV k)=true from all_lt hls]
  refine iteF ?_
  refine ⟨Nat.zero_le _,fun wl hwl=>?_⟩
  have s2:∀ o,Same H (upd H1 wl o):=fun o=>s1.trans (Same.upd hwl)
  refine ⟨⟨_,SqL.of (s2 _ _ _ ht)⟩,for_by (it_list _ t ((ni ls).map V.int)) (fun i σ H2=>(∃ v4 v5,σ=[some (.ref a),some (.int ((Om.send rows s0 (ls.take i)).2:Nat)),some (.ref t),some (.ref wl),v4,v5])/\H2=upd H1 wl (.lst ((Om.words rows s0 (ls.take i)).map fun w=>V.str (bs w)))/\(Om.send rows s0 (ls.take i)).2 < rows.length)
   ⟨⟨none,none,rfl⟩,rfl,hs0⟩ (fun i σ H2 _ ⟨_,e,_⟩=>SqL.of (by rw [e];exact s2 _ _ _ ht)) ?_ ?_⟩
  ·rintro i x σ H2 hi hx ⟨⟨v4,v5,rfl⟩,rfl,hlt⟩
   rw [List.getElem?_map,ni,List.getElem?_map] at hx
   obtain ⟨n',hn',rfl⟩:=Option.map_eq_some_iff.mp hx
   obtain ⟨l,hl,rfl⟩:=Option.map_eq_some_iff.mp hn'
   obtain ⟨st,e1,e2,e3,e4⟩:=Om.step_get ok hlt (hls l (List.mem_of_getElem? hl))
   obtain ⟨p,rs,f1,f2,f3⟩:=state_at hss e1
   obtain ⟨r,f4,f5⟩:=row_at f3 e2
   refine ⟨_,gt (s2 _ _ _ ha) (by decide) rfl,_,gl (s2 _ _ _ hb) (by omega) (by simpa using f1),_,gl (s2 _ _ _ f2) (by omega) (by simpa using f4),?_⟩
   refine ⟨⟨_,rfl,upd_same⟩,?_⟩
   refine ⟨_,gt (s2 _ _ _ f5) (by decide) rfl,_,upd_same,?_,?_⟩
   ·rw [List.length_map,Om.words_len,List.length_take];exact lt_line (by omega)
   refine ⟨_,gt (by rw [upd_upd];exact s2 _ _ _ f5) (by decide) rfl,?_⟩
   have ti:ls.take (i+1)=ls.take i++[l]:=by rw [List.take_add_one,hl];rfl
   refine ⟨⟨some (.int l),some (.ref r),?_⟩,?_,?_⟩
   ·rw [ti,Om.send_snoc];rfl
   ·rw [upd_upd,ti,Om.words_snoc,List.map_append];rfl
   ·rw [ti,Om.send_snoc];exact e4
  ·rintro σ H2 ⟨⟨v4,v5,rfl⟩,rfl,hlt⟩
   have tl:ls.take ((ni ls).map V.int).length=ls:=List.take_of_length_le (by rw [List.length_map,hn];exact Nat.le_refl _)
   rw [tl]
   have ws:(Om.words rows s0 ls).map (fun w=>V.str (bs w))=((Om.words rows s0 ls).map bs).map V.str:=by rw [List.map_map];rfl
   refine ⟨rfl,(Om.words rows s0 ls).map bs,by rw [upd_same,ws],?_,?_⟩
   ·have h1:(((Om.words rows s0 ls).map bs).map (·.length)).sum=((Om.words rows s0 ls).flatten).length:=by
     rw [List.length_flatten,List.map_map]
     congr 1
     apply List.map_congr_left
     intro x _
     exact bs_len x
    have h2:((Om.words rows s0 ls).flatten).length<=4500:=by
     rw [Om.words_flat,(Om.send_ok ok ls s0 hs0 hls).1]
     have h6:=ok.n6
     calc n * ls.length<=6 * 750:=Nat.mul_le_mul h6 hlen
      _<=4500:=by decide
    have h3:(("" : Str)).length=0:=by decide +kernel
    rw [h1,h3]
    omega
   refine ⟨le_line (Nat.le_of_ble_eq_true rfl),fun p hp=>?_⟩
   refine q p _ ((s2 _).trans (Same.upd hp)) ?_
   rw [upd_same,bs_join,Om.words_flat]
 ·exact h.elim
end
end K66
end
section
namespace K66
open PySem L2
section
variable {P:Program} {w:World} {K:PySem.W.Frag} {mg:Str->Option Value} {base:Heap}
abbrev sLetterOf:Stmt:=top 35
def spLetterOf:Sp:=fun vs H Q _=>match vs with
 | [.ref b]=>∃ c:List Int,H b=some (.lst (c.map V.int))/\Q (.int (Om.letterOf c)) H
 | _=>False
theorem scLetterOf:FnScope ["bits","letter","bit"] ["bits"] (defScope sLetterOf):=⟨rfl,rfl,rfl,by decide +kernel,rfl,by decide +kernel,by decide +kernel⟩
theorem ok_letterOf (D:FnX K mg "letter_of" sLetterOf ["bits"]):Can P w K mg base "letter_of" 1 ["bits"] spLetterOf:=by
 refine can_fn (k:=0) D scLetterOf (fun vs H Q E h=>?_) (fun f cdv A outer s H vs Q E hr h=>?_)
 all_goals
  unfold spLetterOf at h
  split at h
 ·rfl
 ·exact h.elim
 ·rename_i b
  obtain ⟨c,hb,q⟩:=h
  have nd:=scLetterOf.nd
  refine ⟨_,(by walk_at "T.top"),?_⟩
  refine ⟨⟨_,SqL.of hb⟩,for_by (it_list _ b (c.map V.int)) (fun i σ H2=>H2=H/\∃ v,σ=[some (.ref b),some (.int (Om.letterOf (c.take i))),v]) ⟨rfl,none,rfl⟩ (fun i σ H2 _ ⟨e,_⟩=>SqL.of (e.symm ▸ hb)) ?_ ?_⟩
  ·rintro i x σ H2 hi hx ⟨rfl,v,rfl⟩
   rw [List.getElem?_map] at hx
   obtain ⟨n,hn,rfl⟩:=Option.map_eq_some_iff.mp hx
   refine ⟨.inl ⟨by decide,by decide⟩,⟨rfl,some (.int n),?_⟩⟩
   have e:Om.letterOf (c.take (i+1))=2 * Om.letterOf (c.take i)+n:=by
    unfold Om.letterOf
    rw [List.take_add_one,hn]
    simp
   rw [e]
   rfl
  ·rintro σ H2 ⟨rfl,v,rfl⟩
   rw [List.length_map,List.take_length]
   exact q
 ·exact h.elim
end
section
variable {P:Program} {w:World} {K:PySem.W.Frag} {mg:Str->Option Value} {base:Heap}
abbrev sLetters:Stmt:=top 34
def spLetters:Sp:=fun vs H Q _=>match vs with
 | [.int k,.ref b]=>∃ (j:Nat) (cs:List (List Int)),k=(j:Int)/\(j=1\/j=2\/j=3)/\H b=some (.lst (cs.flatten.map V.int))/\(∀ c∈cs,c.length=j)/\cs.length<=100/\(∀ c∈cs,∀ b∈c,Om.Bit b) ∧
    ∀ p H',Same H H'->H p=none->H' p=some (.lst ((cs.map Om.letterOf).map V.int))->Q (.ref p) H'
 | _=>False
theorem scLetters:FnScope ["k","bits"] ["k","bits"] (defScope sLetters):=⟨rfl,rfl,rfl,by decide +kernel,rfl,by decide +kernel,by decide +kernel⟩
local macro_rules | `(tactic| walk_at "T.c")=>`(tactic| (have ndc:(["bit"]:List Str).Nodup:=(by decide +kernel));((with_reducible refine' c_comp ["bit"] [] ?b1 ?b2 (fun cl C s H fp=>?b3) (fun cl C s H fp=>?b4) (fun cl C s H fp=>?b5));(case b1=>exact ndc);(case b2=>walk_at "T.i");(case b3=>walk_at "T.g");(case b4=>walk_at "T.pf");(case b5=>walk_at "T.e")))
local macro_rules | `(tactic| walk_at "T.c")=>`(tactic| (have ndc:(["place","bits","k"]:List Str).Nodup:=(by decide +kernel));((with_reducible refine' c_comp ["place","bits","k"] [1,0] ?b1 ?b2 (fun cl C s H fp=>?b3) (fun cl C s H fp=>?b4) (fun cl C s H fp=>?b5));(case b1=>exact ndc);(case b2=>walk_at "T.i");(case b3=>walk_at "T.g");(case b4=>walk_at "T.pf");(case b5=>walk_at "T.e")))
theorem ok_letters (D:FnX K mg "letters" sLetters ["k","bits"]) (g1:mg "isinstance" = none) (g2:mg "list" = none) (g3:mg "all" = none) (g4:mg "len" = none) (g5:mg "range" = none)
  (c1:Can P w K mg base "is_within" 2 ["thing","least","greatest"] spWithinD) (c2:Can P w K mg base "letter_of" 1 ["bits"] spLetterOf):Can P w K mg base "letters" 3 ["k","bits"] spLetters:=by
 refine can_fn (k:=2) D scLetters (fun vs H Q E h=>?_) (fun f cdv A outer s H vs Q E hr h=>?_)
 all_goals
  unfold spLetters at h
  split at h
 ·rfl
 ·exact h.elim
 ·rename_i k b
  obtain ⟨j,cs,rfl,hj,hb,hc,hlen,hbit,q⟩:=h
  have nd:=scLetters.nd
  have j3:1<=j/\j<=3:=Or.elim hj (fun e=>by rw [e];decide) fun z=>Or.elim z (fun e=>by rw [e];decide) fun e=>by rw [e];decide
  refine ⟨_,(by walk_at "T.top"),?_⟩
  have fl:cs.flatten.length=cs.length * j:=Om.flat_len cs hc
  have fl3:cs.flatten.length<=300:=by
   rw [fl]
   calc cs.length * j<=100 * 3:=Nat.mul_le_mul hlen j3.2
    _<=300:=by decide
  refine ⟨"list",(by simp [tyN,hb]),by decide,?_⟩
  refine iteQ (by decide) ?_
  refine ⟨⟨_,SqL.of hb⟩,fun D1 hD1=>?_⟩
  refine comp_map1 (it_list _ b (cs.flatten.map V.int)) (fun _=>.bl true) (by rw [List.length_map];exact le_line (by omega)) (fun o=>SqL.upd hb hD1) (fun i x ys hx C c=>?_) ?_
  ·rw [List.getElem?_map] at hx
   obtain ⟨n,hn,rfl⟩:=Option.map_eq_some_iff.mp hx
   obtain ⟨c',hc',hn'⟩:=List.mem_flatten.mp (List.mem_of_getElem? hn)
   have e:(decide ((0:Int)<=n) && decide (n<=1))=true:=by rcases hbit c' hc' n hn' with rfl | rfl<;>decide
   refine ⟨_,.int n,?_⟩
   show C (.bl (decide ((0:Int)<=n) && decide (n<=1))) _
   rw [e]
   exact c
  refine ⟨(cs.flatten.map V.int).map fun _=>true,by rw [upd_same];exact congrArg (fun l=>some (HO.lst l)) (all_true _),?_⟩
  rw [all_id 0 (by simp)]
  have s1:Same H (upd H D1 (HO.lst ((cs.flatten.map V.int).map fun _=>V.bl true))):=Same.upd hD1
  generalize upd H D1 (HO.lst ((cs.flatten.map V.int).map fun _=>V.bl true))=H1 at s1 ⊢
  refine ⟨_,s1 _ _ hb,ite2 (fun h1=>?_) (fun h1=>?_)⟩
  ·have e:cs.flatten=[]:=by simpa using h1
   have e0:cs=[]:=by
    cases cs with
    | nil=>rfl
    | cons c r=>
     have:=hc c List.mem_cons_self
     rw [List.flatten_cons,List.append_eq_nil_iff] at e
     rw [e.1] at this
     simp at this
     omega
   subst e0
   exact ⟨Nat.zero_le _,fun p hp=>q p _ (s1.trans (Same.upd hp)) (s1.free hp) upd_same⟩
  ·have hm:1<=cs.length:=by
    cases cs with
    | nil=>simp at h1
    | cons c r=>simp
   have hmod:((((cs.flatten.map V.int).length:Nat):Int) % (j:Int))=0:=by
    rw [List.length_map,fl]
    push_cast
    exact Int.mul_emod_left _ _
   dsimp only [tSeq,tIfS,tNext]
   refine tOr_by (c1:=false) (c2:=false) (fun Q q=>?_) (fun _ Q q=>⟨_,lenL (s1 _ _ hb),(by omega:(0:Int) < (j:Int)),?_⟩) ?_
   ·show Q (decide ((j:Int) < 1)) H1
    rw [decide_eq_false (by omega)]
    exact q
   ·show Q (!decide (((((cs.flatten.map V.int).length:Nat):Int) % (j:Int))=0)) H1
    rw [decide_eq_true hmod]
    exact q
   refine iteF ?_
   have rs:(Builtin.Range.rangeSize 0 (((cs.flatten.map V.int).length:Nat):Int) (j:Int)).toNat=cs.length:=by
    unfold Builtin.Range.rangeSize
    have hL:(0:Int) < (((cs.flatten.map V.int).length:Nat):Int):=by rw [List.length_map,fl];have:0 < cs.length * j:=Nat.mul_pos hm j3.1;omega
    rw [if_pos (by omega),if_pos hL,List.length_map,fl]
    push_cast
    rcases hj with rfl | rfl | rfl<;>omega
   have hLb:(((cs.flatten.map V.int).length:Nat):Int)<=300:=by rw [List.length_map];omega
   refine ⟨_,lenL (s1 _ _ hb),⟨by omega,by omega,by omega,by omega,by omega,by omega,by omega⟩,fun D2 hD2=>?_⟩
   rw [rs]
   have nD2:H D2=none:=s1.free hD2
   refine comp_by (it_rangeS 0 (j:Int) cs.length) (fun i τ H2 ys=>(∃ v,τ=[v,some (.ref b),some (.int j)])/\Same H H2/\H2 D2=some (.lst ys)/\ys=((cs.take i).map Om.letterOf).map V.int/\i<=cs.length) (by simp;exact le_line (by omega)) ⟨⟨none,rfl⟩,s1.trans (Same.upd hD2),upd_same,rfl,Nat.zero_le _⟩ ?_ ?_ ?_
   ·rintro i τ H2 ys hi ⟨_,_,h2,rfl,_⟩
    refine ⟨trivial,h2,by simp [List.length_take];omega⟩
   ·rintro i x τ H2 ys hi hx ⟨⟨v,rfl⟩,s2,h2,rfl,hi2⟩
    have hi':i < cs.length:=by simpa using hi
    have ex:x = .int (0+(i:Nat) * (j:Int)):=by
     rw [List.getElem?_map,List.getElem?_range hi'] at hx
     exact (Option.some.inj hx).symm
    subst ex
    refine ⟨_,s2 _ _ hb,fun p hp=>?_⟩
    have hc1:cutV (cs.flatten.map V.int) (some (0+(i:Nat) * (j:Int))) (some (0+(i:Nat) * (j:Int)+(j:Int)))=(cs[i]).map V.int:=by
     have e1:(0+(i:Nat) * (j:Int))=((i * j:Nat):Int):=by push_cast;omega
     have e2:(0+(i:Nat) * (j:Int)+(j:Int))=((i * j+j:Nat):Int):=by push_cast;omega
     have e3:i * j+j<=(cs.flatten.map V.int).length:=by
      rw [List.length_map,fl]
      calc i * j+j=(i+1) * j:=by rw [Nat.succ_mul]
       _<=cs.length * j:=Nat.mul_le_mul_right _ hi'
     rw [e2,e1,cut_nat _ _ _ (by omega) e3,<-List.map_drop,<-List.map_take,show i * j+j - i * j=j by omega,Om.cut_get cs i hc hi']
    refine ⟨cs[i],by rw [upd_same,hc1],?_⟩
    have pD:D2≠p:=ne_of_none h2 hp
    have ti:cs.take (i+1)=cs.take i++[cs[i]]:=by rw [List.take_add_one,List.getElem?_eq_getElem hi'];rfl
    refine ⟨by rw [upd_ne pD];exact h2,⟨_,rfl⟩,fun x o e=>?_,upd_same,?_,hi'⟩
    ·rw [upd_ne (ne_of_none e nD2)]
     exact Same.upd hp _ _ (s2 _ _ e)
    ·rw [ti,List.map_append,List.map_append]
     rfl
   ·rintro τ H2 ys ⟨_,s2,h2,rfl,_⟩
    rw [List.length_map,List.length_range,List.take_length] at h2
    exact q _ _ s2 nD2 h2
 ·exact h.elim
end
end K66
end
section
namespace K66
open PySem L2
section
theorem strSub_le (z:Str) (i j:Nat):(PySem.Builtin.Str.strSub z i j).length<=z.length:=by
 show (z.cps.extract i j).size<=z.cps.size
 rw [Array.size_extract]
 omega
theorem splitMax_len (z y:Str) (k:Int):(∀ p∈Txt.splitMax z y k,p.length<=z.length):=by
 unfold Txt.splitMax
 intro p hp
 split at hp
 ·rw [List.mem_singleton.mp hp];exact Nat.le_refl _
 ·split at hp
  ·rw [List.mem_singleton.mp hp];exact Nat.le_refl _
  ·unfold PySem.Builtin.Str.partsBetween at hp
   obtain ⟨⟨i,j⟩,_,rfl⟩:=List.mem_map.mp hp
   exact strSub_le _ _ _
theorem splitMax_num (z:Str) (k:Int) (hk:k<=2) (hz:z.length<=997):(Txt.splitMax z (" " : Str) k).length<=1000:=by
 unfold Txt.splitMax
 split
 ·exact Nat.le_of_ble_eq_true rfl
 ·split
  ·exact Nat.le_of_ble_eq_true rfl
  ·rw [length_partsBetween]
   have:=StrLaws.occ_length_le z (" " : Str) 0 z.length (limitOf z k)
   have l2:limitOf z k<=z.length+2:=by unfold limitOf;split<;>omega
   have l3:=StrLaws.occ_length_le z (" " : Str) 0 z.length (z.length+1)
   omega
def smallS:Str:= "abcdefghijklmnopqrstuvwxyz"
def nameOk (z:Str):Bool:=decide ((1:Int)<=(z.length:Int)) && decide ((z.length:Int)<=8) && decide (Txt.stripChars z smallS=("" : Str))
def signsOk (z:Str):Bool:=!decide (z=("" : Str)) && Om.wordOk (.str z) (z.length:Int)
def lens8:List Str:=["1","2","3","4","5","6","7","8"]
def five:List Str:=["late","still","settle","lean","window"]
def fitsZ (v z:Str):Bool:=if v=("code" : Str) then true else if v=("marks" : Str) then decide (z∈lens8) else decide (v∈(["send","read"]:List Str)) && (decide (z=("-" : Str)) || signsOk z)
def rowGood:List Str->Bool
 | [v,nm]=>nameOk nm && decide (v∈five)
 | [v,nm,x]=>nameOk nm && fitsZ v x
 | _=>false
def wordsZ (z:Str):List Str:=if (spB z).head? = some ("code" : Str) then Txt.splitMax z (" " : Str) 2 else spB z
def TupAt (K:PySem.W.Frag) (mg:Str->Option Value) (x:Str) (a:Addr) (zs:List Str):Prop:=mg x=some (.ref a)/\∀ H,SqT K H a (zs.map V.str)
end
section
variable {P:Program} {w:World} {K:PySem.W.Frag} {mg:Str->Option Value} {base:Heap}
abbrev sName:Stmt:=top 94
def spName:Sp:=fun vs H Q _=>match vs with
 | [.str z]=>z.length<=1000/\Q (.bl (nameOk z)) H
 | _=>False
theorem scName:FnScope ["word"] ["word"] (defScope sName):=⟨rfl,rfl,rfl,by decide +kernel,rfl,by decide +kernel,by decide +kernel⟩
local macro_rules | `(tactic| walk_at "T.ty")=>`(tactic| first | ((with_reducible refine' e_gstr ?a0 ?a9);(case a0=>with_reducible assumption);(case a9=>rfl)) | ((with_reducible refine' e_gint ?a0 ?a9);(case a0=>with_reducible assumption);(case a9=>rfl)))
theorem ok_name (D:FnX K mg "is_name" sName ["word"]) (g1:mg "len" = none) (g2:∃ tk,mg "SMALL_LETTERS" = some (.str smallS tk)) (g3:∃ tk,mg "LONGEST_NAME" = some (.int 8 tk)):Can P w K mg base "is_name" 1 ["word"] spName:=by
 refine can_fn (k:=0) D scName (fun vs H Q E h=>?_) (fun f cdv A outer s H vs Q E hr h=>?_)
 all_goals
  unfold spName at h
  split at h
 ·rfl
 ·exact h.elim
 ·rename_i z
  obtain ⟨hz,q⟩:=h
  have nd:=scName.nd
  refine ⟨_,(by walk_at "T.top1"),?_⟩
  refine ⟨_,lenStr (le_line hz),?_⟩
  unfold nameOk at q
  refine ite2 (fun h1=>?_) (fun h1=>?_)
  ·rw [h1,Bool.true_and] at q
   refine ite2 (fun h2=>?_) (fun h2=>?_)
   ·rw [h2,Bool.true_and] at q
    exact ⟨rfl,le_line hz,q⟩
   ·rw [Bool.eq_false_iff.mpr h2,Bool.false_and] at q
    exact q
  ·rw [Bool.eq_false_iff.mpr h1] at q
   exact q
 ·exact h.elim
end
section
variable {P:Program} {w:World} {K:PySem.W.Frag} {mg:Str->Option Value} {base:Heap}
abbrev sSigns:Stmt:=top 96
def spSigns:Sp:=fun vs H Q _=>match vs with
 | [.str z]=>z.length<=1000/\Q (.bl (signsOk z)) H
 | _=>False
theorem scSigns:FnScope ["word"] ["word"] (defScope sSigns):=⟨rfl,rfl,rfl,by decide +kernel,rfl,by decide +kernel,by decide +kernel⟩
theorem ok_signs (D:FnX K mg "is_signs" sSigns ["word"]) (g1:mg "len" = none) (c1:Can P w K mg base "is_word" 1 ["thing","n"] spWordD):Can P w K mg base "is_signs" 2 ["word"] spSigns:=by
 refine can_fn (k:=1) D scSigns (fun vs H Q E h=>?_) (fun f cdv A outer s H vs Q E hr h=>?_)
 all_goals
  unfold spSigns at h
  split at h
 ·rfl
 ·exact h.elim
 ·rename_i z
  obtain ⟨hz,q⟩:=h
  have nd:=scSigns.nd
  refine ⟨_,(by walk_at "T.top1"),?_⟩
  unfold signsOk at q
  refine ite2 (fun h1=>?_) (fun h1=>?_)
  ·rw [h1,Bool.true_and] at q
   refine ⟨_,lenStr (le_line hz),?_⟩
   exact ⟨.str z,.str z,by rw [smallD,decide_eq_true_eq];exact hz,q⟩
  ·rw [Bool.eq_false_iff.mpr h1,Bool.false_and] at q
   exact q
 ·exact h.elim
end
section
variable {P:Program} {w:World} {K:PySem.W.Frag} {mg:Str->Option Value} {base:Heap}
abbrev sFits:Stmt:=top 95
def spFits:Sp:=fun vs H Q _=>match vs with
 | [.str v,.str z]=>z.length<=1000/\∀ H',Same H H'->Q (.bl (fitsZ v z)) H'
 | _=>False
theorem scFits:FnScope ["verb","word"] ["verb","word"] (defScope sFits):=⟨rfl,rfl,rfl,by decide +kernel,rfl,by decide +kernel,by decide +kernel⟩
local macro_rules | `(tactic| walk_at "T.ty")=>`(tactic| first | ((with_reducible refine' e_gstr ?a0 ?a9);(case a0=>with_reducible assumption);(case a9=>rfl)) | ((with_reducible refine' e_gref ?a0 ?a9);(case a0=>with_reducible assumption);(case a9=>rfl)))
local macro_rules | `(tactic| walk_at "T.cmp")=>`(tactic| first | (with_reducible exact op_inZ) | ((with_reducible refine' op_eqU ?a1);(case a1=>exact Room.units (by assumption))))
theorem ok_fits {aL:Addr} (D:FnX K mg "fits" sFits ["verb","word"]) (g1:∃ tk,mg "NOTHING" = some (.str "-" tk)) (g2:TupAt K mg "LENGTHS" aL lens8) (c1:Can P w K mg base "is_signs" 2 ["word"] spSigns):Can P w K mg base "fits" 3 ["verb","word"] spFits:=by
 obtain ⟨g3,g4⟩:=g2
 refine can_fn (k:=2) D scFits (fun vs H Q E h=>?_) (fun f cdv A outer s H vs Q E hr h=>?_)
 all_goals
  unfold spFits at h
  split at h
 ·rfl
 ·exact h.elim
 ·rename_i v z
  obtain ⟨hz,q⟩:=h
  have nd:=scFits.nd
  refine ⟨_,(by walk_at "T.top"),?_⟩
  refine ite2 (fun h1=>?_) (fun h1=>?_)
  ·have e:fitsZ v z=true:=by unfold fitsZ;rw [if_pos (of_decide_eq_true h1)]
   rw [e] at q
   exact q _ (Same.refl _)
  have h1:¬ v=("code" : Str):=fun e=>h1 (decide_eq_true e)
  refine ite2 (fun h2=>?_) (fun h2=>?_)
  ·have e:fitsZ v z=decide (z∈lens8):=by unfold fitsZ;rw [if_neg h1,if_pos (of_decide_eq_true h2)]
   rw [e] at q
   exact ⟨lens8,.inr (g4 _),q _ (Same.refl _)⟩
  have h2:¬ v=("marks" : Str):=fun e=>h2 (decide_eq_true e)
  have e:fitsZ v z=(decide (v∈(["send","read"]:List Str)) && (decide (z=("-" : Str)) || signsOk z)):=by unfold fitsZ;rw [if_neg h1,if_neg h2]
  rw [e] at q
  refine ⟨le_line (Nat.le_of_ble_eq_true rfl),fun p hp=>?_⟩
  have s1:=Same.upd (o:=.tup [.str ("send" : Str),.str ("read" : Str)]) hp
  refine ⟨["send","read"],.inr (SqT.of upd_same),?_⟩
  have q:=q _ s1
  refine ite2 (fun h3=>?_) (fun h3=>?_)
  ·rw [h3,Bool.true_and] at q
   refine ite2 (fun h4=>?_) (fun h4=>?_)
   ·rw [h4,Bool.true_or] at q
    exact q
   ·rw [Bool.eq_false_iff.mpr h4,Bool.false_or] at q
    exact ⟨hz,q⟩
  ·rw [Bool.eq_false_iff.mpr h3,Bool.false_and] at q
   exact q
 ·exact h.elim
end
section
variable {P:Program} {w:World} {K:PySem.W.Frag} {mg:Str->Option Value} {base:Heap}
abbrev sAreWords:Stmt:=top 93
def spAreWords:Sp:=fun vs H Q _=>match vs with
 | [.ref l]=>∃ ws:List Str,H l=some (.lst (ws.map V.str))/\ws.length<=1000/\(∀ p∈ws,p.length<=1000)/\∀ H',Same H H'->Q (.bl (rowGood ws)) H'
 | _=>False
theorem scAreWords:FnScope ["words"] ["words"] (defScope sAreWords):=⟨rfl,rfl,rfl,by decide +kernel,rfl,by decide +kernel,by decide +kernel⟩
local macro_rules | `(tactic| walk_at "T.cmp")=>`(tactic| first | (with_reducible exact op_inZ) | (with_reducible exact op_lt.n0) | ((with_reducible refine' op_eqU ?a1);(case a1=>exact Room.units (by assumption))))
theorem ok_areWords (D:FnX K mg "are_words" sAreWords ["words"]) (g1:mg "len" = none) (c1:Can P w K mg base "is_name" 1 ["word"] spName) (c2:Can P w K mg base "fits" 3 ["verb","word"] spFits):Can P w K mg base "are_words" 4 ["words"] spAreWords:=by
 refine can_fn (k:=3) D scAreWords (fun vs H Q E h=>?_) (fun f cdv A outer s H vs Q E hr h=>?_)
 all_goals
  unfold spAreWords at h
  split at h
 ·rfl
 ·exact h.elim
 ·rename_i l
  obtain ⟨ws,hl,hn,hw,q⟩:=h
  have nd:=scAreWords.nd
  refine ⟨_,(by walk_at "T.top"),?_⟩
  refine ⟨_,lenL hl,?_⟩
  rcases ws with _ | ⟨a,_ | ⟨b,r⟩⟩
  ·exact q _ (Same.refl _)
  ·exact q _ (Same.refl _)
  ·have lb:b.length<=1000:=hw b (by simp)
   dsimp only [tC,rN0]
   refine ite2 (fun z=>?_) (fun _=>?_)
   ·exact absurd (of_decide_eq_true z) (by rw [List.length_map,List.length_cons,List.length_cons];omega)
   refine ⟨.str b,gl hl (by decide) rfl,lb,?_⟩
   cases hb:nameOk b with
   | false=>
    have e:rowGood (a :: b :: r)=false:=by
     rcases r with _ | ⟨c,_ | ⟨d,r⟩⟩
     ·show (nameOk b && _)=false
      rw [hb,Bool.false_and]
     ·show (nameOk b && _)=false
      rw [hb,Bool.false_and]
     ·rfl
    rw [e] at q
    exact q _ (Same.refl _)
   | true=>
    rcases r with _ | ⟨c,r⟩
    ·refine ⟨_,lenL hl,?_⟩
     refine ⟨.str a,gl hl (by decide) rfl,?_⟩
     refine ⟨le_line (Nat.le_of_ble_eq_true rfl),fun p hp=>?_⟩
     refine ⟨five,.inr (SqT.of upd_same),?_⟩
     have q:=q _ (Same.upd (o:=.tup (five.map V.str)) hp)
     have e:rowGood [a,b]=decide (a∈five):=by
      show (nameOk b && _)=_
      rw [hb,Bool.true_and]
     rw [e] at q
     exact q
    ·refine ⟨_,lenL hl,?_⟩
     dsimp only [tC,rEqU]
     refine ite2 (fun z=>?_) (fun _=>?_)
     ·exact absurd (of_decide_eq_true z) (by rw [List.length_map,List.length_cons,List.length_cons,List.length_cons];omega)
     refine ⟨_,lenL hl,?_⟩
     dsimp only [tC,rEqU]
     rcases r with _ | ⟨d,r⟩
     ·refine ⟨.str a,gl hl (by decide) rfl,.str c,gl hl (by decide) rfl,hw c (by simp),fun H' s'=>?_⟩
      have q:=q _ s'
      have e:rowGood [a,b,c]=fitsZ a c:=by
       show (nameOk b && _)=_
       rw [hb,Bool.true_and]
      rw [e] at q
      exact q
     ·refine ite2 (fun z=>?_) (fun _=>?_)
      ·exact absurd (of_decide_eq_true z) (by rw [List.length_map,List.length_cons,List.length_cons,List.length_cons,List.length_cons];omega)
      exact q _ (Same.refl _)
 ·exact h.elim
end
section
variable {P:Program} {w:World} {K:PySem.W.Frag} {mg:Str->Option Value} {base:Heap}
abbrev sWordsIn:Stmt:=top 92
def spWordsIn (C0:Addr):Sp:=fun vs H Q E=>match vs with
 | [.str z]=>z.length<=900/\(rowGood (wordsZ z)=false->∀ H',Same H H'->E (.ref C0) none H')/\(rowGood (wordsZ z)=true->∀ l H',Same H H'->H' l=some (.lst ((wordsZ z).map V.str))->Q (.ref l) H')
 | [x]=>∃ T,tyN H x=some T/\T≠"str"/\E (.ref C0) none H
 | _=>False
theorem scWordsIn:FnScope ["row","words"] ["row"] (defScope sWordsIn):=⟨rfl,rfl,rfl,by decide +kernel,rfl,by decide +kernel,by decide +kernel⟩
local macro_rules | `(tactic| walk_at "T.m")=>`(tactic| first | ((with_reducible refine' m_split2 ?a1 ?a2);(case a1=>walk_at "T.e");(case a2=>walk_at "T.a")) | fail "no")
local macro_rules | `(tactic| walk_at "T.st")=>`(tactic| ((with_reducible refine' s_raiseP ?a0 ?a3 ?a6);(case a0=>with_reducible assumption);(case a3=>with_reducible assumption);(case a6=>walk_at "T.a")))
theorem ok_wordsIn {C0:Addr} (D:FnX K mg "words_in" sWordsIn ["row"]) (g1:mg "isinstance" = none) (g2:mg "str" = none) (c1:Can P w K mg base "are_words" 4 ["words"] spAreWords) (Z0:ExnOk K C0) (m0:mg "NoRow" = some (.ref C0)):CanY P w K mg base "words_in" 5 ["row"] (spWordsIn C0):=by
 refine canY_fn (k:=4) D scWordsIn (fun vs H Q E h=>?_) (fun f cdv A outer s H vs Q E hr h=>?_)
 all_goals
  unfold spWordsIn at h
  split at h
 ·rfl
 ·rfl
 ·exact h.elim
 ·rename_i z
  obtain ⟨hz,qe,q⟩:=h
  have nd:=scWordsIn.nd
  refine ⟨_,(by walk_at "T.top"),?_⟩
  refine ⟨"str",rfl,by decide,iteF ?_⟩
  obtain ⟨h1,h2,h3⟩:=spB_len z
  refine ⟨rfl,by decide +kernel,le_line (by omega),fun p1 hp1=>?_⟩
  rw [show Txt.split z (" " : Str)=spB z from rfl]
  have u1:=Same.upd (o:=.lst ((spB z).map V.str)) hp1
  have k1:upd H p1 (.lst ((spB z).map V.str)) p1=some (.lst ((spB z).map V.str)):=upd_same
  generalize upd H p1 (.lst ((spB z).map V.str))=H1 at u1 k1 ⊢
  have fin:∀ (l:Addr) (H2:Hp),Same H H2->H2 l=some (.lst ((wordsZ z).map V.str))->(∀ p∈wordsZ z,p.length<=z.length)->(wordsZ z).length<=1000->tSeq (tIfS (tNot (tTru (tCan spAreWords (tCons (tV 1) tNil)))) (tRaise E C0 (tCons (tC (V.str (Str.ofString "there is no such row"))) tNil)) tNext) (tRet (tV 1)) { nx:=fun x H'=>Q V.non H',rt:=Q } [some (.str z),some (.ref l)] H2:=by
   intro l H2 s2 k2 w1 w2
   refine ⟨wordsZ z,k2,w2,fun p hp=>by have:=w1 p hp;omega,fun H3 s3=>?_⟩
   cases e:rowGood (wordsZ z) with
   | false=>exact ⟨by decide,qe e _ (s2.trans s3)⟩
   | true=>exact q e l _ (s2.trans s3) (s3 _ _ k2)
  obtain ⟨x,r,ex⟩:=List.exists_cons_of_ne_nil h1
  refine ⟨.str x,gl k1 (by decide) (by rw [ex];rfl),?_⟩
  refine ite2 (fun e=>?_) (fun e=>?_)
  ·have e:=of_decide_eq_true e
   have ew:wordsZ z=Txt.splitMax z (" " : Str) 2:=by unfold wordsZ;rw [ex,e];exact if_pos rfl
   refine ⟨rfl,by decide,by decide,by decide +kernel,by rw [sizeLine_eq];omega,fun p2 hp2=>?_⟩
   rw [<-ew]
   refine fin p2 _ (u1.trans (Same.upd hp2)) upd_same (by rw [ew];exact splitMax_len z _ 2) ?_
   rw [ew]
   exact splitMax_num z 2 (by decide) (by omega)
  ·have e:¬ x=("code" : Str):=fun z=>e (decide_eq_true z)
   have ew:wordsZ z=spB z:=by unfold wordsZ;rw [ex];exact if_neg (fun z=>e (Option.some.inj z))
   exact fin p1 _ u1 (by rw [ew];exact k1) (by rw [ew];exact h2) (by rw [ew];omega)
 ·rename_i x _
  obtain ⟨T,ht,hne,q⟩:=h
  have nd:=scWordsIn.nd
  refine ⟨_,(by walk_at "T.top"),?_⟩
  refine ⟨T,ht,by decide,?_⟩
  have e:(T == "str" || (T == "bool" && "str" == "int"))=false:=by
   have h1:(T == "str")=false:=beq_false_of_ne hne
   have h2:(("str" : String) == "int")=false:=by decide
   rw [h1,h2,Bool.and_false];rfl
  rw [e]
  exact iteP (by decide) ⟨by decide,q⟩
 ·exact h.elim
end
end K66
end
section
namespace K66
open PySem L2
section
theorem iteT {A B:Prop} (h:A):if true=true then A else B:=h
theorem seq_nx {t u:TS} {D:Ends} {σ:St} {H:Hp} (M:St->Hp->Prop) (h1:∀ σ' H',M σ' H'->u D σ' H') (h2:∀ nx:St->Hp->Prop,(∀ σ' H',M σ' H'->nx σ' H')->t { D with nx:=nx } σ H):tSeq t u D σ H:=h2 (u D) h1
def mOf (st:Stmt) (i:Nat):Stmt:=match st with
 | .ClassDef _ _ _ body _ _ _ _ _ _ _=>body.getD i (.Pass ⟨0,0,0,0⟩)
 | s=>s
def dashZ (z:Str):Str:=if z=("" : Str) then ("-" : Str) else z
theorem dash_cons (b:Bool) (r:List Bool):dashZ (bs (b :: r))=bs (b :: r):=by
 unfold dashZ
 rw [if_neg (fun e=>by have:=congrArg Str.length e;rw [bs_len] at this;rw [show (("" : Str)).length=0 by decide +kernel] at this;cases this)]
theorem dash_no (b:Bool) (r:List Bool):dashZ (bs (b :: r))≠("-" : Str):=by
 rw [dash_cons]
 intro e
 have h:Txt.stripChars (bs (b :: r)) ("01" : Str)=("" : Str):=by rw [strip01,bs_nil]
 rw [e] at h
 revert h
 decide +kernel
def tDead:TE:=fun _ _ _=>False
theorem fn_dead (x:Str) {X:Cx} {p pos:Pos} {es:List Expr}:PE X (.Call (.Name x p) es [] pos) tDead:=fun _ _ _ _ _ _ q=>q.elim
end
section
variable {P:Program} {w:World} {K:PySem.W.Frag} {mg:Str->Option Value} {base:Heap}
abbrev sAnswerWith:Stmt:=top 100
def spSendW:Sp:=fun vs H Q _=>match vs with
 | [cv,.str v,.str z]=>∃ (k n:Nat) (rows:Om.Rows) (bb:List Bool) (cs:List (List Int)) (ls:List Nat),v=("send" : Str)/\DV H cv (codeD k n rows)/\Om.CodeOk k n rows/\z=dashZ (bs bb)/\bb.length<=300/\cs.flatten=bb.map (fun b=>if b=true then (1:Int) else 0)/\(∀ c∈cs,c.length=k)/\cs.map Om.letterOf=ni ls/\(∀ l∈ls,l < 2 ^ k)/\ls.length<=100 ∧
   ∀ H',Same H H'->Q (.str (dashZ (bs (Om.send rows 0 ls).1))) H'
 | _=>False
theorem scAnswerWith:FnScope ["code","verb","word","found","signs","told"] ["code","verb","word"] (defScope sAnswerWith):=⟨rfl,rfl,rfl,by decide +kernel,rfl,by decide +kernel,by decide +kernel⟩
local macro_rules | `(tactic| walk_at "T.b")=>`(tactic| first | ((with_reducible refine' fn_intF ?a0 ?a9 ?a1);(case a0=>with_reducible assumption);(case a9=>rfl);(case a1=>walk_at "T.a")) | (with_reducible exact fn_dead "marks") | (with_reducible exact fn_dead "bits_of") | (with_reducible exact fn_dead "str"))
local macro_rules | `(tactic| walk_at "T.c")=>`(tactic| (have ndc:(["sign"]:List Str).Nodup:=(by decide +kernel));((with_reducible refine' c_comp ["sign"] [] ?b1 ?b2 (fun cl C s H fp=>?b3) (fun cl C s H fp=>?b4) (fun cl C s H fp=>?b5));(case b1=>exact ndc);(case b2=>walk_at "T.i");(case b3=>walk_at "T.g");(case b4=>walk_at "T.pf");(case b5=>walk_at "T.e")))
local macro_rules | `(tactic| walk_at "T.c")=>`(tactic| (have ndc:(["bit"]:List Str).Nodup:=(by decide +kernel));((with_reducible refine' c_comp ["bit"] [] ?b1 ?b2 (fun cl C s H fp=>?b3) (fun cl C s H fp=>?b4) (fun cl C s H fp=>?b5));(case b1=>exact ndc);(case b2=>walk_at "T.i");(case b3=>walk_at "T.g");(case b4=>walk_at "T.pf");(case b5=>walk_at "T.e")))
local macro_rules | `(tactic| walk_at "T.i")=>`(tactic| ((with_reducible refine' pi_txt ?a1);(case a1=>walk_at "T.n")))
local macro_rules | `(tactic| walk_at "T.ty")=>`(tactic| first | ((with_reducible refine' e_gstr ?a0 ?a9);(case a0=>with_reducible assumption);(case a9=>rfl)) | ((with_reducible refine' pe_ifExp ?a1 ?a2 ?a3);(case a1=>walk_at "T.t");(case a2=>walk_at "T.e");(case a3=>walk_at "T.e")))
theorem ok_answerWith (D:FnX K mg "answer_with" sAnswerWith ["code","verb","word"]) (g1:mg "int" = none) (g2:∃ tk,mg "NOTHING" = some (.str "-" tk)) (g3:∃ tk,mg "NONE" = some (.str "none" tk)) (c1:Can P w K mg base "sent" 4 ["code","state","text"] spSent) (c2:Can P w K mg base "letters" 3 ["k","bits"] spLetters):CanY P w K mg base "answer_with" 6 ["code","verb","word"] spSendW:=by
 refine canY_fn (k:=5) D scAnswerWith (fun vs H Q E h=>?_) (fun f cdv A outer s H vs Q E hr h=>?_)
 all_goals
  unfold spSendW at h
  split at h
 ·rfl
 ·exact h.elim
 ·rename_i cv v z
  obtain ⟨k,n,rows,bb,cs,ls,hv,hc,ok,rfl,b300,hb,hk,hl,hls,l100,q⟩:=h
  have nd:=scAnswerWith.nd
  refine ⟨_,(by walk_at "T.top"),?_⟩
  obtain ⟨a,b,ss,rfl,ha,hb2,hss⟩:=code_inv hc
  refine ite2 (fun e=>?_) (fun _=>?_)
  ·have e:=of_decide_eq_true e
   rw [hv] at e
   exact absurd e (by decide +kernel)
  dsimp only [tNext]
  refine seq_nx (fun σ' H'=>σ'=[some (.ref a),some (.str v),some (.str (dashZ (bs bb))),none,some (.str (bs bb)),none]/\H'=H) ?_ ?_
  rotate_left
  ·intro nx hnx
   cases bb with
   | nil=>
    have ez:dashZ (bs [])=("-" : Str):=by decide +kernel
    generalize dashZ (bs [])=zz at ez hnx ⊢
    refine ite2 (fun _=>?_) (fun e=>absurd (decide_eq_true ez) e)
    exact hnx _ _ ⟨by rw [show bs []=("" : Str) by decide +kernel];rfl,rfl⟩
   | cons b0 r=>
    refine if_negP (fun e=>dash_no b0 r (of_decide_eq_true e)) (hnx _ _ ⟨?_,rfl⟩)
    rw [dash_cons]
    rfl
  rintro σ' H' ⟨rfl,rfl⟩
  refine ite2 (fun _=>?_) (fun e=>absurd (decide_eq_true hv) e)
  refine ⟨_,gt ha (by decide) rfl,?_⟩
  refine ⟨bb,rfl,fun D hD=>?_⟩
  refine comp_map1 (it_txt bb) (fun v=>if v = .str (bs [true]) then .int 1 else .int 0) (by rw [List.length_map];exact le_line (by omega)) (fun _=>trivial) (fun i x ys hx C c=>?_) ?_
  ·rw [List.getElem?_map] at hx
   obtain ⟨b,hb,rfl⟩:=Option.map_eq_some_iff.mp hx
   cases b with
   | true=>exact ⟨1,by decide,by decide +kernel,by rw [if_pos rfl] at c;exact c⟩
   | false=>exact ⟨0,by decide,by decide +kernel,by rw [if_neg (by decide +kernel)] at c;exact c⟩
  have em:(bb.map fun b=>V.str (bs [b])).map (fun v=>if v = .str (bs [true]) then V.int 1 else .int 0)=cs.flatten.map V.int:=by
   rw [hb,List.map_map,List.map_map]
   apply List.map_congr_left
   intro x _
   cases x<;>decide +kernel
  rw [em]
  have s1:=Same.upd (o:=.lst (cs.flatten.map V.int)) hD
  have cl:cs.length<=100:=by
   have:=congrArg List.length hl
   rw [List.length_map] at this
   unfold ni at this
   rw [List.length_map] at this
   omega
  refine ⟨k,cs,rfl,by have:=ok.k1;have:=ok.k3;omega,upd_same,hk,cl,?_,fun p H1 s2 np hp=>?_⟩
  ·intro c hcc b hbb
   have:b∈cs.flatten:=List.mem_flatten.mpr ⟨c,hcc,hbb⟩
   rw [hb] at this
   obtain ⟨x,_,rfl⟩:=List.mem_map.mp this
   cases x
   ·exact .inl rfl
   ·exact .inr rfl
  rw [hl] at hp
  refine ⟨k,n,rows,0,ls,(hc.mono s1).mono s2,ok,rfl,ok.s1,hp,by omega,hls,fun p2 H2 s3 hp2=>?_⟩
  refine ⟨_,gt hp2 (by decide) rfl,?_⟩
  have q:=q _ ((s1.trans s2).trans s3)
  dsimp only [gName]
  unfold dashZ at q
  refine ite2 (fun e=>?_) (fun e=>?_)
  ·have e:¬ bs (Om.send rows 0 ls).1=("" : Str):=fun z=>by rw [z] at e;revert e;decide +kernel
   rw [if_neg e] at q
   exact q
  ·have e:bs (Om.send rows 0 ls).1=("" : Str):=by
    cases z:decide (bs (Om.send rows 0 ls).1=("" : Str)) with
    | true=>exact of_decide_eq_true z
    | false=>exact absurd (by rw [z];rfl) e
   rw [if_pos e] at q
   exact q
 ·exact h.elim
end
section
variable {P:Program} {w:World} {K:PySem.W.Frag} {mg:Str->Option Value} {base:Heap}
def spNo:Sp:=fun _ _ _ _=>False
abbrev sAnswer:Stmt:=top 97
theorem scAnswer:FnScope ["code","verb"] ["code","verb"] (defScope sAnswer):=⟨rfl,rfl,rfl,by decide +kernel,rfl,by decide +kernel,by decide +kernel⟩
theorem ok_answer (D:FnX K mg "answer" sAnswer ["code","verb"]):CanY P w K mg base "answer" 6 ["code","verb"] spNo:=canY_fn (k:=5) D scAnswer (fun _ _ _ _ h=>h.elim) (fun _ _ _ _ _ _ _ _ _ _ h=>h.elim)
end
end K66
end
section
namespace K66
open PySem L2
section
variable {P:Program} {w:World} {K:PySem.W.Frag} {mg:Str->Option Value} {base:Heap}
abbrev sDesk:Stmt:=top 91
abbrev sInit:Stmt:=mOf sDesk 0
abbrev sSay:Stmt:=mOf sDesk 1
abbrev sNames:Stmt:=mOf sDesk 2
def DeskA (C:Addr) (H:Hp) (d c:Addr) (kvs:List (Key×V)):Prop:=(∃ dx,H d=some (.ins C dx [("codes",.ref c)]))/\H c=some (.dK kvs)
theorem DeskA.same {C d c:Addr} {H H':Hp} {kvs:List (Key×V)} (h:DeskA C H d c kvs) (s:Same H H'):DeskA C H' d c kvs:=⟨let ⟨dx,e⟩:=h.1;⟨dx,s _ _ e⟩,s _ _ h.2⟩
structure DeskK (K:PySem.W.Frag) (C:Addr):Prop where
 cl:Cls K C
 na:NoAttr K C "codes"
def spInit (C:Addr):Sp:=fun vs H Q _=>match vs with
 | [.ref d]=>∃ dx,H d=some (.ins C dx [])/\∀ c,H c=none->Q .non (upd (upd H c (.dK [])) d (.ins C dx [("codes",.ref c)]))
 | _=>False
theorem scInit:FnScope ["self"] ["self"] (defScope sInit):=⟨rfl,rfl,rfl,by decide +kernel,rfl,by decide +kernel,by decide +kernel⟩
section
local macro_rules | `(tactic| walk_at "T.ty")=>`(tactic| (with_reducible exact pe_dnewK))
local macro_rules | `(tactic| walk_at "T.st")=>`(tactic| ((with_reducible refine' ps_fld ?a1 ?a2 ?a3);(case a1=>walk_at "T.e");(case a2=>walk_at "T.e");(case a3=>kernel_rfl)))
theorem ok_init {C:Addr} (D:MtX K C "__init__" "Desk.__init__" sInit ["self"]) (dk:DeskK K C):CanM0 P w K mg base C "__init__" 1 ["self"] (spInit C):=by
 refine canM0_fn (k:=0) D scInit (fun vs H Q E h=>?_) (fun f cdv A outer s H vs Q E hr h=>?_)
 all_goals
  unfold spInit at h
  split at h
 ·rfl
 ·exact h.elim
 ·rename_i d
  obtain ⟨dx,hd,q⟩:=h
  have nd:=scInit.nd
  refine ⟨_,(by walk_at "T.top1"),?_⟩
  intro c hc
  have cd:c≠d:=fun z=>by rw [z,hd] at hc;cases hc
  exact ⟨d,C,dx,[],rfl,by rw [upd_ne cd.symm];exact hd,dk.cl,dk.na,by decide,q c hc⟩
 ·exact h.elim
end
def spNames (C:Addr):Sp:=fun vs H Q _=>match vs with
 | [.ref d]=>∃ c kvs zs,DeskA C H d c kvs/\kvs.map (fun p=>kV p.1)=zs.map V.str/\zs.length < 64/\∀ l ys,H l=none->ys.Perm zs->PyProof.Rows.sortedS ys=true->Q (.ref l) (upd H l (.lst (ys.map V.str)))
 | _=>False
theorem scNames:FnScope ["self"] ["self"] (defScope sNames):=⟨rfl,rfl,rfl,by decide +kernel,rfl,by decide +kernel,by decide +kernel⟩
section
local macro_rules | `(tactic| walk_at "T.b")=>`(tactic| ((with_reducible refine' fn_sortT ?a0 ?a9 ?a1);(case a0=>with_reducible assumption);(case a9=>rfl);(case a1=>walk_at "T.a")))
local macro_rules | `(tactic| walk_at "T.ty")=>`(tactic| ((with_reducible refine' pe_fld ?a1 ?a2);(case a1=>walk_at "T.e");(case a2=>kernel_rfl)))
theorem ok_names {C:Addr} (D:MtX K C "names" "Desk.names" sNames ["self"]) (g1:mg "sorted" = none) (dk:DeskK K C):CanM0 P w K mg base C "names" 1 ["self"] (spNames C):=by
 refine canM0_fn (k:=0) D scNames (fun vs H Q E h=>?_) (fun f cdv A outer s H vs Q E hr h=>?_)
 all_goals
  unfold spNames at h
  split at h
 ·rfl
 ·exact h.elim
 ·rename_i d
  obtain ⟨c,kvs,zs,⟨⟨dx,hd⟩,hc⟩,ez,z64,q⟩:=h
  have nd:=scNames.nd
  refine ⟨_,(by walk_at "T.top1"),?_⟩
  exact ⟨d,C,dx,_,.ref c,rfl,hd,dk.cl,dk.na,rfl,c,kvs,zs,rfl,.inl hc,ez,z64,q⟩
 ·exact h.elim
end
end
section
variable {P:Program} {w:World} {K:PySem.W.Frag} {mg:Str->Option Value} {base:Heap}
theorem wordsZ_len (z:Str):∀ p∈wordsZ z,p.length<=z.length:=by
 unfold wordsZ
 split
 ·exact splitMax_len z _ 2
 ·exact (spB_len z).2.1
def SayG (A AW:Sp) (CN CT:Addr) (c:Addr) (kvs:List (Key×V)) (H:Hp) (Q:VK) (E:XK):List Str->Prop
 | [v,nm]=>(valV kvs (.inr nm)=none->∀ H',Same H H'->E (.ref CN) none H')/\∀ cv,valV kvs (.inr nm)=some cv->∀ H',Same H H'->A [cv,.str v] H' Q E
 | [v,nm,x]=>(v=("code" : Str)->(Om.codeOk (codeT (spB x))=false->∀ H',Same H H'->E (.ref CT) none H')/\(Om.codeOk (codeT (spB x))=true->∀ cv H',Same H H'->DV H' cv (codeT (spB x))->Q (.str ("ok" : Str)) (upd H' c (.dK (putK kvs (.inr nm) cv))))) ∧
   (v≠("code" : Str)->(valV kvs (.inr nm)=none->∀ H',Same H H'->E (.ref CN) none H')/\∀ cv,valV kvs (.inr nm)=some cv->∀ H',Same H H'->AW [cv,.str v,.str x] H' Q E)
 | _=>False
def spSay (A AW:Sp) (C CR CN CT:Addr):Sp:=fun vs H Q E=>match vs with
 | [.ref d,.str z]=>z.length<=900/\(∃ dx c,H d=some (.ins C dx [("codes",.ref c)]))/\(rowGood (wordsZ z)=false->∀ H',Same H H'->E (.ref CR) none H')/\(rowGood (wordsZ z)=true->∃ c kvs,DeskA C H d c kvs/\kvs.length<=100/\SayG A AW CN CT c kvs H Q E (wordsZ z))
 | [.ref d,x]=>∃ T,tyN H x=some T/\T≠"str"/\E (.ref CR) none H
 | _=>False
theorem scSay:FnScope ["self","row","words","name"] ["self","row"] (defScope sSay):=⟨rfl,rfl,rfl,by decide +kernel,rfl,by decide +kernel,by decide +kernel⟩
local macro_rules | `(tactic| walk_at "T.b")=>`(tactic| first | ((with_reducible refine' fn_canY "words_in" ?a0 ?a1 ?a2);(case a0=>with_reducible assumption);(case a1=>exact Room.mono (by assumption) (by first | decide | exact Nat.le_refl _));(case a2=>walk_at "T.a")) | ((with_reducible refine' fn_canY "read_code" ?a0 ?a1 ?a2);(case a0=>with_reducible assumption);(case a1=>exact Room.mono (by assumption) (by first | decide | exact Nat.le_refl _));(case a2=>walk_at "T.a")) | ((with_reducible refine' fn_canY "answer" ?a0 ?a1 ?a2);(case a0=>with_reducible assumption);(case a1=>exact Room.mono (by assumption) (by first | decide | exact Nat.le_refl _));(case a2=>walk_at "T.a")) | ((with_reducible refine' fn_canY "answer_with" ?a0 ?a1 ?a2);(case a0=>with_reducible assumption);(case a1=>exact Room.mono (by assumption) (by first | decide | exact Nat.le_refl _));(case a2=>walk_at "T.a")) | fail "no")
local macro_rules | `(tactic| walk_at "T.e")=>`(tactic| ((with_reducible refine' ix_atD ?a0 ?a1 ?a2);(case a0=>exact Room.units (by assumption));(case a1=>walk_at "T.e");(case a2=>walk_at "T.e")))
local macro_rules | `(tactic| walk_at "T.g")=>`(tactic| first | walk_at "T.gn" | ((with_reducible refine' g_subD ?a0 ?a1 ?a2);(case a0=>exact Room.units (by assumption));(case a1=>walk_at "T.e");(case a2=>walk_at "T.e")))
local macro_rules | `(tactic| walk_at "T.cmp")=>`(tactic| first | ((with_reducible refine' op_notInDict ?a0);(case a0=>exact Room.units (by assumption))) | ((with_reducible refine' op_eqU ?a1);(case a1=>exact Room.units (by assumption))))
local macro_rules | `(tactic| walk_at "T.ty")=>`(tactic| ((with_reducible refine' pe_fld ?a1 ?a2);(case a1=>walk_at "T.e");(case a2=>kernel_rfl)))
local macro_rules | `(tactic| walk_at "T.st")=>`(tactic| ((with_reducible refine' s_raiseP ?a0 ?a3 ?a6);(case a0=>with_reducible assumption);(case a3=>with_reducible assumption);(case a6=>walk_at "T.a")))
theorem ok_say {A0 AW0:Sp} {C CR CN CT:Addr} (D:MtX K C "say" "Desk.say" sSay ["self","row"]) (g1:mg "len" = none) (dk:DeskK K C) (c1:CanY P w K mg base "words_in" 5 ["row"] (spWordsIn CR)) (c2:CanY P w K mg base "read_code" 6 ["text"] (spRC CT))
  (c3:CanY P w K mg base "answer" 6 ["code","verb"] A0) (c4:CanY P w K mg base "answer_with" 6 ["code","verb","word"] AW0) (Z0:ExnOk K CN) (m0:mg "NoName" = some (.ref CN)):CanM P w K mg base C "say" 7 ["self","row"] (spSay A0 AW0 C CR CN CT):=by
 refine canM_fn (k:=6) D scSay (fun vs H Q E h=>?_) (fun f cdv A outer s H vs Q E hr h=>?_)
 all_goals
  unfold spSay at h
  split at h
 ·rfl
 ·rfl
 ·exact h.elim
 ·rename_i d z
  have nd:=scSay.nd
  refine ⟨_,(by walk_at "T.top"),?_⟩
  obtain ⟨hz,_,qe,q⟩:=h
  refine ⟨hz,fun e H1 s1=>qe e H1 s1,fun e l H1 s1 hl=>?_⟩
  obtain ⟨c,kvs,dk0,k100,g⟩:=q e
  obtain ⟨⟨dx,hd1⟩,hc1⟩:=dk0.same s1
  have hw:∀ p∈wordsZ z,p.length<=z.length:=wordsZ_len z
  generalize wordsZ z=ws at e g hl hw
  rcases ws with _ | ⟨v,_ | ⟨nm,_ | ⟨x,_ | ⟨y,r⟩⟩⟩⟩
  ·cases e
  ·cases e
  ·obtain ⟨g1',g2⟩:=g
   have vc:¬ v=("code" : Str):=fun z=>by
    have e2:(nameOk nm && decide (v∈five))=true:=e
    rw [z,show decide (("code" : Str)∈five)=false by decide +kernel,Bool.and_false] at e2
    cases e2
   refine .inl ⟨.str nm,gl hl (by decide) rfl,?_⟩
   refine .inl ⟨.str v,gl hl (by decide) rfl,?_⟩
   refine ite2 (fun z=>absurd (of_decide_eq_true z) vc) (fun _=>?_)
   refine ⟨d,C,dx,_,.ref c,rfl,hd1,dk.cl,dk.na,rfl,?_⟩
   have gg:DGet H1 c (.str nm) (valV kvs (.inr nm)):=DGet.k (k:=.inr nm) hc1
   refine ⟨c,valV kvs (.inr nm),rfl,gg,?_⟩
   cases ev:valV kvs (.inr nm) with
   | none=>exact iteP rfl ⟨by decide,g1' ev _ s1⟩
   | some cv=>
    rw [ev] at gg
    refine iteF ?_
    refine ⟨_,lenL hl,?_⟩
    refine ⟨d,C,dx,_,.ref c,rfl,hd1,dk.cl,dk.na,rfl,.inr ⟨c,cv,rfl,gg,?_⟩⟩
    refine .inl ⟨.str v,gl hl (by decide) rfl,?_⟩
    exact g2 cv ev _ s1
  ·obtain ⟨ga,gb⟩:=g
   refine .inl ⟨.str nm,gl hl (by decide) rfl,?_⟩
   refine .inl ⟨.str v,gl hl (by decide) rfl,?_⟩
   refine ite2 (fun z=>?_) (fun z=>?_)
   ·obtain ⟨ge,gq⟩:=ga (of_decide_eq_true z)
    refine .inl ⟨.str x,gl hl (by decide) rfl,?_⟩
    refine ⟨by have:=hw x (by simp);omega,fun e2 H2 s2=>ge e2 _ (s1.trans s2),fun e2 cv H2 s2 dv=>?_⟩
    refine ⟨d,C,dx,_,.ref c,rfl,s2 _ _ hd1,dk.cl,dk.na,rfl,?_⟩
    exact .inr ⟨c,_,rfl,DPut.k (k:=.inr nm) (s2 _ _ hc1) (lt_line (by omega)),gq e2 cv _ (s1.trans s2) dv⟩
   ·obtain ⟨g1',g2⟩:=gb (fun e=>z (decide_eq_true e))
    refine ⟨d,C,dx,_,.ref c,rfl,hd1,dk.cl,dk.na,rfl,?_⟩
    have gg:DGet H1 c (.str nm) (valV kvs (.inr nm)):=DGet.k (k:=.inr nm) hc1
    refine ⟨c,valV kvs (.inr nm),rfl,gg,?_⟩
    cases ev:valV kvs (.inr nm) with
    | none=>exact iteP rfl ⟨by decide,g1' ev _ s1⟩
    | some cv=>
     rw [ev] at gg
     refine iteF ?_
     refine ⟨_,lenL hl,?_⟩
     refine ⟨d,C,dx,_,.ref c,rfl,hd1,dk.cl,dk.na,rfl,.inr ⟨c,cv,rfl,gg,?_⟩⟩
     refine .inl ⟨.str v,gl hl (by decide) rfl,.inl ⟨.str x,gl hl (by decide) rfl,?_⟩⟩
     exact g2 cv ev _ s1
  ·cases e
 ·rename_i d x _
  have nd:=scSay.nd
  refine ⟨_,(by walk_at "T.top"),?_⟩
  obtain ⟨T,ht,hne,q⟩:=h
  cases x with
  | str z=>exact absurd (Option.some.inj ht) (fun z=>hne z.symm)
  | _=>exact ⟨T,ht,hne,q⟩
 ·exact h.elim
end
end K66
end
section
namespace K66
open PySem L2
section
variable {P:Program} {w:World} {K:PySem.W.Frag} {mg:Str->Option Value} {base:Heap}
def kindZ (m:Nat):Str:=if m=6 then "row" else if m=5 then "name" else if m=4 then "text" else if m=0 then "letter" else "code"
section
variable {K':PySem.W.Frag} {C x D:Addr} {H:Hp} {N:Ends} {b:Bool} {z s:Str} {m:Nat}
def addB (b:Bool) (s z:Str):Str:=if b=true then z++s else z
theorem ifAdd (Z:PySem.W.ExCls K' C) (hx:H x=some (ExcD x (.ref C) none)) (k:PySem.W.kitOne K' (.ref C) (.ref D)=some b) (hz:z.length+s.length<=sizeLine) (q:N.nx [some (.ref x),some (.str (addB b s z))] H) :
  tIfS (tTru (tCB (rIsY K') (tCons (tV 0) (tCons (tC (.ref D)) tNil)))) (tAsg (tOp rAddU (tV 1) (tC (.str s))) (gName 1)) tNext N [some (.ref x),some (.str z)] H:=by
 refine ⟨C,_,b,Z,hx,.inl k,?_⟩
 cases b with
 | true=>exact ⟨hz,q⟩
 | false=>exact q
end
abbrev sClass:Stmt:=top 106
def spClass (K:PySem.W.Frag) (mg:Str->Option Value):Sp:=fun vs H Q _=>match vs with
 | [.ref x]=>∃ C m,KindsOf K mg C m/\(m=0\/m=1\/m=4\/m=5\/m=6)/\H x=some (ExcD x (.ref C) none)/\∀ H',Same H H'->Q (.str (kindZ m)) H'
 | _=>False
theorem scClass:FnScope ["e","word"] ["e"] (defScope sClass):=⟨rfl,rfl,rfl,by decide +kernel,rfl,by decide +kernel,by decide +kernel⟩
local macro_rules | `(tactic| walk_at "T.b")=>`(tactic| first | ((with_reducible refine' fn_isY ?a0 ?a9 ?a1);(case a0=>with_reducible assumption);(case a9=>rfl);(case a1=>walk_at "T.a")) | fail "no")
local macro_rules | `(tactic| walk_at "T.e")=>`(tactic| first | ((with_reducible refine' e_clsX "NoLetter" ?a0 ?a9);(case a0=>with_reducible assumption);(case a9=>rfl)) | ((with_reducible refine' e_clsX "NoCode" ?a0 ?a9);(case a0=>with_reducible assumption);(case a9=>rfl)) | ((with_reducible refine' e_clsX "NoWindow" ?a0 ?a9);(case a0=>with_reducible assumption);(case a9=>rfl)) | ((with_reducible refine' e_clsX "NoMark" ?a0 ?a9);(case a0=>with_reducible assumption);(case a9=>rfl)) | ((with_reducible refine' e_clsX "NoText" ?a0 ?a9);(case a0=>with_reducible assumption);(case a9=>rfl)) | ((with_reducible refine' e_clsX "NoName" ?a0 ?a9);(case a0=>with_reducible assumption);(case a9=>rfl)) | ((with_reducible refine' e_clsX "NoRow" ?a0 ?a9);(case a0=>with_reducible assumption);(case a9=>rfl)) | ((with_reducible refine' e_clsX "NoWire" ?a0 ?a9);(case a0=>with_reducible assumption);(case a9=>rfl)) | ((with_reducible refine' e_tyVE ?a0 ?a9);(case a0=>with_reducible assumption);(case a9=>rfl)))
theorem ok_class {C0:Addr} {m0':Nat} (D:FnX K mg "_law_class" sClass ["e"]) (g1:mg "isinstance" = none) (g3:mg "ValueError" = none) (K0:KindsOf K mg C0 m0'):CanH P w K mg base "_law_class" 1 ["e"] (spClass K mg):=by
 obtain ⟨D0,m0,_⟩:=K0.k0
 obtain ⟨D1,m1,_⟩:=K0.k1
 obtain ⟨D2,m2,_⟩:=K0.k2
 obtain ⟨D3,m3,_⟩:=K0.k3
 obtain ⟨D4,m4,_⟩:=K0.k4
 obtain ⟨D5,m5,_⟩:=K0.k5
 obtain ⟨D6,m6,_⟩:=K0.k6
 obtain ⟨D7,m7,_⟩:=K0.k7
 refine canH_fn (k:=0) D scClass (fun vs H Q E h=>?_) (fun yy f cdv A outer s H vs Q hr h=>?_)
 all_goals
  unfold spClass at h
  split at h
 ·rfl
 ·exact h.elim
 ·rename_i x
  have nd:=scClass.nd
  refine ⟨_,(by walk_at "T.top"),?_⟩
  obtain ⟨C,m,K1,hm,hx,q⟩:=h
  clear K0
  have hz:PySem.W.ExCls K C:=K1.z
  refine ⟨C,_,true,K1.z,hx,K1.k8,iteF ?_⟩
  have ka:PySem.W.kitAny K (.ref C) ([D2,D3].map Value.ref)=some false:=by
   simp only [List.map_cons,List.map_nil,PySem.W.kitAny,K1.k2.at m2,K1.k3.at m3]
   rcases hm with rfl | rfl | rfl | rfl | rfl<;>rfl
  have l0:∀ (m j:Nat) (z s:Str),z.length<=100->s.length<=10->(addB (decide (j=m)) s z).length<=z.length+10:=fun m j z s h1 h2=>by
   unfold addB
   split
   ·show (z.cps++s.cps).size<=_
    rw [Array.size_append]
    exact Nat.add_le_add_left h2 _
   ·omega
  dsimp only [gName]
  have z0:((("" : Str)).length)<=0:=by decide +kernel
  refine ifAdd K1.z hx (K1.k6.at m6) (le_line (by rw [show (("row" : Str)).length=3 by decide +kernel];omega)) ?_
  have z1:=l0 m 6 _ ("row" : Str) (Nat.le_trans z0 (by decide)) (by decide +kernel)
  refine ifAdd K1.z hx (K1.k5.at m5) (le_line (by rw [show (("name" : Str)).length=4 by decide +kernel];omega)) ?_
  have z2:=l0 m 5 _ ("name" : Str) (Nat.le_trans z1 (by omega)) (by decide +kernel)
  refine ifAdd K1.z hx (K1.k4.at m4) (le_line (by rw [show (("text" : Str)).length=4 by decide +kernel];omega)) ?_
  have z3:=l0 m 4 _ ("text" : Str) (Nat.le_trans z2 (by omega)) (by decide +kernel)
  refine ifAdd K1.z hx (K1.k0.at m0) (le_line (by rw [show (("letter" : Str)).length=6 by decide +kernel];omega)) ?_
  have z4:=l0 m 0 _ ("letter" : Str) (Nat.le_trans z3 (by omega)) (by decide +kernel)
  refine ifAdd K1.z hx (K1.k1.at m1) (le_line (by rw [show (("code" : Str)).length=4 by decide +kernel];omega)) ?_
  have z5:=l0 m 1 _ ("code" : Str) (Nat.le_trans z4 (by omega)) (by decide +kernel)
  refine ifAdd K1.z hx (K1.k7.at m7) (le_line (by rw [show (("wire" : Str)).length=4 by decide +kernel];omega)) ?_
  clear z0 z1 z2 z3 z4 z5
  have ez:addB (decide (7=m)) ("wire" : Str) (addB (decide (1=m)) ("code" : Str) (addB (decide (0=m)) ("letter" : Str) (addB (decide (4=m)) ("text" : Str) (addB (decide (5=m)) ("name" : Str) (addB (decide (6=m)) ("row" : Str) ("" : Str))))))=kindZ m:=by
   rcases hm with rfl | rfl | rfl | rfl | rfl<;>decide +kernel
  rw [ez]
  refine ⟨le_line (Nat.le_of_ble_eq_true rfl),fun t ht=>?_⟩
  exact ⟨C,_,false,K1.z,Same.upd ht _ _ hx,.inr ⟨[D2,D3],upd_same,ka⟩,q _ (Same.upd ht)⟩
 ·exact h.elim
end
section
def plOf (o:Expr) (env:Env):Sem Bool:=do return (<-importBound o env).getD true
variable {X:Cx} {p pos apos epos:Pos} {e o:Expr} {es:List Expr} {t:TA} {ta:TE} {k:Nat} {ps:List Str} {sp:Sp} {C:Addr} {P':Program} {w':World} {K':PySem.W.Frag} {mg':Str->Option Value} {base':Heap}
theorem e_metK (m:Str) (M:CanM P' w' K' mg' base' C m k ps sp) (c:Cls K' C) (hX:X.prog=P'/\X.w=w'/\X.K=K'/\X.mg=mg'/\X.base=base') (hr:Room k X.A) (he:PE X o ta) (ha:PA X (e :: es) t)
  (hst:starEach (e :: es) X.env=(false,eval e X.env) :: starEach es X.env:=by kernel_rfl) (hpl:(backTo pos (starEach es X.env)).any (·.1)=false:=by kernel_rfl)
  (ht:eval (.Call (.Attribute o m apos) (e :: es) [] pos) X.env=(do
   let ov <-eval o X.env
   standAt apos.atName
   let (f,first) <-holding [ov] (getMethod ov m (plOf o X.env))
   callWith pos f first (backTo pos (starEach (e :: es) X.env)) (backToKw pos (keywordEach [] X.env))):=by kernel_rfl):PE X (.Call (.Attribute o m apos) (e :: es) [] pos) (tMet C m sp ta t):=e_met m M c hX hr he ha hst hpl ht
theorem e_metK0 (m:Str) (M:CanM0 P' w' K' mg' base' C m k ps sp) (c:Cls K' C) (hX:X.prog=P'/\X.w=w'/\X.K=K'/\X.mg=mg'/\X.base=base') (hr:Room k X.A) (he:PE X o ta)
  (ht:eval (.Call (.Attribute o m apos) [] [] pos) X.env=(do
   let ov <-eval o X.env
   standAt apos.atName
   let (f,first) <-holding [ov] (getMethod ov m (plOf o X.env))
   callWith pos f first (backTo pos (starEach [] X.env)) (backToKw pos (keywordEach [] X.env))):=by kernel_rfl):PE X (.Call (.Attribute o m apos) [] [] pos) (tMet C m sp ta tNil):=e_met0 m M c hX hr he ht
theorem pb_metK (m:Str) (M:CanM P' w' K' mg' base' C m k ps sp) (c:Cls K' C) (hX:X.prog=P'/\X.w=w'/\X.K=K'/\X.mg=mg'/\X.base=base') (hr:Room k X.A) (ho:PE X.nox o ta) (ha:PA X.nox (e :: es) t)
  (he:starEach (e :: es) X.env=(false,eval e X.env) :: starEach es X.env:=by kernel_rfl) (hpl:(backTo pos (starEach es X.env)).any (·.1)=false:=by kernel_rfl)
  (hs:swapsWith (.Call (.Attribute o m apos) (e :: es) [] pos) none epos.line X.env=pure false:=by kernel_rfl)
  (ht:eval (.Call (.Attribute o m apos) (e :: es) [] pos) X.env=(do
   let ov <-eval o X.env
   standAt apos.atName
   let (f,first) <-holding [ov] (getMethod ov m (plOf o X.env))
   callWith pos f first (backTo pos (starEach (e :: es) X.env)) (backToKw pos (keywordEach [] X.env))):=by kernel_rfl):PB2 X [.Expr (.Call (.Attribute o m apos) (e :: es) [] pos) epos] (tMetB C m sp ta t):=pb_met m M c hX hr ho ha he hpl hs ht
end
section
variable {P:Program} {w:World} {K:PySem.W.Frag} {mg:Str->Option Value} {base:Heap}
def SpMono (sp:Sp):Prop:=∀ ⦃vs:List V⦄ ⦃H:Hp⦄ ⦃Q Q':VK⦄ ⦃E E':XK⦄,(∀ v H',Q v H'->Q' v H')->(∀ c dd H',E c dd H'->E' c dd H')->sp vs H Q E->sp vs H Q' E'
theorem spSendW_mono:SpMono spSendW:=by
 intro vs H Q Q' E E' hQ hE h
 unfold spSendW at *
 split at h
 ·obtain ⟨k,n,rows,bb,cs,ls,hv,hc,ok,hz,b300,hb,hk,hl,hls,l100,q⟩:=h
  exact ⟨k,n,rows,bb,cs,ls,hv,hc,ok,hz,b300,hb,hk,hl,hls,l100,fun H' s=>hQ _ _ (q H' s)⟩
 ·exact h.elim
theorem spNo_mono:SpMono spNo:=fun _ _ _ _ _ _ _ _ h=>h
theorem sayG_mono {A AW:Sp} (hA:SpMono A) (hW:SpMono AW) {CN CT c:Addr} {kvs:List (Key×V)} {H:Hp} {Q Q':VK} {E E':XK} {ws:List Str} (hQ:∀ v H',Q v H'->Q' v H') (hE:∀ c dd H',E c dd H'->E' c dd H') (h:SayG A AW CN CT c kvs H Q E ws):SayG A AW CN CT c kvs H Q' E' ws:=by
 unfold SayG at *
 split at h
 ·exact ⟨fun e H' s=>hE _ _ _ (h.1 e H' s),fun cv e H' s=>hA hQ hE (h.2 cv e H' s)⟩
 ·exact ⟨fun e=>⟨fun e2 H' s=>hE _ _ _ ((h.1 e).1 e2 H' s),fun e2 cv H' s dv=>hQ _ _ ((h.1 e).2 e2 cv H' s dv)⟩,fun e=>⟨fun e2 H' s=>hE _ _ _ ((h.2 e).1 e2 H' s),fun cv e2 H' s=>hW hQ hE ((h.2 e).2 cv e2 H' s)⟩⟩
 ·exact h.elim
theorem spSay_mono {A AW:Sp} (hA:SpMono A) (hW:SpMono AW) {C CR CN CT:Addr}:SpMono (spSay A AW C CR CN CT):=by
 intro vs H Q Q' E E' hQ hE h
 unfold spSay at *
 split at h
 ·obtain ⟨hz,hd,qe,q⟩:=h
  exact ⟨hz,hd,fun e H' s=>hE _ _ _ (qe e H' s),fun e=>let ⟨c,kvs,d,l,g⟩:=q e;⟨c,kvs,d,l,sayG_mono hA hW hQ hE g⟩⟩
 ·obtain ⟨T,ht,hne,q⟩:=h
  exact ⟨T,ht,hne,hE _ _ _ q⟩
 ·exact h.elim
def RefE (K:PySem.W.Frag) (mg:Str->Option Value) (B:Addr) (Q:VK):XK:=fun c dd H'=>∃ C m,c = .ref C/\dd=none/\KindsOf K mg C m/\(m=0\/m=1\/m=4\/m=5\/m=6)/\PySem.W.exmOne K (.ref C) (.ref B)=some true/\∀ H'',Same H' H''->Q (.str (kindZ m)) H''
abbrev sRefd:Stmt:=top 105
def spRefd (K:PySem.W.Frag) (mg:Str->Option Value) (B C:Addr) (sp:Sp):Sp:=fun vs H Q _=>match vs with
 | [.ref d,x]=>∃ dx fs,H d=some (.ins C dx fs)/\fs.lookup ("say" : Str)=none/\sp [.ref d,x] H (fun _ H'=>Q (.str ("" : Str)) H') (RefE K mg B Q)
 | _=>False
theorem scRefd:FnScope ["desk","row","word","e"] ["desk","row"] (defScope sRefd):=⟨rfl,rfl,rfl,by decide +kernel,rfl,by decide +kernel,by decide +kernel⟩
local macro_rules | `(tactic| walk_at "T.b")=>`(tactic| ((with_reducible refine' fn_canH "_law_class" ?a0 ?a9 ?a1 ?a2);(case a0=>with_reducible assumption);(case a9=>exact ⟨rfl,rfl,rfl,rfl,rfl⟩);(case a1=>exact Room.mono (by assumption) (by decide));(case a2=>walk_at "T.a")))
local macro_rules | `(tactic| walk_at "T.pb")=>`(tactic| ((with_reducible refine' pb_metK "say" ?c0 ?c8 ?c9 ?c1 ?c3 ?c2);(case c0=>with_reducible assumption);(case c8=>with_reducible assumption);(case c9=>exact ⟨rfl,rfl,rfl,rfl,rfl⟩);(case c1=>exact Room.mono (by assumption) (by first | decide | exact Nat.le_refl _));(case c3=>walk_at "T.e");(case c2=>walk_at "T.a")))
local macro_rules | `(tactic| walk_at "T.st")=>`(tactic| ((with_reducible refine' s_try2 "BeatError" "e" 3 ?b0 ?b9 ?b1 ?b2 (fun a=>?b3) (hxc:=?bx));(case bx=>with_unfolding_all rfl);(case b0=>with_reducible assumption);(case b9=>rfl);(case b1=>with_unfolding_all assumption);(case b2=>walk_at "T.pb");(case b3=>walk_at "T.s")))
theorem smo {C CR CN CT:Addr}:SpMono (spSay spNo spSendW C CR CN CT):=spSay_mono spNo_mono spSendW_mono
theorem ok_refd {C B:Addr} {sp:Sp} (D:FnX K mg "_law_refused" sRefd ["desk","row"]) (hmo:SpMono sp) (hB:mg "BeatError" = some (.ref B)) (hC:Cls K C) (c1:CanM P w K mg base C "say" 7 ["self","row"] sp) (c2:CanH P w K mg base "_law_class" 1 ["e"] (spClass K mg)):Can P w K mg base "_law_refused" 8 ["desk","row"] (spRefd K mg B C sp):=by
 refine can_fn (k:=7) D scRefd (fun vs H Q E h=>?_) (fun f cdv A outer s H vs Q E hr h=>?_)
 all_goals
  unfold spRefd at h
  split at h
 ·rfl
 ·exact h.elim
 ·rename_i d x
  have nd:=scRefd.nd
  refine ⟨_,(by walk_at "T.top"),?_⟩
  obtain ⟨dx,fs,hd,hl,h⟩:=h
  refine ⟨d,dx,fs,rfl,hd,hl,hmo (fun v H' q=>q) (fun c dd H' q=>?_) h⟩
  obtain ⟨C,m,rfl,rfl,Km,hmm,hx,q⟩:=q
  refine ⟨hx,fun y ny=>?_⟩
  exact ⟨C,m,Km,hmm,upd_same,fun H2 s2=>q H2 ((Same.upd ny).trans s2)⟩
 ·exact h.elim
end
end K66
end
section
namespace K66
open PySem L2
section
variable {P:Program} {w:World} {K:PySem.W.Frag} {mg:Str->Option Value} {base:Heap}
abbrev sCell:Stmt:=top 102
def spCell (K:PySem.W.Frag):Sp:=fun vs H Q _=>match vs with
 | [.ref a,.int k]=>∃ ns:List Int,SqL K H a (ns.map V.int)/\0<=k/\k<=1000/\∀ c,Q (.int c) H
 | _=>False
theorem scCell:FnScope ["script","k"] ["script","k"] (defScope sCell):=⟨rfl,rfl,rfl,by decide +kernel,rfl,by decide +kernel,by decide +kernel⟩
local macro_rules | `(tactic| walk_at "T.b")=>`(tactic| ((with_reducible refine' fn_lenS ?a0 ?a9 ?a1);(case a0=>with_reducible assumption);(case a9=>rfl);(case a1=>walk_at "T.a")))
local macro_rules | `(tactic| walk_at "T.ty")=>`(tactic| ((with_reducible refine' ix_atS ?a1 ?a2);(case a1=>walk_at "T.e");(case a2=>walk_at "T.e")))
theorem ok_cell (D:FnX K mg "_law_cell" sCell ["script","k"]) (g1:mg "len" = none):Can P w K mg base "_law_cell" 1 ["script","k"] (spCell K):=by
 refine can_fn (k:=0) D scCell (fun vs H Q E h=>?_) (fun f cdv A outer s H vs Q E hr h=>?_)
 all_goals
  unfold spCell at h
  split at h
 ·rfl
 ·exact h.elim
 ·rename_i a k
  obtain ⟨ns,hS,h0,h1,q⟩:=h
  have nd:=scCell.nd
  refine ⟨_,(by walk_at "T.top"),?_⟩
  refine ⟨_,hS,ite2 (fun h2=>?_) (fun h2=>?_)⟩
  ·have h2':k < ((ns.map V.int).length:Int):=of_decide_eq_true h2
   rw [List.length_map] at h2'
   have h3:k.toNat < ns.length:=by omega
   exact ⟨_,.int ns[k.toNat],hS,atI_int h0 (by rw [List.getElem?_map,List.getElem?_eq_getElem h3];rfl),q _⟩
  ·exact ⟨.inl ⟨by decide,by decide⟩,.inr ⟨by omega,by omega⟩,.inl ⟨by decide,by decide⟩,q _⟩
 ·exact h.elim
end
end K66
end
section
namespace K66
open PySem L2
section
variable {P:Program} {w:World} {K:PySem.W.Frag} {mg:Str->Option Value} {base:Heap}
abbrev sStore:Stmt:=top 103
def spStore:Sp:=fun vs H Q _=>match vs with
 | [.int _]=>∀ p g b,H p=none->Q (.ref p) (upd H p (.lst [.int g,.int b,.int 1]))
 | _=>False
theorem scStore:FnScope ["cell","great"] ["cell"] (defScope sStore):=⟨rfl,rfl,rfl,by decide +kernel,rfl,by decide +kernel,by decide +kernel⟩
theorem ok_store (D:FnX K mg "_law_store" sStore ["cell"]):Can P w K mg base "_law_store" 1 ["cell"] spStore:=by
 refine can_fn (k:=0) D scStore (fun vs H Q E h=>?_) (fun f cdv A outer s H vs Q E hr h=>?_)
 all_goals
  unfold spStore at h
  split at h
 ·rfl
 ·exact h.elim
 ·rename_i c
  have nd:=scStore.nd
  refine ⟨_,(by walk_at "T.top"),?_⟩
  refine ⟨⟨by decide,by decide,by decide⟩,ite2 (fun h2=>?_) (fun h2=>?_)⟩
  ·exact ⟨(by decide:(0:Int) < 2147483629),le_line (Nat.le_of_ble_eq_true rfl),fun p hp=>h p _ _ hp⟩
  ·exact ⟨(by decide:(0:Int) < 2147483629),le_line (Nat.le_of_ble_eq_true rfl),fun p hp=>h p _ _ hp⟩
 ·exact h.elim
abbrev sTake:Stmt:=top 104
theorem scTake:FnScope ["store","many","told","one"] ["store","many"] (defScope sTake):=⟨rfl,rfl,rfl,by decide +kernel,rfl,by decide +kernel,by decide +kernel⟩
theorem ok_take (D:FnX K mg "_law_take" sTake ["store","many"]):Can P w K mg base "_law_take" 1 ["store","many"] spTake:=by
 refine can_fn (k:=0) D scTake (fun vs H Q E h=>?_) (fun f cdv A outer s H vs Q E hr h=>?_)
 all_goals
  unfold spTake at h
  split at h
 ·rfl
 ·exact h.elim
 ·rename_i a many
  obtain ⟨⟨g,b,c,ha⟩,h0,h1,k⟩:=h
  have nd:=scTake.nd
  refine ⟨_,(by walk_at "T.top"),?_⟩
  have fin:∀ (H1:Hp) (r g' c':Int),H1=upd H a (.lst [.int g',.int b,.int c'])->0<=r->r < many->Q (.int r) H1:=fun H1 r g' c' e r0 r1=>by
   subst e
   exact k r _ r0 r1 ⟨_,_,_,upd_same⟩ fun y o e n=>by rw [upd_ne n];exact e
  refine ⟨.int g,gl ha (by decide) rfl,ite2 (fun h2=>?_) (fun h2=>?_)⟩
  ·refine ⟨.int g,gl ha (by decide) rfl,h0,?_⟩
   refine ⟨.int g,gl ha (by decide) rfl,⟨h0,h1⟩,_,0,ha,rfl,?_⟩
   exact fin _ _ _ _ rfl (Int.emod_nonneg _ (by omega)) (Int.emod_lt_of_pos _ h0)
  ·refine ⟨.int c,gl ha (by decide) rfl,_,2,ha,rfl,?_⟩
   have h1a:upd H a (.lst ([V.int g,V.int b,V.int c].set 2 (V.int (c+1)))) a=some (.lst [.int g,.int b,.int (c+1)]):=upd_same
   refine ⟨.int b,gl h1a (by decide) rfl,.int (c+1),gl h1a (by decide) rfl,.inl ⟨by decide,by decide⟩,.inr ⟨by decide,by decide⟩,(by decide:(0:Int) < 2147483647),?_⟩
   have b1:=Int.emod_nonneg ((b+7919 * (c+1)) * 48271) (show (2147483647:Int)≠0 by decide)
   have b2:=Int.emod_lt_of_pos ((b+7919 * (c+1)) * 48271) (show (0:Int) < 2147483647 by decide)
   generalize ((b+7919 * (c+1)) * 48271) % 2147483647=x1 at b1 b2 ⊢
   refine ⟨.inl ⟨by omega,by omega⟩,(by decide:(0:Int) < 2147483629),?_⟩
   refine ⟨.int (c+1),gl h1a (by decide) rfl,.inl ⟨by decide,by decide⟩,.inr ⟨by decide,by decide⟩,(by decide:(0:Int) < 2147483587),?_⟩
   refine ⟨⟨by decide,by decide⟩,h0,?_⟩
   exact fin _ _ _ _ rfl (Int.emod_nonneg _ (by omega)) (Int.emod_lt_of_pos _ h0)
 ·exact h.elim
end
end K66
end
section
namespace K66
open PySem L2
section
def keysStr (es:Array DictEntry):Bool:=es.all fun e=>match e.key with | .str _ _=>true | _=>false
theorem keysStr_of {es:Array DictEntry} (h:keysStr es=true):StrKeys es:=fun e he=>by
 have:=(Array.all_eq_true_iff_forall_mem.mp h) e he
 split at this
 ·rename_i n t z;exact ⟨n,t,z⟩
 ·cases this
open PySem.W in
theorem exn_mk {K:PySem.W.Frag} {C:Addr} {nm q:Str} {N B:Addr} {bs:List Value} {hdct:Bool} {sn:List Str} {sub:List Value} {ab:Bool} {col:Option Bool} {dd:Option Addr} {k0 k1 k2 k3 k5:Option Value}
  {c1:Value} {d1:Option Addr} {es:Array DictEntry} {ep:Nat} {sl1:Array (Option Value)} {cB:Value} {ddB:Option Addr} {slB:Array (Option Value)} {nmB qB:Str} {bsB mroB subB:List Value} {NB:Addr} {hdB abB delB:Bool} {snB:List Str} {colB:Option Bool}
  {c2:Value} {d2:Option Addr} {esB:Array DictEntry} {epB:Nat} {sl2:Array (Option Value)}
  (hC:K.lookup C=some (excClassObj nm q C N bs (.ref B :: PySem.W.veM) hdct sn sub ab col dd k0 k1 k2 k3 k5 "ValueError.__new__")) (hN:K.lookup N=some ⟨c1,d1,.dict es ep,sl1⟩) (sN:keysStr es=true) (nN:(nsFind es "__init__").isNone=true)
  (hB:K.lookup B=some ⟨cB,ddB,.cls ⟨nmB,bsB,mroB,NB,qB,hdB,snB,subB,abB,colB,delB⟩,slB⟩) (hNB:K.lookup NB=some ⟨c2,d2,.dict esB epB,sl2⟩) (sB:keysStr esB=true) (nB:(nsFind esB "__init__").isNone=true):ExnOk K C:=by
 refine ⟨nm,q,N,bs,.ref B :: PySem.W.veM,hdct,sn,sub,ab,col,dd,k0,k1,k2,k3,k5,nsFind es,Option.isNone_iff_eq_none.mp nN,fun h X=>⟨X _ _ hC,⟨_,es,ep,X _ _ hN,rfl,keysStr_of sN,fun _=>rfl⟩,?_⟩⟩
 exact .own (X _ _ hB) ⟨_,esB,epB,X _ _ hNB,rfl,keysStr_of sB,fun _=>rfl⟩ (Option.isNone_iff_eq_none.mp nB) .base
def Cl0 (K:PySem.W.Frag) (C:Addr) (x:Str) (b:Bool):Prop:=∃ D,PySem.W.nsIn K mainGlobals x=some (some (.ref D))/\PySem.W.kitOne K (.ref C) (.ref D)=some b
theorem cl0_mk {K:PySem.W.Frag} {C D:Addr} {x:Str} {b:Bool} (h:PySem.W.nsIn K mainGlobals x=some (some (.ref D))) (e:PySem.W.kitOne K (.ref C) (.ref D)=some b):Cl0 K C x b:=⟨D,h,e⟩
theorem cl0_of {K:PySem.W.Frag} {h:Heap} {mg:Str->Option Value} {C:Addr} {x:Str} {b:Bool} (X:K.In h) (G:h.Ns mainGlobals mg) (z:Cl0 K C x b):Cl K mg C x b:=let ⟨D,h1,e⟩:=z;⟨D,PySem.W.mg_of X G h1,e⟩
theorem xcls_mk {K:PySem.W.Frag} {C:Addr} (a1:PySem.W.findIn K (.ref C) "__getattribute__" = some (some (.builtin "BaseException.__getattribute__"))) (a2:PySem.W.findIn K (.ref C) "__getattr__" = some none) (a3:PySem.W.mroIn K C (.type "BaseException")=some true)
  (b:(PySem.W.clsIn K C).isSome=true) (c:PySem.W.findIn K (.ref C) "__class__" = some (some (.builtin "object.__class__")))
  (d:PySem.W.specialIn K (.builtin "object.__class__") "__get__" = some (some (.builtin "getset_descriptor.__get__"))) (e:PySem.W.takesIn K (.builtin "object.__class__")=some true) (f:PySem.W.mroIn K C (.type "object")=some true):PySem.W.ExCls K C:=⟨a1,a2,a3,b,c,d,e,f⟩
end
end K66
end
section
namespace L2
open PySem PySem.Spec PyProof.Rows PySem.W
theorem comp_byG {J:It} {xs:List V} {ok:Hp->Prop} {g:TG} {te:TE} {Q:List Str->Hp->Prop} {τ:St} {H:Hp} (IO:ItOk J xs ok) (Pv:Nat->St->Hp->List Str->Prop) (hz:xs.length < 1000) (h0:Pv 0 τ H [])
  (hl:∀ i τ H zs,i<=xs.length->Pv i τ H zs->ok H/\zs.length<=i)
  (hs:∀ i x τ H zs,i < xs.length->xs[i]? = some x->Pv i τ H zs->g x τ H fun τ4 H4=>te τ4 H4 fun y H6=>∃ z,y = .str z/\Pv (i+1) τ4 H6 (zs++[z]))
  (hd:∀ τ H zs,Pv xs.length τ H zs->Q zs H) :
  ∃ W:Nat->Nat->St->Hp->List Str->Prop,(∃ m,W 0 m τ H [])/\∀ i m τ H2 zs,W i m τ H2 zs->zs.length < 1000 ∧
   ((J.stop i H2/\Q zs H2)\/(J.go i H2/\∃ N:St->Hp->List Str->Prop,(∀ τ' H' zs',N τ' H' zs'->∃ m',m' < m/\W (i+1) m' τ' H' zs')/\∀ x H3,J.yld i H2 x H3->g x τ H3 fun τ4 H4=>te τ4 H4 fun y H6=>∃ z,y = .str z/\N τ4 H6 (zs++[z]))):=by
 refine ⟨fun i m τ H zs=>m=xs.length - i/\i<=xs.length/\Pv i τ H zs,⟨xs.length,by simp,Nat.zero_le _,h0⟩,?_⟩
 rintro i m τ H zs ⟨rfl,hi,p⟩
 obtain ⟨q,hy⟩:=hl i τ H zs hi p
 refine ⟨by omega,?_⟩
 by_cases hlt:i < xs.length
 ·refine .inr ⟨IO.go i H q hlt,Pv (i+1),fun τ' H' ys' p'=>⟨xs.length - (i+1),by omega,rfl,hlt,p'⟩,fun x H' y=>?_⟩
  obtain ⟨e,hx⟩:=IO.yld i H x H' q hlt y
  subst e
  exact hs i x τ _ zs hlt hx p
 ·have e:i=xs.length:=by omega
  subst e
  exact .inl ⟨IO.stop H q,hd τ H zs p⟩
theorem join_ones:∀ (l:List Nat),Txt.join ("" : Str) (l.map fun c=>(⟨#[c]⟩ : Str))=mkS l
 | []=>by decide +kernel
 | [c]=>rfl
 | c :: d :: r=>by
  have ih:=join_ones (d :: r)
  rw [tjoin] at ih ⊢
  have e:Str.join ("" : Str) ((c :: d :: r).map fun c=>(⟨#[c]⟩ : Str))=(⟨#[c]⟩ : Str)++("" : Str)++Str.join ("" : Str) ((d :: r).map fun c=>(⟨#[c]⟩ : Str)):=rfl
  rw [e,ih]
  have e2:(⟨#[c]⟩ : Str)=mkS [c]:=rfl
  rw [e2,<-mkS_nil,mkS_app,mkS_app]
  rfl
end L2
end
section
namespace K66
open PySem L2
section
variable {P:Program} {w:World} {K:PySem.W.Frag} {mg:Str->Option Value} {base:Heap}
def fixedNames:List Str:=["a","b","ba","code","names","none","late","abcdefgh"]
def Small (xs:List Nat):Prop:=1<=xs.length/\xs.length<=8/\∀ x∈xs,97<=x/\x<=122
theorem fixed_small:∀ z∈fixedNames,∃ xs,z=mkS xs/\Small xs:=by
 intro z hz
 have h:fixedNames.all (fun z=>decide (1<=z.cps.toList.length/\z.cps.toList.length<=8/\∀ x∈z.cps.toList,97<=x/\x<=122))=true:=by decide +kernel
 have h2:=of_decide_eq_true (List.all_eq_true.mp h z hz)
 exact ⟨_,mkS_of z,h2⟩
abbrev sName6:Stmt:=top 107
def spName6:Sp:=fun vs H Q _=>match vs with
 | [.ref a]=>Sto H a/\∀ xs H',Small xs->Sto H' a->Off (At a) H H'->Q (.str (mkS xs)) H'
 | _=>False
theorem scName6:FnScope ["store","letters_all"] ["store"] (defScope sName6):=⟨rfl,rfl,rfl,by decide +kernel,rfl,by decide +kernel,by decide +kernel⟩
local macro_rules | `(tactic| walk_at "T.c")=>`(tactic| (have ndc:(["k","letters_all","store"]:List Str).Nodup:=(by decide +kernel));((with_reducible refine' c_comp ["k","letters_all","store"] [1,0] ?b1 ?b2 (fun cl C s H fp=>?b3) (fun cl C s H fp=>?b4) (fun cl C s H fp=>?b5));(case b1=>exact ndc);(case b2=>walk_at "T.i");(case b3=>walk_at "T.g");(case b4=>walk_at "T.pf");(case b5=>walk_at "T.e")))
theorem letters_at {r:Int} (h0:0<=r) (h1:r < 26):∃ c,atI ("abcdefghijklmnopqrstuvwxyz" : Str).cps.toList r=some c/\97<=c/\c<=122:=by
 obtain ⟨n,rfl⟩:=Int.eq_ofNat_of_zero_le h0
 have hn:n < 26:=by omega
 have hall:∀ n:Fin 26,∃ c,atI ("abcdefghijklmnopqrstuvwxyz" : Str).cps.toList ((n.val:Nat):Int)=some c/\97<=c/\c<=122:=by
  intro n
  have h2:∀ n:Fin 26,atI ("abcdefghijklmnopqrstuvwxyz" : Str).cps.toList ((n.val:Nat):Int)=some (97+n.val):=by decide +kernel
  exact ⟨_,h2 n,by omega,by omega⟩
 exact hall ⟨n,hn⟩
set_option maxHeartbeats 400000 in
theorem ok_name6 (D:FnX K mg "_law_name_drawn" sName6 ["store"]) (g1:mg "range" = none) (c1:Can P w K mg base "_law_take" 1 ["store","many"] spTake):CanN P w K mg base "_law_name_drawn" 2 ["store"] spName6:=by
 refine canN_fn (k:=1) D scName6 (fun vs H Q E h=>?_) (fun f cdv A outer s H vs Q hr h=>?_)
 all_goals
  unfold spName6 at h
  split at h
 ·rfl
 ·exact h.elim
 ·rename_i a
  obtain ⟨ha,q⟩:=h
  have nd:=scName6.nd
  have ndc:(["k","letters_all","store"]:List Str).Nodup:=by decide +kernel
  refine ⟨?t,?w,?r⟩
  case w=>
   refine' pssN_if ?p1 ?p2 ?p3
   case p1=>
    with_reducible refine' tcmp1 ?q1 ?q2
    case q1=>exact op_eqU (Room.units (by assumption))
    case q2=>walk_at "T.e"
   case p2=>
    with_reducible refine' pssN_ret (by decide) ?q1
    case q1=>
    with_reducible refine' e_pick (zs:=fixedNames) ?q2 ?q3
    case q2=>exact .cons (.cons (.cons (.cons (.cons (.cons (.cons (.cons .nil)))))))
    case q3=>walk_at "T.e"
   case p3=>
    with_reducible refine' pssN_cons ?q1 ?q2
    case q1=>walk_at "T.st"
    case q2=>
    with_reducible refine' pssN_ret (by decide) ?q1
    case q1=>
    with_reducible refine' e_joinG ["k","letters_all","store"] [1,0] ?z1 ndc ?z2 ?z3 (fun cl C s H fp=>?z4) (fun cl C s H fp=>?z5)
    case z1=>kernel_rfl
    case z2=>kernel_rfl
    case z3=>walk_at "T.i"
    case z4=>walk_at "T.g"
    case z5=>
    with_reducible refine' e_letter ?y1 ?y2
    case y1=>walk_at "T.e"
    case y2=>walk_at "T.e"
  case r=>
  refine ⟨ha,by decide,by decide,fun r1 H1 r10 r11 s1 o1=>?_⟩
  refine ite2 (fun e1=>?_) (fun e1=>?_)
  ·refine ⟨by decide,s1,by decide,by decide,fun r2 H2 r20 r21 s2 o2=>?_⟩
   obtain ⟨n,rfl⟩:=Int.eq_ofNat_of_zero_le r20
   have hn:n < fixedNames.length:=by
    have e:fixedNames.length=8:=rfl
    omega
   obtain ⟨xs,ex,sm⟩:=fixed_small fixedNames[n] (List.getElem_mem hn)
   refine ⟨n,mkS xs,rfl,by rw [List.getElem?_eq_getElem hn,ex],?_⟩
   exact q xs H2 sm s2 fun y o e n=>o2 y o (o1 y o e n) n
  ·refine ⟨s1,by decide,by decide,fun r2 H2 r20 r21 s2 o2=>?_⟩
   have b1 : -(2 ^ 62)<=1+r2:=by omega
   have b2:1+r2 < 2 ^ 62:=by omega
   refine ⟨b1,b2,?_⟩
   refine comp_byG (it_range 0 _) (fun i τ H' zs=>(∃ v,τ=[v,some (.str ("abcdefghijklmnopqrstuvwxyz" : Str)),some (.ref a)])/\Sto H' a/\Off (At a) H H'/\∃ xs:List Nat,zs=xs.map (fun c=>(⟨#[c]⟩ : Str))/\xs.length=i/\∀ x∈xs,97<=x/\x<=122) ?_ ?_ ?_ ?_ ?_
   ·rw [List.length_map,List.length_range];omega
   ·exact ⟨⟨_,rfl⟩,s2,fun y o e n=>o2 y o (o1 y o e n) n,[],rfl,rfl,fun x z=>by cases z⟩
   ·rintro i τ H' zs hi ⟨_,_,_,xs,rfl,e,_⟩
    exact ⟨trivial,by rw [List.length_map,e];exact Nat.le_refl _⟩
   ·rintro i x τ H' zs hi hx ⟨⟨v,rfl⟩,s3,o3,xs,rfl,e,hb⟩
    refine ⟨s3,by decide,by decide,fun r4 H4 r40 r41 s4 o4=>?_⟩
    obtain ⟨c,hc,c0,c1⟩:=letters_at r40 r41
    refine ⟨_,_,c,rfl,rfl,le_line (by decide),hc,_,rfl,⟨_,rfl⟩,s4,fun y o e n=>o4 y o (o3 y o e n) n,xs++[c],by rw [List.map_append];rfl,by rw [List.length_append,e];rfl,fun x z=>?_⟩
    rcases List.mem_append.mp z with z | z
    ·exact hb x z
    ·have ez:x=c:=by simpa using z
     rw [ez];exact ⟨c0,c1⟩
   ·rintro τ H' zs ⟨_,s3,o3,xs,rfl,e,hb⟩
    rw [List.length_map,List.length_range] at e
    have l1:xs.length<=8:=by omega
    refine ⟨?_,?_⟩
    ·rw [List.map_map,List.length_map]
     have es:(xs.map ((fun x:Str=>x.length) ∘ fun c=>(⟨#[c]⟩ : Str))).sum=xs.length:=by
      clear e hb l1
      induction xs with
      | nil=>rfl
      | cons y r ih=>rw [List.map_cons,List.sum_cons,ih,List.length_cons];show 1+r.length=_;omega
     rw [es]
     have e0:("" : Str).length=0:=rfl
     rw [e0]
     omega
    ·rw [join_ones]
     exact q xs H' ⟨by omega,l1,hb⟩ s3 o3
 ·exact h.elim
end
end K66
end
section
namespace K66
open PySem L2
section
variable {P:Program} {w:World} {K:PySem.W.Frag} {mg:Str->Option Value} {base:Heap}
theorem small_ok {xs:List Nat} (sm:Small xs):nameOk (mkS xs)=true:=by
 obtain ⟨h1,h2,h3⟩:=sm
 unfold nameOk
 have e:Txt.stripChars (mkS xs) smallS=("" : Str):=strip_small xs h3
 rw [mkS_len,e]
 have a:(1:Int)<=(xs.length:Int):=by omega
 have b:(xs.length:Int)<=8:=by omega
 rw [decide_eq_true a,decide_eq_true b]
 rfl
theorem small_32 {xs:List Nat} (sm:Small xs):32 ∉ xs:=fun h=>by have:=(sm.2.2 _ h).1;omega
open PySem.Builtin.Str in
def cut1 (q pre post:Str):Bool:=!(occurrences q ("NAME" : Str) 0 q.length (q.length+1)).isEmpty && decide (partsBetween q (occurrences q ("NAME" : Str) 0 q.length (q.length+1)) ("NAME" : Str).length=[pre,post])
theorem cut1_repl {q pre post z:Str} (h:cut1 q pre post=true):Txt.replace q ("NAME" : Str) z=mkS (pre.cps.toList++(z.cps.toList++post.cps.toList)):=by
 unfold cut1 at h
 rw [Bool.and_eq_true,Bool.not_eq_true'] at h
 exact repl_two h.1 (by decide) (of_decide_eq_true h.2)
def tmpl:List (Str×Str×Option Str):=[("send NAME 1","send",some "1"),("send NAME -","send",some "-"),("read NAME 01","read",some "01"),("read NAME -","read",some "-"),("late NAME","late",none),("still NAME","still",none),("settle NAME","settle",none),("lean NAME","lean",none),("window NAME","window",none),("marks NAME 3","marks",some "3"),("marks NAME 7","marks",some "7"),("marks NAME 8","marks",some "8")]
def tOk:Str×Str×Option Str->Bool
 | (q,v,none)=>cut1 q (mkS (v.cps.toList++[32])) "" && !v.cps.toList.contains 32 && decide (v∈five) && decide (v≠("code" : Str)) && decide (q.length<=20) && decide (v.length<=8)
 | (q,v,some x)=>cut1 q (mkS (v.cps.toList++[32])) (mkS (32 :: x.cps.toList)) && !v.cps.toList.contains 32 && !x.cps.toList.contains 32 && fitsZ v x && decide (v≠("code" : Str)) && decide (q.length<=20) && decide (v.length<=8) && decide (x.length<=8)
theorem tmpl_ok:tmpl.all tOk=true:=by decide +kernel
theorem contains_no {l:List Nat} (h:(!l.contains 32)=true):32 ∉ l:=by simpa using h
def Asks (nm z:Str):Prop:=z.length<=900/\∃ v,v≠("code" : Str)/\((wordsZ z=[v,nm]/\rowGood [v,nm]=true)\/∃ x,wordsZ z=[v,nm,x]/\rowGood [v,nm,x]=true)
theorem tmpl_asks {t:Str×Str×Option Str} (ht:t∈tmpl) {xs:List Nat} (sm:Small xs):t.1.length<=20/\Asks (mkS xs) (Txt.replace t.1 ("NAME" : Str) (mkS xs)):=by
 have h:=List.all_eq_true.mp tmpl_ok t ht
 have n32:=small_32 sm
 have l8:=sm.2.1
 obtain ⟨q,v,o⟩:=t
 cases o with
 | none=>
  unfold tOk at h
  simp only [Bool.and_eq_true] at h
  obtain ⟨⟨⟨⟨⟨h1,h2⟩,h3⟩,h4⟩,h5⟩,h6⟩:=h
  have hv:=contains_no h2
  have e:=cut1_repl (z:=mkS xs) h1
  rw [mkS_cps,mkS_cps] at e
  have e':Txt.replace q ("NAME" : Str) (mkS xs)=mkS (v.cps.toList++32 :: xs):=by
   rw [e]
   show mkS (v.cps.toList++[32]++(xs++[]))=_
   rw [List.append_nil,List.append_assoc]
   rfl
  have hs:=split_2 hv n32
  rw [<-mkS_of v] at hs
  refine ⟨of_decide_eq_true h5,?_⟩
  show Asks _ (Txt.replace q ("NAME" : Str) (mkS xs))
  rw [e']
  have vl:v.cps.toList.length<=8:=by have:=of_decide_eq_true h6;simpa [Str.length] using this
  refine ⟨by rw [mkS_len,List.length_append,List.length_cons];omega,v,of_decide_eq_true h4,.inl ⟨?_,?_⟩⟩
  ·unfold wordsZ spB
   rw [hs]
   exact if_neg (fun z=>of_decide_eq_true h4 (Option.some.inj z))
  ·show (nameOk (mkS xs) && decide (v∈five))=true
   rw [small_ok sm,h3];rfl
 | some x=>
  unfold tOk at h
  simp only [Bool.and_eq_true] at h
  obtain ⟨⟨⟨⟨⟨⟨⟨h1,h2⟩,h2x⟩,h3⟩,h4⟩,h5⟩,h6⟩,h7⟩:=h
  have hv:=contains_no h2
  have hx:=contains_no h2x
  have e:=cut1_repl (z:=mkS xs) h1
  rw [mkS_cps,mkS_cps,mkS_cps] at e
  have e':Txt.replace q ("NAME" : Str) (mkS xs)=mkS (v.cps.toList++32 :: (xs++32 :: x.cps.toList)):=by
   rw [e,List.append_assoc]
   rfl
  have hs:=split_3 hv n32 hx
  rw [<-mkS_of v,<-mkS_of x] at hs
  refine ⟨of_decide_eq_true h5,?_⟩
  show Asks _ (Txt.replace q ("NAME" : Str) (mkS xs))
  rw [e']
  have vl:v.cps.toList.length<=8:=by have:=of_decide_eq_true h6;simpa [Str.length] using this
  have xl:x.cps.toList.length<=8:=by have:=of_decide_eq_true h7;simpa [Str.length] using this
  refine ⟨by rw [mkS_len,List.length_append,List.length_cons,List.length_append,List.length_cons];omega,v,of_decide_eq_true h4,.inr ⟨x,?_,?_⟩⟩
  ·unfold wordsZ spB
   rw [hs]
   exact if_neg (fun z=>of_decide_eq_true h4 (Option.some.inj z))
  ·show (nameOk (mkS xs) && fitsZ v x)=true
   rw [small_ok sm,h3];rfl
end
end K66
end
section
namespace K66
open PySem L2
section
variable {P:Program} {w:World} {K:PySem.W.Frag} {mg:Str->Option Value} {base:Heap}
theorem say_asks {A AW:Sp} {C CR CN CT d c:Addr} {kvs:List (Key×V)} {H:Hp} {Q:VK} {E:XK} {z nm:Str} (dk:DeskA C H d c kvs) (k100:kvs.length<=100) (hz:Asks nm z) (hn:valV kvs (.inr nm)=none) (q:∀ H',Same H H'->E (.ref CN) none H'):spSay A AW C CR CN CT [.ref d,.str z] H Q E:=by
 obtain ⟨z9,v,hv,h⟩:=hz
 refine ⟨z9,⟨_,c,dk.1.choose_spec⟩,fun e=>?_,fun _=>⟨c,kvs,dk,k100,?_⟩⟩
 ·rcases h with ⟨hw,hg⟩ | ⟨x,hw,hg⟩<;>(rw [hw,hg] at e;cases e)
 ·rcases h with ⟨hw,hg⟩ | ⟨x,hw,hg⟩
  ·rw [hw]
   exact ⟨fun _=>q,fun cv e=>(by rw [hn] at e;cases e)⟩
  ·rw [hw]
   exact ⟨fun e=>absurd e hv,fun _=>⟨fun _=>q,fun cv e=>(by rw [hn] at e;cases e)⟩⟩
abbrev sGone:Stmt:=top 108
def spGone6 (C:Addr):Sp:=fun vs H Q _=>match vs with
 | [.ref a,.ref d,.str z]=>∃ xs c kvs,z=mkS xs/\Small xs/\Sto H a/\DeskA C H d c kvs/\kvs.length<=100/\valV kvs (.inr z)=none/\∀ H',Sto H' a->Off (At a) H H'->Q (.bl true) H'
 | _=>False
theorem scGone:FnScope ["store","desk","name","row"] ["store","desk","name"] (defScope sGone):=⟨rfl,rfl,rfl,by decide +kernel,rfl,by decide +kernel,by decide +kernel⟩
set_option maxHeartbeats 400000 in
theorem ok_gone {C CR CN CT B:Addr} (D:FnX K mg "_law_gone" sGone ["store","desk","name"]) (KN:KindsOf K mg CN 5) (xN:PySem.W.exmOne K (.ref CN) (.ref B)=some true) (c1:Can P w K mg base "_law_take" 1 ["store","many"] spTake)
  (c2:Can P w K mg base "_law_refused" 8 ["desk","row"] (spRefd K mg B C (spSay spNo spSendW C CR CN CT))):CanG P w K mg base "_law_gone" 9 ["store","desk","name"] 2 (spGone6 C):=by
 refine canG_fn (k:=8) (i:=2) (y:= "name") D scGone (fun vs H Q E h=>?_) rfl rfl (fun f cdv A outer s H vs Q z tk hr hv t0 t1 h=>?_)
 all_goals
  unfold spGone6 at h
  split at h
 ·rfl
 ·exact h.elim
 ·rename_i a d z'
  have ez:z'=z:=by
   have e2:some (V.str z')=some (V.str z):=hv
   injection e2 with e2
   injection e2
  subst ez
  obtain ⟨xs,c,kvs,rfl,sm,sto,dk,k100,hno,q⟩:=h
  have nd:=scGone.nd
  refine ⟨?t,?w,?r⟩
  case w=>
   refine' pssB_cons ?p1 ?p2
   case p1=>walk_at "T.st"
   case p2=>
   with_reducible refine' pssB_cons ?p1 ?p2
   case p1=>walk_at "T.st"
   case p2=>
   with_reducible refine' pssB_one ?p1
   case p1=>
   with_reducible refine' psB_ret ?p1
   case p1=>
   with_reducible refine' cmpB ?p3 ?p4 ?p5
   case p3=>exact op_eqU (Room.units (by assumption))
   case p5=>walk_at "T.e"
   case p4=>
   with_reducible refine' fn_canB "_law_refused" ?a0 ?a9 ?a1 ?a2
   case a0=>with_reducible assumption
   case a9=>exact ⟨rfl,rfl,rfl,rfl,rfl⟩
   case a1=>exact Room.mono (by assumption) (by first | decide | exact Nat.le_refl _)
   case a2=>
   with_reducible refine' paB_cons ?b1 ?b2
   case b1=>walk_at "T.e"
   case b2=>
   with_reducible refine' paB_one ?b3
   case b3=>
   with_reducible refine' m_replV (x:= "name") (i:=2) ?d1 t0 t1 ?d2 ?d3 ?d4 ?d5 ?d6
   case d1=>rfl
   case d2=>rfl
   case d3=>kernel_rfl
   case d4=>walk_at "T.e"
   case d5=>
    refine beq_false_of_ne fun e=>?_
    have e2:=congrArg (fun s:Str=>s.cps.toList) e
    replace e2:("NAME" : Str).cps.toList=xs:=e2.trans (mkS_cps xs)
    have h78:78∈xs:=by rw [<-e2];decide
    have:=(sm.2.2 _ h78).1
    omega
   case d6=>kernel_rfl
  case r=>
   obtain ⟨⟨dx,hd⟩,hc⟩:=dk
   refine ⟨le_line (Nat.le_of_ble_eq_true rfl),fun p1 hp1=>?_⟩
   refine ⟨le_line (Nat.le_of_ble_eq_true rfl),fun p2 hp2=>⟨_,_,Same.upd hp2 _ _ upd_same,upd_same,le_line (Nat.le_of_ble_eq_true rfl),fun p3 hp3=>?_⟩⟩
   have S:=fun o3:HO=>((Same.upd hp1).trans (Same.upd hp2)).trans (Same.upd (o:=o3) hp3)
   refine ⟨(let ⟨g,b,c,e⟩:=sto;⟨g,b,c,S _ _ _ e⟩),by decide,by decide,fun r H4 r0 r1 sto4 o4=>?_⟩
   obtain ⟨n,rfl⟩:=Int.eq_ofNat_of_zero_le r0
   have l12:tmpl.length=12:=rfl
   have hn:n < tmpl.length:=by omega
   have n3:p3≠a:=fun z=>by
    obtain ⟨g,b,c,e⟩:=sto
    subst z
    exact absurd ((((Same.upd hp1).trans (Same.upd hp2)) _ _ e).symm.trans hp3) (by simp)
   have k4:H4 p3=some (.lst (tmpl.map fun t=>V.str t.1)):=o4 _ _ upd_same n3
   refine ⟨_,gl k4 r0 (by rw [Int.toNat_natCast,List.getElem?_map,List.getElem?_eq_getElem hn];rfl),?_⟩
   obtain ⟨l20,ask⟩:=tmpl_asks (List.getElem_mem hn) sm
   have dk4:DeskA C H4 d c kvs:=by
    obtain ⟨g,b,c',e⟩:=sto
    refine ⟨⟨dx,o4 _ _ (S _ _ _ hd) (fun z=>?_)⟩,o4 _ _ (S _ _ _ hc) (fun z=>?_)⟩
    ·rw [z,e] at hd;cases hd
    ·rw [z,e] at hc;cases hc
   generalize tmpl[n]=t at l20 ask
   refine ⟨⟨_,rfl⟩,t.1,rfl,?_,?_⟩
   ·have l8:=sm.2.1
    have:=Nat.mul_le_mul (show t.1.length+1<=21 by omega) (show (mkS xs).length<=8 by rw [mkS_len];exact l8)
    omega
   ·obtain ⟨dx4,e4⟩:=dk4.1
    refine ⟨dx4,[("codes",.ref c)],e4,rfl,say_asks dk4 k100 ask hno (fun H5 s5=>?_)⟩
    ·refine ⟨CN,5,rfl,rfl,KN,by simp,xN,fun H6 s6=>?_⟩
     show Q (.bl (decide (kindZ 5=("name" : Str)))) H6
     rw [show decide (kindZ 5=("name" : Str))=true by decide +kernel]
     refine q H6 (let ⟨g,b,c,e⟩:=sto4;⟨g,b,c,s6 _ _ (s5 _ _ e)⟩) fun y o e n=>s6 _ _ (s5 _ _ (o4 _ _ (S _ _ _ e) n))
 ·exact h.elim
end
end K66
end
section
namespace K66
open PySem L2
section
mutual
def noD:PyData->Bool
 | .list xs=>noAll xs
 | .tuple xs=>noAll xs
 | .dict _=>false
 | _=>true
def noAll:List PyData->Bool
 | []=>true
 | d :: ds=>noD d && noAll ds
end
mutual
theorem dv_off {H:Hp} {c:Addr} {o:HO} {kvs:List (Key×V)} (hc:H c=some (.dK kvs)):∀ {v:V} {d:PyData},DV H v d->noD d=true->DV (upd H c o) v d
 | _,_,.non,_=>.non
 | _,_,.bl _,_=>.bl _
 | _,_,.int _,_=>.int _
 | _,_,.str _,_=>.str _
 | _,_,.lst h hs,n=>.lst (by rw [upd_ne (fun z=>by rw [z,hc] at h;cases h)];exact h) (dvs_off hc hs (by rw [noD] at n;exact n))
 | _,_,.tup h hs,n=>.tup (by rw [upd_ne (fun z=>by rw [z,hc] at h;cases h)];exact h) (dvs_off hc hs (by rw [noD] at n;exact n))
 | _,_,.dic _,n=>by rw [noD] at n;cases n
theorem dvs_off {H:Hp} {c:Addr} {o:HO} {kvs:List (Key×V)} (hc:H c=some (.dK kvs)):∀ {vs:List V} {ds:List PyData},DVs H vs ds->noAll ds=true->DVs (upd H c o) vs ds
 | _,_,.nil,_=>.nil
 | _,_,.cons h hs,n=>by
  rw [noAll,Bool.and_eq_true] at n
  exact .cons (dv_off hc h n.1) (dvs_off hc hs n.2)
end
theorem no_map {α:Type} (f:α->PyData) (hf:∀ x,noD (f x)=true):∀ l:List α,noAll (l.map f)=true
 | []=>by rw [List.map_nil,noAll]
 | x :: l=>by rw [List.map_cons,noAll,hf,no_map f hf l];rfl
theorem no_code (k n:Nat) (rows:Om.Rows):noD (codeD k n rows)=true:=by
 have hr:∀ r,noD (rowD r)=true:=fun r=>by unfold rowD;simp [noD,noAll]
 have hs:∀ st,noD (stateD st)=true:=fun st=>by unfold stateD;rw [noD];exact no_map _ hr st
 unfold codeD
 rw [noD,noAll,noAll,noAll,noAll,noD,no_map _ hs rows]
 simp [noD]
end
section
variable {A AW:Sp} {C CR CN CT d c:Addr} {kvs:List (Key×V)} {H:Hp} {Q:VK} {E:XK} {z v nm x:Str}
theorem say_code (dk:DeskA C H d c kvs) (k100:kvs.length<=100) (hz:z.length<=900) (hw:wordsZ z=[("code" : Str),nm,x]) (hg:rowGood [("code" : Str),nm,x]=true) (ho:Om.codeOk (codeT (spB x))=true)
  (q:∀ cv H',Same H H'->DV H' cv (codeT (spB x))->Q (.str ("ok" : Str)) (upd H' c (.dK (putK kvs (.inr nm) cv)))):spSay A AW C CR CN CT [.ref d,.str z] H Q E:=by
 refine ⟨hz,⟨_,c,dk.1.choose_spec⟩,fun e=>?_,fun _=>⟨c,kvs,dk,k100,?_⟩⟩
 ·rw [hw,hg] at e;cases e
 ·rw [hw]
  exact ⟨fun _=>⟨fun e=>(by rw [ho] at e;cases e),fun _ cv H' s dv=>q cv H' s dv⟩,fun n=>absurd rfl n⟩
theorem say_with {cv:V} (dk:DeskA C H d c kvs) (k100:kvs.length<=100) (hz:z.length<=900) (hw:wordsZ z=[v,nm,x]) (hv:v≠("code" : Str)) (hg:rowGood [v,nm,x]=true) (hk:valV kvs (.inr nm)=some cv)
  (q:∀ H',Same H H'->AW [cv,.str v,.str x] H' Q E):spSay A AW C CR CN CT [.ref d,.str z] H Q E:=by
 refine ⟨hz,⟨_,c,dk.1.choose_spec⟩,fun e=>?_,fun _=>⟨c,kvs,dk,k100,?_⟩⟩
 ·rw [hw,hg] at e;cases e
 ·rw [hw]
  refine ⟨fun e=>absurd e hv,fun _=>⟨fun e=>(by rw [hk] at e;cases e),fun cv' e=>?_⟩⟩
  rw [hk] at e
  cases e
  exact q
theorem send_w {k n:Nat} {rows:Om.Rows} {cv:V} {bb:List Bool} {cs:List (List Int)} {ls:List Nat} (hc:DV H cv (codeD k n rows)) (ok:Om.CodeOk k n rows) (hz:z=dashZ (bs bb)) (b3:bb.length<=300) (hb:cs.flatten=bb.map (fun b=>if b=true then (1:Int) else 0)) (hk:∀ c∈cs,c.length=k) (hl:cs.map Om.letterOf=ni ls) (hls:∀ l∈ls,l < 2 ^ k) (l1:ls.length<=100)
  (q:∀ H',Same H H'->Q (.str (dashZ (bs (Om.send rows 0 ls).1))) H'):spSendW [cv,.str ("send" : Str),.str z] H Q E:=⟨k,n,rows,bb,cs,ls,rfl,hc,ok,hz,b3,hb,hk,hl,hls,l1,q⟩
end
end K66
end
section
namespace L2
open PySem PySem.Spec PyProof.Rows
theorem risingT_pw:∀ (p:Str) (l:List Str),risingS p l=true->(p :: l).Pairwise fun a b=>a.cps.toList<=b.cps.toList
 | p,[],_=>List.pairwise_singleton _ _
 | p,x :: r,h=>by
  unfold risingS at h
  rw [Bool.and_eq_true] at h
  have ih:=risingT_pw x r h.2
  have px:p.cps.toList<=x.cps.toList:=by
   have:=h.1
   rw [ltCps_eq] at this
   have:¬ x.cps.toList < p.cps.toList:=by simpa using this
   exact List.not_lt.mp this
  refine List.pairwise_cons.mpr ⟨fun y hy=>?_,ih⟩
  rcases List.mem_cons.mp hy with rfl | z
  ·exact px
  ·exact List.le_trans px (List.rel_of_pairwise_cons ih z)
theorem sortedT_pw:∀ (l:List Str),sortedS l=true->l.Pairwise fun a b=>a.cps.toList<=b.cps.toList
 | [],_=>.nil
 | x :: r,h=>risingT_pw x r h
theorem strU_ext {a b:Str} (h:a.cps.toList=b.cps.toList):a=b:=by
 cases a;cases b
 congr
 exact Array.toList_inj.mp h
theorem sorted_two {zs xs ys:List Str} (hx:xs.Perm zs) (hy:ys.Perm zs) (sx:sortedS xs=true) (sy:sortedS ys=true):xs=ys:=
 (hx.trans hy.symm).eq_of_pairwise (le:=fun a b=>a.cps.toList<=b.cps.toList) (fun a b _ _ h1 h2=>strU_ext (List.le_antisymm h1 h2)) (sortedT_pw xs sx) (sortedT_pw ys sy)
theorem strs_layT {zs:List Str} (h:∀ z∈zs,PyData.strOk z=true):PyData.canLay0 (.list (zs.map PyData.str))=true:=by
 rw [PyData.canLay0]
 refine lay_all fun d hd=>?_
 obtain ⟨n,hm,rfl⟩:=List.mem_map.mp hd
 exact h n hm
theorem strs_shapedT {zs:List Str} (h:∀ z∈zs,PyData.strOk z=true):SeqAt.shaped (.list (zs.map PyData.str))=true:=by
 refine shaped_list (k:=0) (fun d hd=>?_) (fun d hd=>?_) (by decide)
 ·obtain ⟨n,hm,rfl⟩:=List.mem_map.mp hd;exact h n hm
 ·obtain ⟨n,_,rfl⟩:=List.mem_map.mp hd;exact Nat.le_refl _
theorem strs_eqT {zs:List Str} (h:∀ z∈zs,PyData.strOk z=true):PyData.eqv (.list (zs.map PyData.str)) (.list (zs.map PyData.str))=true:=SeqAt.eqv_refl _ (strs_layT h)
theorem small_strOk (l:List Nat) (h:∀ x∈l,97<=x/\x<=122):PyData.strOk (mkS l)=true:=by
 unfold PyData.strOk mkS
 rw [List.all_toArray,List.all_eq_true]
 intro x hx
 have:=h x hx
 exact decide_eq_true (by omega)
end L2
end
section
namespace K66
open PySem L2
section
variable {P:Program} {w:World} {K:PySem.W.Frag} {mg:Str->Option Value} {base:Heap}
def textN:Nat->Str
 | 0=>"1 1 0>0,1>0"
 | 1=>"1 1 1>0,0>0"
 | 2=>"1 2 00>0,11>0"
 | _=>"1 1 0>1,1>0 1>0,0>1"
def wireN:Nat->Str
 | 0=>"101"
 | 1=>"010"
 | 2=>"110011"
 | _=>"100"
def rowsN:Nat->Om.Rows
 | 0=>[[([false],0),([true],0)]]
 | 1=>[[([true],0),([false],0)]]
 | 2=>[[([false,false],0),([true,true],0)]]
 | _=>[[([false],1),([true],0)],[([true],0),([false],1)]]
def wideN:Nat->Nat
 | 2=>2
 | _=>1
theorem code_of:∀ {k:Nat},k < 4->codeT (spB (textN k))=codeD 1 (wideN k) (rowsN k)
 | 0,_=>by kernel_rfl
 | 1,_=>by kernel_rfl
 | 2,_=>by kernel_rfl
 | 3,_=>by kernel_rfl
theorem code_ok:∀ {k:Nat},k < 4->Om.codeOk (codeT (spB (textN k)))=true
 | 0,_=>by decide +kernel
 | 1,_=>by decide +kernel
 | 2,_=>by decide +kernel
 | 3,_=>by decide +kernel
theorem codeN_ok:∀ {k:Nat},k < 4->Om.CodeOk 1 (wideN k) (rowsN k)
 | 0,_=>⟨by decide,by decide,by decide,by decide,by decide,by decide,by decide,by decide⟩
 | 1,_=>⟨by decide,by decide,by decide,by decide,by decide,by decide,by decide,by decide⟩
 | 2,_=>⟨by decide,by decide,by decide,by decide,by decide,by decide,by decide,by decide⟩
 | 3,_=>⟨by decide,by decide,by decide,by decide,by decide,by decide,by decide,by decide⟩
theorem send_of:∀ {k:Nat},k < 4->dashZ (bs (Om.send (rowsN k) 0 [1,0,1]).1)=wireN k
 | 0,_=>by decide +kernel
 | 1,_=>by decide +kernel
 | 2,_=>by decide +kernel
 | 3,_=>by decide +kernel
theorem text_len:∀ {k:Nat},k < 4->(textN k).cps.toList.length<=30
 | 0,_=>by decide +kernel
 | 1,_=>by decide +kernel
 | 2,_=>by decide +kernel
 | 3,_=>by decide +kernel
theorem code_row {xs:List Nat} (sm:Small xs) {k:Nat} (hk:k < 4):(("code " : Str)++mkS xs++(" " : Str)++textN k).length<=900/\wordsZ (("code " : Str)++mkS xs++(" " : Str)++textN k)=[("code" : Str),mkS xs,textN k]/\rowGood [("code" : Str),mkS xs,textN k]=true:=by
 have n32:=small_32 sm
 have e1:("code " : Str)=mkS (("code" : Str).cps.toList++[32]):=by decide +kernel
 have e2:(" " : Str)=mkS [32]:=by decide +kernel
 have e:("code " : Str)++mkS xs++(" " : Str)++textN k=mkS (("code" : Str).cps.toList++32 :: (xs++32 :: (textN k).cps.toList)):=by
  rw [e1,e2,mkS_of (textN k),mkS_app,mkS_app,mkS_app,mkS_cps]
  congr 1
  try simp
 have hc:32 ∉ ("code" : Str).cps.toList:=by decide +kernel
 have hl:("code" : Str).cps.toList.length=4:=by decide +kernel
 have h30:=text_len hk
 have l8:=sm.2.1
 rw [e]
 refine ⟨by rw [mkS_len,List.length_append,List.length_cons,List.length_append,List.length_cons];omega,?_,?_⟩
 ·have hs:=split_head (C:=xs++32 :: (textN k).cps.toList) hc
  rw [<-mkS_of ("code" : Str)] at hs
  have h2:=split_max2 (C:=(textN k).cps.toList) hc n32
  rw [<-mkS_of ("code" : Str),<-mkS_of (textN k)] at h2
  unfold wordsZ spB
  rw [hs]
  exact (if_pos rfl).trans h2
 ·show (nameOk (mkS xs) && fitsZ ("code" : Str) (textN k))=true
  rw [small_ok sm];exact (Bool.true_and _).trans rfl
theorem send_row {xs:List Nat} (sm:Small xs):(("send " : Str)++mkS xs++(" 101" : Str)).length<=900/\wordsZ (("send " : Str)++mkS xs++(" 101" : Str))=[("send" : Str),mkS xs,("101" : Str)]/\rowGood [("send" : Str),mkS xs,("101" : Str)]=true:=by
 have n32:=small_32 sm
 have e1:("send " : Str)=mkS (("send" : Str).cps.toList++[32]):=by decide +kernel
 have e2:(" 101" : Str)=mkS (32 :: ("101" : Str).cps.toList):=by decide +kernel
 have e:("send " : Str)++mkS xs++(" 101" : Str)=mkS (("send" : Str).cps.toList++32 :: (xs++32 :: ("101" : Str).cps.toList)):=by
  rw [e1,e2,mkS_app,mkS_app]
  congr 1
  try simp
 have hc:32 ∉ ("send" : Str).cps.toList:=by decide +kernel
 have hx:32 ∉ ("101" : Str).cps.toList:=by decide +kernel
 have hl:("send" : Str).cps.toList.length=4:=by decide +kernel
 have hl3:("101" : Str).cps.toList.length=3:=by decide +kernel
 have l8:=sm.2.1
 rw [e]
 have hs:=split_3 hc n32 hx
 rw [<-mkS_of ("send" : Str),<-mkS_of ("101" : Str)] at hs
 refine ⟨by rw [mkS_len,List.length_append,List.length_cons,List.length_append,List.length_cons];omega,?_,?_⟩
 ·unfold wordsZ spB
  rw [hs]
  exact if_neg (fun z=>absurd (Option.some.inj z) (by decide +kernel))
 ·show (nameOk (mkS xs) && fitsZ ("send" : Str) ("101" : Str))=true
  rw [small_ok sm,show fitsZ ("send" : Str) ("101" : Str)=true by decide +kernel,Bool.and_self]
def Keys6 (kd kw:List (Key×V)) (n:Nat):Prop:=kd.map (·.1)=kw.map (·.1)/\kd.length<=n/\∀ k∈kd.map (·.1),∃ xs,k = .inr (mkS xs)/\Small xs
def Vals6 (H:Hp) (kd kw:List (Key×V)):Prop:=∀ j,(valV kw j=none/\valV kd j=none)\/∃ k cv,k < 4/\valV kw j=some (.str (wireN k))/\valV kd j=some cv/\DV H cv (codeD 1 (wideN k) (rowsN k))
theorem Vals6.mono {H H':Hp} {kd kw:List (Key×V)} (h:Vals6 H kd kw) (s:Same H H'):Vals6 H' kd kw:=fun j=>(h j).imp id fun ⟨k,cv,a,b,c,d⟩=>⟨k,cv,a,b,c,d.mono s⟩
theorem Vals6.off {H:Hp} {kd kw kvs:List (Key×V)} {c:Addr} {o:HO} (h:Vals6 H kd kw) (hc:H c=some (.dK kvs)):Vals6 (upd H c o) kd kw:=fun j=>(h j).imp id fun ⟨k,cv,a,b,e,d⟩=>⟨k,cv,a,b,e,dv_off hc d (no_code _ _ _)⟩
theorem Vals6.put {H:Hp} {kd kw:List (Key×V)} {i:Key} {cv:V} {k:Nat} (h:Vals6 H kd kw) (hk:k < 4) (d:DV H cv (codeD 1 (wideN k) (rowsN k))):Vals6 H (putK kd i cv) (putK kw i (.str (wireN k))):=fun j=>by
 rw [valV_put,valV_put]
 by_cases e:j=i
 ·rw [if_pos e,if_pos e]
  exact .inr ⟨k,cv,hk,rfl,rfl,d⟩
 ·rw [if_neg e,if_neg e]
  exact h j
theorem putK_keys (i:Key) (x:V) (kvs:List (Key×V)):(putK kvs i x).map (·.1)=if ((kvs.map (·.1)).any fun k=>decide (k=i))=true then kvs.map (·.1) else kvs.map (·.1)++[i]:=by
 have e:((kvs.map (·.1)).any fun k=>decide (k=i))=kvs.any fun kv=>decide (kv.1=i):=by rw [List.any_map];rfl
 rw [e]
 unfold putK
 by_cases h:(kvs.any fun kv=>decide (kv.1=i))=true
 ·rw [if_pos h,if_pos h,List.map_map]
  refine List.map_congr_left fun p _=>?_
  show (if p.1=i then (p.1,x) else p).1=p.1
  split<;>rfl
 ·rw [if_neg h,if_neg h,List.map_append]
  rfl
theorem Keys6.put {kd kw:List (Key×V)} {n:Nat} {i:Key} {x y:V} (h:Keys6 kd kw n) (hi:∃ xs,i = .inr (mkS xs)/\Small xs):Keys6 (putK kd i x) (putK kw i y) (n+1):=by
 obtain ⟨h1,h2,h3⟩:=h
 refine ⟨by rw [putK_keys,putK_keys,h1],Nat.le_trans (length_putK _ _ _) (by omega),fun k hk=>?_⟩
 rw [putK_keys] at hk
 split at hk
 ·exact h3 k hk
 ·rcases List.mem_append.mp hk with z | z
  ·exact h3 k z
  ·have e:k=i:=by simpa using z
   rw [e];exact hi
def keyS:Key->Str
 | .inr s=>s
 | .inl _=>""
theorem Keys6.names {kd kw:List (Key×V)} {n:Nat} (h:Keys6 kd kw n):∃ zs:List Str,kd.map (fun p=>kV p.1)=zs.map V.str/\kw.map (fun p=>kV p.1)=zs.map V.str/\zs.length<=n/\(∀ z∈zs,∃ xs,z=mkS xs/\Small xs):=by
 obtain ⟨h1,h2,h3⟩:=h
 have g:∀ ks:List Key,(∀ k∈ks,∃ xs,k = .inr (mkS xs)/\Small xs)->ks.map kV=(ks.map keyS).map V.str:=fun ks hk=>by
  rw [List.map_map]
  refine List.map_congr_left fun k hm=>?_
  obtain ⟨xs,rfl,_⟩:=hk k hm
  rfl
 refine ⟨(kd.map (·.1)).map keyS,?_,?_,by rw [List.length_map,List.length_map];exact h2,fun z hz=>?_⟩
 ·rw [<-g _ h3,List.map_map];rfl
 ·rw [<-g _ h3,h1,List.map_map];rfl
 ·obtain ⟨k,hm,rfl⟩:=List.mem_map.mp hz
  obtain ⟨xs,rfl,sm⟩:=h3 k hm
  exact ⟨xs,rfl,sm⟩
end
end K66
end
section
namespace K66
open PySem L2
section
variable {P:Program} {w:World} {K:PySem.W.Frag} {mg:Str->Option Value} {base:Heap}
def Pair6 (C:Addr) (H:Hp) (d c w:Addr) (n:Nat):Prop:=∃ kd kw,DeskA C H d c kd/\H w=some (.dK kw)/\Keys6 kd kw n/\Vals6 H kd kw
theorem Pair6.same {C:Addr} {H H':Hp} {d c w:Addr} {n:Nat} (h:Pair6 C H d c w n) (s:Same H H'):Pair6 C H' d c w n:=
 let ⟨kd,kw,a,b,e,f⟩:=h;⟨kd,kw,a.same s,s _ _ b,e,f.mono s⟩
theorem Pair6.le {C:Addr} {H:Hp} {d c w:Addr} {n m:Nat} (h:Pair6 C H d c w n) (l:n<=m):Pair6 C H d c w m:=
 let ⟨kd,kw,a,b,⟨e1,e2,e3⟩,f⟩:=h;⟨kd,kw,a,b,⟨e1,Nat.le_trans e2 l,e3⟩,f⟩
theorem DeskA.off {C:Addr} {H:Hp} {d c b:Addr} {o:HO} {kd kvs:List (Key×V)} (h:DeskA C H d c kd) (hb:H b=some (.dK kvs)) (bc:b≠c):DeskA C (upd H b o) d c kd:=
 ⟨let ⟨dx,e⟩:=h.1;⟨dx,by rw [upd_ne (fun z=>by rw [z,hb] at e;cases e)];exact e⟩,by rw [upd_ne bc.symm];exact h.2⟩
theorem DeskA.put {C d c:Addr} {H H':Hp} {kvs kvs':List (Key×V)} (h:DeskA C H d c kvs) (s:Same H H'):DeskA C (upd H' c (.dK kvs')) d c kvs':=by
 obtain ⟨⟨dx,e⟩,hc⟩:=h
 have dc:d≠c:=fun z=>by rw [z,hc] at e;cases e
 exact ⟨⟨dx,by rw [upd_ne dc];exact s _ _ e⟩,upd_same⟩
theorem Pair6.off {C:Addr} {H:Hp} {d c w b:Addr} {o:HO} {n:Nat} {kvs:List (Key×V)} (h:Pair6 C H d c w n) (hb:H b=some (.dK kvs)) (bc:b≠c) (bw:b≠w):Pair6 C (upd H b o) d c w n:=
 let ⟨kd,kw,a,e,f,g⟩:=h;⟨kd,kw,a.off hb bc,by rw [upd_ne bw.symm];exact e,f,g.off hb⟩
theorem offSame {H H':Hp} {a:Addr} (ha:H a=none) (o:Off (At a) H H'):Same H H':=fun b u e=>o b u e (ne_of_none e ha)
theorem mk_same {H:Hp} {C d dx c:Addr} (hd:H d=none) (hdx:H dx=none) (hc:(upd (upd H dx (.own d)) d (.ins C dx [])) c=none):Same H (upd (upd (upd (upd H dx (.own d)) d (.ins C dx [])) c (.dK [])) d (.ins C dx [("codes",.ref c)])):=by
 refine offSame hd (fun b o e n=>?_)
 have n:b≠d:=n
 rw [upd_ne n]
 refine (Same.upd hc) _ _ ?_
 rw [upd_ne n]
 exact Same.upd hdx _ _ e
theorem mk_old {H:Hp} {d dx b:Addr} {u o o':HO} (e:H b=some u) (hd:H d=none) (hdx:H dx=none):(upd (upd H dx o) d o') b=some u:=by rw [upd_ne (ne_of_none e hd),upd_ne (ne_of_none e hdx)];exact e
theorem gone_nx {tc:TT} {sp:Sp} {ta:TA} {ts:TS} {D:Ends} {σ:St} {H:Hp} (M:St->Hp->Prop) (h1:∀ σ' H',M σ' H'->D.nx σ' H') (h2:∀ nx:St->Hp->Prop,(∀ σ' H',M σ' H'->nx σ' H')->tGone tc sp ta ts { D with nx:=nx } σ H):tGone tc sp ta ts D σ H:=h2 D.nx h1
theorem sqlD {K:PySem.W.Frag} {H:Hp} {sc c:Addr} {xs:List V} {kvs:List (Key×V)} {u:HO} (h:SqL K H sc xs) (hc:H c=some (.dK kvs)):SqL K (upd H c u) sc xs:=by
 rcases h with h | h
 ·refine .inl ?_
  rcases h with e | ⟨x,e⟩
  ·exact .inl (by rw [upd_ne (fun z=>by rw [z,hc] at e;cases e)];exact e)
  ·exact .inr ⟨x,by rw [upd_ne (fun z=>by rw [z,hc] at e;cases e)];exact e⟩
 ·exact .inr h
theorem pair0 {C:Addr} {H:Hp} {d c w:Addr} (h:DeskA C H d c []) (hw:H w=some (.dK [])):Pair6 C H d c w 0:=⟨[],[],h,hw,⟨rfl,Nat.le_refl _,fun k hk=>by cases hk⟩,fun j=>.inl ⟨rfl,rfl⟩⟩
theorem texts_at:∀ {k:Nat},k < 4->([.str ("1 1 0>0,1>0" : Str),.str ("1 1 1>0,0>0" : Str),.str ("1 2 00>0,11>0" : Str),.str ("1 1 0>1,1>0 1>0,0>1" : Str)]:List V)[((k:Nat):Int).toNat]? = some (.str (textN k))
 | 0,_=>rfl
 | 1,_=>rfl
 | 2,_=>rfl
 | 3,_=>rfl
theorem wires_at:∀ {k:Nat},k < 4->([.str ("101" : Str),.str ("010" : Str),.str ("110011" : Str),.str ("100" : Str)]:List V)[((k:Nat):Int).toNat]? = some (.str (wireN k))
 | 0,_=>rfl
 | 1,_=>rfl
 | 2,_=>rfl
 | 3,_=>rfl
theorem lst_off {H:Hp} {L b:Addr} {o:HO} {xs:List V} {kvs:List (Key×V)} (h:H L=some (.lst xs)) (hb:H b=some (.dK kvs)):(upd H b o) L=some (.lst xs):=by rw [upd_ne (fun z=>by rw [z,hb] at h;cases h)];exact h
structure Law6 (K:PySem.W.Frag) (C sc L1 L2:Addr) (ds ws:List V) (ns:List Int) (d c w d' c' w':Addr) (n:Nat) (H:Hp):Prop where
 s:SqL K H sc (ns.map V.int)
 l1:H L1=some (.lst ds)
 l2:H L2=some (.lst ws)
 p:Pair6 C H d c w n
 p':Pair6 C H d' c' w' n
variable {C sc L1 L2:Addr} {ds ws:List V} {ns:List Int} {d c w d' c' w':Addr} {n m:Nat} {H H':Hp}
theorem Law6.same (h:Law6 K C sc L1 L2 ds ws ns d c w d' c' w' n H) (x:Same H H'):Law6 K C sc L1 L2 ds ws ns d c w d' c' w' n H':=⟨h.s.same x,x _ _ h.l1,x _ _ h.l2,h.p.same x,h.p'.same x⟩
theorem Law6.le (h:Law6 K C sc L1 L2 ds ws ns d c w d' c' w' n H) (l:n<=m):Law6 K C sc L1 L2 ds ws ns d c w d' c' w' m H:=⟨h.s,h.l1,h.l2,h.p.le l,h.p'.le l⟩
theorem Law6.swap (h:Law6 K C sc L1 L2 ds ws ns d c w d' c' w' n H):Law6 K C sc L1 L2 ds ws ns d' c' w' d c w n H:=⟨h.s,h.l1,h.l2,h.p',h.p⟩
end
end K66
end
section
namespace K66
open PySem L2
section
variable {P:Program} {w:World} {K:PySem.W.Frag} {mg:Str->Option Value} {base:Heap}
abbrev sLaw:Stmt:=top 109
def spLaw (K:PySem.W.Frag):Sp:=fun vs H Q _=>match vs with
 | [.ref a]=>∃ ns:List Int,SqL K H a (ns.map V.int)/\ns.length<=63/\∀ H',Q (.bl true) H'
 | _=>False
theorem scLaw:FnScope ["script","desks","wires","at","store","which","name","desk","kind","text","wire","one","other"] ["script"] (defScope sLaw):=⟨rfl,rfl,rfl,by decide +kernel,rfl,by decide +kernel,by decide +kernel⟩
local macro_rules | `(tactic| walk_at "T.b")=>`(tactic| first | ((with_reducible refine' fn_lenS ?a0 ?a9 ?a1);(case a0=>with_reducible assumption);(case a9=>rfl);(case a1=>walk_at "T.a")) | ((with_reducible refine' fn_sortT ?a0 ?a9 ?a1);(case a0=>with_reducible assumption);(case a9=>rfl);(case a1=>walk_at "T.a")) | ((with_reducible refine' e_mk "Desk" ?c0 ?c1 ?c2 ?c3 ?c4 ?c5);(case c0=>with_reducible assumption);(case c1=>with_reducible assumption);(case c2=>with_reducible assumption);(case c3=>with_reducible assumption);(case c4=>exact ⟨rfl,rfl,rfl,rfl,rfl⟩);(case c5=>exact Room.mono (by assumption) (by first | decide | exact Nat.le_refl _))) | ((with_reducible refine' e_metK "say" ?c0 ?c8 ?c9 ?c1 ?c3 ?c2);(case c0=>with_reducible assumption);(case c8=>with_reducible assumption);(case c9=>exact ⟨rfl,rfl,rfl,rfl,rfl⟩);(case c1=>exact Room.mono (by assumption) (by first | decide | exact Nat.le_refl _));(case c3=>walk_at "T.e");(case c2=>walk_at "T.a")) | ((with_reducible refine' e_metK0 "names" ?c0 ?c8 ?c9 ?c1 ?c3);(case c0=>with_reducible assumption);(case c8=>with_reducible assumption);(case c9=>exact ⟨rfl,rfl,rfl,rfl,rfl⟩);(case c1=>exact Room.mono (by assumption) (by first | decide | exact Nat.le_refl _));(case c3=>walk_at "T.e")) | fail "no")
local macro_rules | `(tactic| walk_at "T.e")=>`(tactic| ((with_reducible refine' ix_atD ?a0 ?a1 ?a2);(case a0=>exact Room.units (by assumption));(case a1=>walk_at "T.e");(case a2=>walk_at "T.e")))
local macro_rules | `(tactic| walk_at "T.g")=>`(tactic| first | walk_at "T.gn" | ((with_reducible refine' g_subD ?a0 ?a1 ?a2);(case a0=>exact Room.units (by assumption));(case a1=>walk_at "T.e");(case a2=>walk_at "T.e")))
local macro_rules | `(tactic| walk_at "T.cmp")=>`(tactic| first | ((with_reducible refine' op_notInDict ?a0);(case a0=>exact Room.units (by assumption))) | ((with_reducible refine' op_neU ?a1);(case a1=>exact Room.units (by assumption))))
local macro_rules | `(tactic| walk_at "T.ty")=>`(tactic| (with_reducible exact e_dict))
local macro_rules | `(tactic| walk_at "T.st")=>`(tactic| first | ((with_reducible refine' s_thaw ?a0);(case a0=>((with_reducible refine' s_for ?a1 ?a2 ?a3);(case a1=>((with_reducible refine' pi_lstH ?b1);(case b1=>((with_reducible refine' ix_atD ?e0 ?e1 ?e2);(case e0=>exact Room.units (by assumption));(case e1=>with_reducible exact vn "wires" 2);(case e2=>with_reducible exact vn "one" 11)))));(case a2=>walk_at "T.g");(case a3=>walk_at "T.s")))) | fail "no")
local macro_rules | `(tactic| walk_at "T.s")=>`(tactic| ((with_reducible refine' pss_name "_law_name_drawn" "name" 6 ?n0 ?n1 ?n2 ?n3 ?n4 ?n5 (fun u=>?n6) (fun u n hu=>?n7) ?n8);(case n0=>with_reducible assumption);(case n1=>exact ⟨rfl,rfl,rfl,rfl,rfl⟩);(case n2=>exact Room.mono (by assumption) (by first | decide | exact Nat.le_refl _));(case n3=>with_unfolding_all assumption);(case n4=>with_unfolding_all rfl);(case n5=>walk_at "T.a");(case n6=>walk_at "T.st");(case n7=>((with_reducible refine' psB_gone "_law_gone" "name" 6 ?m0 ?m1 ?m2 ?m3 ?m4 ?m5 ?m6 ?m7 ?m8);(case m0=>with_reducible assumption);(case m1=>exact ⟨rfl,rfl,rfl,rfl,rfl⟩);(case m2=>exact Room.mono (by assumption) (by first | decide | exact Nat.le_refl _));(case m3=>rfl);(case m4=>with_reducible assumption);(case m5=>walk_at "T.t");(case m6=>walk_at "T.e");(case m7=>walk_at "T.e");(case m8=>walk_at "T.s")));(case n8=>walk_at "T.s")))
set_option maxHeartbeats 1000000 in
theorem ok_law {f:Addr} {fd:FuncData} {C CR CN CT:Addr} (D:Fun K "law" "law" sLaw f fd) (g1:mg "range" = none) (g2:mg "len" = none) (g3:mg "min" = none) (g4:mg "max" = none) (g5:mg "sorted" = none)
  (c1:Can P w K mg base "_law_cell" 1 ["script","k"] (spCell K)) (c2:Can P w K mg base "_law_store" 1 ["cell"] spStore) (c5:Can P w K mg base "_law_take" 1 ["store","many"] spTake)
  (c6:CanN P w K mg base "_law_name_drawn" 2 ["store"] spName6) (c7:CanG P w K mg base "_law_gone" 9 ["store","desk","name"] 2 (spGone6 C))
  (dk:DeskK K C) (hC:Cls K C) (hI0:CanM0 P w K mg base C "__init__" 1 ["self"] (spInit C)) (mk1:PySem.W.makesIn K C=true) (mk2:PySem.W.keepIn K (.ref C)=true) (mD:mg "Desk" = some (.ref C)) (c10:CanM P w K mg base C "say" 7 ["self","row"] (spSay spNo spSendW C CR CN CT)) (c11:CanM0 P w K mg base C "names" 1 ["self"] (spNames C)):FnOk P w K mg base CX0 10 f fd ["script"] (spLaw K):=by
 obtain ⟨fI,fdI,hI,hMe,hBI⟩:=hI0
 have hMk:Mk K C fI:=⟨mk1,hMe.at_,hMe.fn,mk2⟩
 refine D.ok (k:=9) scLaw (fun vs H Q E h=>?_) (fun cdv A outer s H vs Q E hr h=>?_)
 all_goals
  unfold spLaw at h
  split at h
 ·rfl
 ·exact h.elim
 ·rename_i sc
  obtain ⟨ns,hS,hl,q⟩:=h
  have nd:=scLaw.nd
  refine ⟨_,(by walk_at "T.top"),?_⟩
  intro d0 x0 hd0 hx0 ne0
  refine ⟨x0,upd_same,fun c0 hc0=>⟨rfl,?_⟩⟩
  have dc0:c0≠d0:=fun z=>by rw [z,upd_same] at hc0;cases hc0
  have sA:=mk_same hd0 hx0 hc0
  have dA:DeskA C (upd (upd (upd (upd H x0 (.own d0)) d0 (.ins C x0 [])) c0 (.dK [])) d0 (.ins C x0 [("codes",.ref c0)])) d0 c0 []:=⟨⟨x0,upd_same⟩,by rw [upd_ne dc0];exact upd_same⟩
  generalize upd (upd (upd (upd H x0 (.own d0)) d0 (.ins C x0 [])) c0 (.dK [])) d0 (.ins C x0 [("codes",.ref c0)])=HA at sA dA ⊢
  intro d1 x1 hd1 hx1 ne1
  refine ⟨x1,upd_same,fun c1 hc1=>⟨rfl,?_⟩⟩
  have dc1:c1≠d1:=fun z=>by rw [z,upd_same] at hc1;cases hc1
  have sB:=mk_same hd1 hx1 hc1
  have dB:DeskA C (upd (upd (upd (upd HA x1 (.own d1)) d1 (.ins C x1 [])) c1 (.dK [])) d1 (.ins C x1 [("codes",.ref c1)])) d1 c1 []:=⟨⟨x1,upd_same⟩,by rw [upd_ne dc1];exact upd_same⟩
  have c01:c0≠c1:=ne_of_none (mk_old dA.2 hd1 hx1) hc1
  generalize upd (upd (upd (upd HA x1 (.own d1)) d1 (.ins C x1 [])) c1 (.dK [])) d1 (.ins C x1 [("codes",.ref c1)])=HB at sB dB ⊢
  refine ⟨le_line (Nat.le_of_ble_eq_true rfl),fun L1 hL1=>?_⟩
  have sC:=Same.upd (o:=.lst [.ref d0,.ref d1]) hL1
  have k1:upd HB L1 (.lst [.ref d0,.ref d1]) L1=some (.lst [.ref d0,.ref d1]):=upd_same
  generalize upd HB L1 (.lst [.ref d0,.ref d1])=HC at sC k1 ⊢
  dsimp only [gName]
  have dA1:=(dA.same sB).same sC
  have dB1:=dB.same sC
  intro w0 hw0
  have sD:=Same.upd (o:=.dK []) hw0
  have kw0:upd HC w0 (.dK []) w0=some (.dK []):=upd_same
  have n00:c0≠w0:=ne_of_none dA1.2 hw0
  have n10:c1≠w0:=ne_of_none dB1.2 hw0
  generalize upd HC w0 (.dK [])=HD at sD kw0 ⊢
  intro w1 hw1
  have sE:=Same.upd (o:=.dK []) hw1
  have kw1:upd HD w1 (.dK []) w1=some (.dK []):=upd_same
  have n01:c0≠w1:=ne_of_none (sD _ _ dA1.2) hw1
  have n11:c1≠w1:=ne_of_none (sD _ _ dB1.2) hw1
  have nw:w0≠w1:=ne_of_none kw0 hw1
  generalize upd HD w1 (.dK [])=HE at sE kw1 ⊢
  refine ⟨le_line (Nat.le_of_ble_eq_true rfl),fun L2 hL2=>?_⟩
  have sF:=Same.upd (o:=.lst [.ref w0,.ref w1]) hL2
  have k2:upd HE L2 (.lst [.ref w0,.ref w1]) L2=some (.lst [.ref w0,.ref w1]):=upd_same
  generalize upd HE L2 (.lst [.ref w0,.ref w1])=HF at sF k2 ⊢
  dsimp only [gName]
  have sCF:=(sD.trans sE).trans sF
  have sHF:Same H HF:=((sA.trans sB).trans sC).trans sCF
  have f0:∀ o' u',H w0≠some (.frz o' u'):=fun o' u' e=>by
   have:=(((sA.trans sB).trans sC)) _ _ e
   rw [hw0] at this;cases this
  have f1:∀ o' u',H w1≠some (.frz o' u'):=fun o' u' e=>by
   have:=(((sA.trans sB).trans sC).trans sD) _ _ e
   rw [hw1] at this;cases this
  have L0:Law6 K C sc L1 L2 [.ref d0,.ref d1] [.ref w0,.ref w1] ns d0 c0 w0 d1 c1 w1 0 HF:=⟨hS.same sHF,sCF _ _ k1,k2,pair0 (dA1.same sCF) ((sE.trans sF) _ _ kw0),pair0 (dB1.same sCF) (sF _ _ kw1)⟩
  clear dA dB dA1 dB1 k1 k2 kw0 kw1 hd0 hx0 hc0 hd1 hx1 hc1 hL1 hL2 ne0 ne1 dc0 dc1 hS
  refine ⟨_,L0.s,?_⟩
  have b30:∀ m:Int,(if (30:Int) < m then (30:Int) else m)<=30:=fun m=>by split<;>omega
  refine ⟨by split<;>split<;>omega,by split<;>split<;>omega,for_by (it_range 0 _) (fun i σ H2=>∃ (v3 v4 v5 v6 v7 v8 v9 v10 v11 v12:Option V),σ=[some (.ref sc),some (.ref L1),some (.ref L2),v3,v4,v5,v6,v7,v8,v9,v10,v11,v12]/\Law6 K C sc L1 L2 [.ref d0,.ref d1] [.ref w0,.ref w1] ns d0 c0 w0 d1 c1 w1 i H2)
   ⟨none,none,none,none,none,none,none,none,none,none,rfl,L0⟩ (fun _ _ _ _ _=>trivial) ?_ ?_⟩
  ·rintro i x σ H0 hi hx ⟨v3,v4,v5,v6,v7,v8,v9,v10,v11,v12,rfl,l0⟩
   rw [List.length_map,List.length_range] at hi
   have ez:x = .int (i:Nat):=by
    rw [List.getElem?_map,List.getElem?_range hi] at hx
    have:=(Option.some.inj hx).symm
    rw [this];simp
   subst ez
   have hi30:i < 30:=by
    have:=b30 (if (4:Int) > (((ns.map V.int).length:Nat):Int) then 4 else (((ns.map V.int).length:Nat):Int))
    omega
   refine ⟨ns,l0.s,by omega,by omega,fun cl=>?_⟩
   intro a g b ha
   refine ⟨⟨_,_,_,upd_same⟩,by decide,by decide,fun r H1 r0 r2 st1 o1=>?_⟩
   have o1:Off (At a) H0 H1:=((Same.upd ha).off).trans o1
   refine ⟨st1,fun xs H2 sm st2 o2=>⟨_,rfl,?_⟩⟩
   have o2:=o1.trans o2
   have l2:=l0.same (offSame ha o2)
   obtain ⟨d,c,w',d',c',w'',forth,gd,gw,ncc,ncw,ncx,ndw,ndx,nww,back⟩ : ∃ d c w' d' c' w'',(∀ m H',Law6 K C sc L1 L2 [.ref d0,.ref d1] [.ref w0,.ref w1] ns d0 c0 w0 d1 c1 w1 m H'->Law6 K C sc L1 L2 [.ref d0,.ref d1] [.ref w0,.ref w1] ns d c w' d' c' w'' m H')/\([.ref d0,.ref d1]:List V)[r.toNat]? = some (.ref d)/\([.ref w0,.ref w1]:List V)[r.toNat]? = some (.ref w')/\c≠c'/\c≠w'/\c≠w''/\c'≠w'/\c'≠w''/\w'≠w'' ∧
     ∀ m H',Law6 K C sc L1 L2 [.ref d0,.ref d1] [.ref w0,.ref w1] ns d c w' d' c' w'' m H'->Law6 K C sc L1 L2 [.ref d0,.ref d1] [.ref w0,.ref w1] ns d0 c0 w0 d1 c1 w1 m H':=by
    rcases (show r=0\/r=1 by omega) with rfl | rfl
    ·exact ⟨d0,c0,w0,d1,c1,w1,fun _ _ h=>h,rfl,rfl,c01,n00,n01,n10,n11,nw,fun _ _ h=>h⟩
    ·exact ⟨d1,c1,w1,d0,c0,w0,fun _ _ h=>h.swap,rfl,rfl,c01.symm,n11,n10,n01,n00,nw.symm,fun _ _ h=>h.swap⟩
   have lw:=forth _ _ l2
   dsimp only [gName]
   refine .inl ⟨.ref d,gl lw.l1 r0 gd,?_⟩
   dsimp only [gName,List.set]
   refine gone_nx (fun σ H3=>σ=[some (.ref sc),some (.ref L1),some (.ref L2),some (.int (i:Nat)),some (.ref a),some (.int r),some (.str (mkS xs)),some (.ref d),v8,v9,v10,v11,v12]/\Sto H3 a/\Off (At a) H0 H3) ?_ (fun nx fin=>?_)
   rotate_left
   ·refine .inl ⟨.ref w',gl lw.l2 r0 gw,?_⟩
    obtain ⟨kd,kw,dk0,hw,⟨e1,e2,e3⟩,vals⟩:=lw.p
    refine ⟨w',valV kw (.inr (mkS xs)),rfl,DGet.k (k:=.inr (mkS xs)) hw,?_⟩
    rcases vals (.inr (mkS xs)) with ⟨z1,z2⟩ | ⟨k,cv,z0,z1,z2,z3⟩
    ·rw [z1]
     refine iteP rfl ?_
     refine ⟨xs,c,kd,rfl,sm,st2,dk0,by omega,z2,fun H3 st3 o3=>⟨true,rfl,?_⟩⟩
     exact fin _ _ ⟨rfl,st3,fun y o e n=>o3 y o (o2 y o e n) n⟩
    ·rw [z1]
     exact fin _ _ ⟨rfl,st2,o2⟩
   rintro σ H3 ⟨rfl,st3,o3⟩
   have l3:=l0.same (offSame ha o3)
   dsimp only
   refine seq_nx (fun σ H4=>∃ (y8 y9 y10:Option V),σ=[some (.ref sc),some (.ref L1),some (.ref L2),some (.int (i:Nat)),some (.ref a),some (.int r),some (.str (mkS xs)),some (.ref d),y8,y9,y10,v11,v12]/\Law6 K C sc L1 L2 [.ref d0,.ref d1] [.ref w0,.ref w1] ns d0 c0 w0 d1 c1 w1 (i+1) H4) ?_ (fun nx fin=>?_)
   rotate_left
   ·dsimp only [tIfS,tBU,tOp,tV,tC,tNext]
    refine ⟨st3,by decide,by decide,fun r3 H4 r30 r33 st4 o4=>?_⟩
    have o4:=o3.trans o4
    refine ite2 (fun _=>?_) (fun _=>?_)
    rotate_left
    ·exact fin _ _ ⟨_,_,_,rfl,(l0.same (offSame ha o4)).le (Nat.le_succ _)⟩
    ·refine ⟨st4,by decide,by decide,fun r4 H5 r40 r44 st5 o5=>?_⟩
     have o5:=o4.trans o5
     obtain ⟨k,rfl⟩:=Int.eq_ofNat_of_zero_le r40
     have hk:k < 4:=by omega
     have l5:=forth _ _ (l0.same (offSame ha o5))
     refine ⟨le_line (Nat.le_of_ble_eq_true rfl),fun p1 hp1=>.inl ⟨.str (textN k),gl upd_same r40 (texts_at hk),?_⟩⟩
     have l6:=l5.same (Same.upd (o:=.lst [.str ("1 1 0>0,1>0" : Str),.str ("1 1 1>0,0>0" : Str),.str ("1 2 00>0,11>0" : Str),.str ("1 1 0>1,1>0 1>0,0>1" : Str)]) hp1)
     generalize upd H5 p1 (.lst [.str ("1 1 0>0,1>0" : Str),.str ("1 1 1>0,0>0" : Str),.str ("1 2 00>0,11>0" : Str),.str ("1 1 0>1,1>0 1>0,0>1" : Str)])=H6 at l6 ⊢
     refine ⟨le_line (Nat.le_of_ble_eq_true rfl),fun p2 hp2=>.inl ⟨.str (wireN k),gl upd_same r40 (wires_at hk),?_⟩⟩
     have l7:=l6.same (Same.upd (o:=.lst [.str ("101" : Str),.str ("010" : Str),.str ("110011" : Str),.str ("100" : Str)]) hp2)
     generalize upd H6 p2 (.lst [.str ("101" : Str),.str ("010" : Str),.str ("110011" : Str),.str ("100" : Str)])=H7 at l7 ⊢
     refine .inl ⟨.ref w',gl l7.l2 r0 gw,?_⟩
     obtain ⟨kd,kw,dk7,hw7,keys,vals⟩:=l7.p
     have kwl:kw.length<=i:=by have:=congrArg List.length keys.1;rw [List.length_map,List.length_map] at this;have:=keys.2.1;omega
     refine .inr ⟨w',_,rfl,DPut.k (k:=.inr (mkS xs)) hw7 (lt_line (by omega)),?_⟩
     have dk8:=dk7.off (o:=.dK (putK kw (.inr (mkS xs)) (.str (wireN k)))) hw7 ncw.symm
     have vals8:=vals.off (o:=.dK (putK kw (.inr (mkS xs)) (.str (wireN k)))) hw7
     have p8:=l7.p'.off (o:=.dK (putK kw (.inr (mkS xs)) (.str (wireN k)))) hw7 ndw.symm nww
     have s8:=sqlD (u:=.dK (putK kw (.inr (mkS xs)) (.str (wireN k)))) l7.s hw7
     have a8:=lst_off (o:=.dK (putK kw (.inr (mkS xs)) (.str (wireN k)))) l7.l1 hw7
     have b8:=lst_off (o:=.dK (putK kw (.inr (mkS xs)) (.str (wireN k)))) l7.l2 hw7
     have w8:upd H7 w' (.dK (putK kw (.inr (mkS xs)) (.str (wireN k)))) w'=some (.dK (putK kw (.inr (mkS xs)) (.str (wireN k)))):=upd_same
     generalize upd H7 w' (.dK (putK kw (.inr (mkS xs)) (.str (wireN k))))=H8 at dk8 vals8 p8 s8 a8 b8 w8 ⊢
     obtain ⟨⟨dx8,hd8⟩,_⟩:=id dk8
     refine ⟨d,dx8,_,rfl,hd8,by rfl,?_⟩
     obtain ⟨cl,cw,cg⟩:=code_row sm hk
     have tl:=text_len hk
     have x8:(mkS xs).length<=8:=by rw [mkS_len];exact sm.2.1
     have q5:("code " : Str).length=5:=by decide +kernel
     have q1:(" " : Str).length=1:=by decide +kernel
     have t30:(textN k).length<=30:=by simpa [Str.length] using tl
     have u1:("code " : Str).length+(mkS xs).length<=sizeLine:=le_line (by omega)
     have u2:(("code " : Str)++mkS xs).length+(" " : Str).length<=sizeLine:=le_line (by rw [Str.length_append];omega)
     have u3:(("code " : Str)++mkS xs++(" " : Str)).length+(textN k).length<=sizeLine:=le_line (by rw [Str.length_append,Str.length_append];omega)
     refine ⟨u1,u2,u3,?_⟩
     refine say_code (nm:=mkS xs) (x:=textN k) dk8 (by have:=keys.2.1;omega) cl cw cg (code_ok hk) fun cv H9 s9 dv9=>?_
     rw [code_of hk] at dv9
     have dk9:=dk8.same s9
     have vals9:=(vals8.mono s9).off (o:=.dK (putK kd (.inr (mkS xs)) cv)) dk9.2
     have dvc:=dv_off (o:=.dK (putK kd (.inr (mkS xs)) cv)) dk9.2 dv9 (no_code _ _ _)
     have p9:=(p8.same s9).off (o:=.dK (putK kd (.inr (mkS xs)) cv)) dk9.2 ncc ncx
     have dkN:DeskA C (upd H9 c (.dK (putK kd (.inr (mkS xs)) cv))) d c (putK kd (.inr (mkS xs)) cv):=dk8.put s9
     have wN:upd H9 c (.dK (putK kd (.inr (mkS xs)) cv)) w'=some (.dK (putK kw (.inr (mkS xs)) (.str (wireN k)))):=by rw [upd_ne ncw.symm];exact s9 _ _ w8
     have LN:=back (i+1) _ ⟨sqlD (s8.same s9) dk9.2,lst_off (s9 _ _ a8) dk9.2,lst_off (s9 _ _ b8) dk9.2,⟨_,_,dkN,wN,keys.put ⟨xs,rfl,sm⟩,vals9.put hk dvc⟩,p9.le (Nat.le_succ _)⟩
     generalize ("ok" : Str)=zk
     refine ite2 (fun e=>absurd e (by simp)) (fun _=>?_)
     exact fin _ _ ⟨_,_,_,rfl,LN⟩
   clear lw gd gw back forth st1 st2 st3 o1 o2 o3 l3
   rintro σ H4 ⟨y8,y9,y10,rfl,l4⟩
   refine ⟨by decide,by decide,for_by (it_range 0 _) (fun _ σ H5=>∃ (y11 y12:Option V),σ=[some (.ref sc),some (.ref L1),some (.ref L2),some (.int (i:Nat)),some (.ref a),some (.int r),some (.str (mkS xs)),some (.ref d),y8,y9,y10,y11,y12]/\Law6 K C sc L1 L2 [.ref d0,.ref d1] [.ref w0,.ref w1] ns d0 c0 w0 d1 c1 w1 (i+1) H5)
    ⟨_,_,rfl,l4⟩ (fun _ _ _ _ _=>trivial) ?_ ?_⟩
   rotate_left
   ·rintro σ H5 ⟨y11,y12,rfl,l5⟩
    exact ⟨_,_,_,_,_,_,_,_,_,_,rfl,l5⟩
   clear l4 ncc ncw ncx ndw ndx nww d' c' w''
   rintro j x σ H5 hj hx ⟨y11,y12,rfl,l5⟩
   have hj2:j < 2:=by rw [List.length_map,List.length_range] at hj;exact hj
   have ez:x = .int (j:Nat):=by
    have er:(List.range (Int.toNat 2))[j]? = some j:=List.getElem?_range hj2
    rw [List.getElem?_map,er] at hx
    have:=(Option.some.inj hx).symm
    rw [this];simp
   subst ez
   obtain ⟨e,c',w'',e',c'',w3,gd,gw,back,ncw,ff⟩ : ∃ e c' w'' e' c'' w3,([.ref d0,.ref d1]:List V)[((j:Nat):Int).toNat]? = some (.ref e)/\([.ref w0,.ref w1]:List V)[((j:Nat):Int).toNat]? = some (.ref w'')/\Law6 K C sc L1 L2 [.ref d0,.ref d1] [.ref w0,.ref w1] ns e c' w'' e' c'' w3 (i+1) H5/\c'≠w''/\∀ o' u',H w''≠some (.frz o' u'):=by
    rcases (show j=0\/j=1 by omega) with rfl | rfl
    ·exact ⟨d0,c0,w0,d1,c1,w1,rfl,rfl,l5,n00,f0⟩
    ·exact ⟨d1,c1,w1,d0,c0,w0,rfl,rfl,l5.swap,n11,f1⟩
   obtain ⟨kd,kw,dk5,hw5,keys,vals⟩:=back.p
   obtain ⟨zs,zd,zw,zl,zg⟩:=keys.names
   obtain ⟨⟨dx5,hd5⟩,_⟩:=id dk5
   have z64:zs.length < 64:=by omega
   dsimp only [gName]
   refine seq_nx (fun σ H6=>σ=[some (.ref sc),some (.ref L1),some (.ref L2),some (.int (i:Nat)),some (.ref a),some (.int r),some (.str (mkS xs)),some (.ref d),y8,y9,y10,some (.int (j:Nat)),y12]/\Same H5 H6) ?_ (fun nx fin=>?_)
   rotate_left
   ·dsimp only [tIfS,tBU,tOp,tV,tC,tNext]
    refine .inl ⟨.ref e,gl l5.l1 (Int.natCast_nonneg _) gd,?_⟩
    refine ⟨e,dx5,_,rfl,hd5,by rfl,?_⟩
    refine ⟨c',kd,zs,dk5,zd,z64,fun l ys hl0 py sy=>?_⟩
    have s6:=Same.upd (o:=.lst (ys.map V.str)) hl0
    have kl:upd H5 l (.lst (ys.map V.str)) l=some (.lst (ys.map V.str)):=upd_same
    generalize upd H5 l (.lst (ys.map V.str))=H6 at s6 kl ⊢
    refine .inl ⟨.ref w'',gl (s6 _ _ l5.l2) (Int.natCast_nonneg _) gw,?_⟩
    refine ⟨w'',kw,zs,rfl,.inl (s6 _ _ hw5),zw,z64,fun l' ys' hl1 py' sy'=>?_⟩
    obtain rfl:=sorted_two py py' sy sy'
    have hok:∀ z∈ys,PyData.strOk z=true:=fun z hz=>by
     obtain ⟨xs2,rfl,sm2⟩:=zg z (py.subset hz)
     exact small_strOk xs2 sm2.2.2
    have s7:=Same.upd (o:=.lst (ys.map V.str)) hl1
    refine ⟨_,_,.lst (s7 _ _ kl) (dvsS _),.lst upd_same (dvsS _),strs_shapedT hok,strs_shapedT hok,?_⟩
    obtain ⟨eb,eb1,eb2⟩ : ∃ eb,PyData.eqv (.list (ys.map PyData.str)) (.list (ys.map PyData.str))=eb/\eb=true:=⟨_,rfl,strs_eqT hok⟩
    rw [eb1]
    refine ite2 (fun e=>absurd e (by rw [eb2];decide)) (fun _=>?_)
    exact fin _ _ ⟨rfl,s6.trans s7⟩
   rintro σ H6 ⟨rfl,s6⟩
   dsimp only [tThaw,gName]
   refine .inl ⟨.ref w'',gl (s6 _ _ l5.l2) (Int.natCast_nonneg _) gw,?_⟩
   refine ⟨kw,.inl (s6 _ _ hw5),fun o H7 h7 t7=>?_⟩
   have sZ:Same (upd H6 w'' (.frz o (.dK kw))) H7:=fun b u eb=>by
    by_cases z:b=w''
    ·subst z
     rw [upd_same] at eb
     cases eb
     exact h7
    ·rw [upd_ne z] at eb
     exact t7 b u z eb
   have dk7:=((dk5.same s6).off (o:=.frz o (.dK kw)) (s6 _ _ hw5) ncw.symm).same sZ
   have vals7:=((vals.mono s6).off (o:=.frz o (.dK kw)) (s6 _ _ hw5)).mono sZ
   have a7:=sZ _ _ (lst_off (o:=.frz o (.dK kw)) (s6 _ _ l5.l1) (s6 _ _ hw5))
   have b7:=sZ _ _ (lst_off (o:=.frz o (.dK kw)) (s6 _ _ l5.l2) (s6 _ _ hw5))
   refine for_by (it_keys w'' o (kw.map fun p=>kV p.1)) (fun _ σ H8=>∃ (y12:Option V),σ=[some (.ref sc),some (.ref L1),some (.ref L2),some (.int (i:Nat)),some (.ref a),some (.int r),some (.str (mkS xs)),some (.ref d),y8,y9,y10,some (.int (j:Nat)),y12]/\Same H7 H8)
    ⟨_,rfl,Same.refl _⟩ (fun _ _ _ _ ⟨_,_,s8⟩=>⟨_,s8 _ _ h7⟩) ?_ ?_
   rotate_left
   ·rintro σ H8 ⟨y12,rfl,s8⟩
    refine ⟨w'',o,.dK kw,s8 _ _ h7,trivial,ff,⟨_,_,rfl,l5.same fun b u eb=>?_⟩⟩
    by_cases z:b=w''
    ·subst z
     rw [upd_same,<-hw5,eb]
    ·rw [upd_ne z]
     exact s8 _ _ (sZ _ _ (by rw [upd_ne z];exact s6 _ _ eb))
   ·rintro m x σ H8 hm hx ⟨y12,rfl,s8⟩
    obtain ⟨p,hp,rfl⟩:=List.mem_map.mp (List.mem_of_getElem? hx)
    obtain ⟨xs2,ep,sm2⟩:=keys.2.2 p.1 (by rw [keys.1];exact List.mem_map_of_mem hp)
    have some1:(valV kw (.inr (mkS xs2))).isSome=true:=by
     rw [<-valV_any,List.any_eq_true]
     exact ⟨p,hp,decide_eq_true ep⟩
    rw [ep]
    rcases vals7 (.inr (mkS xs2)) with ⟨z1,_⟩ | ⟨k,cv,hk,z1,z2,z3⟩
    ·rw [z1] at some1;cases some1
    obtain ⟨sl,sw,sg⟩:=send_row sm2
    have x8:(mkS xs2).length<=8:=by rw [mkS_len];exact sm2.2.1
    have q5:("send " : Str).length=5:=by decide +kernel
    have q4:(" 101" : Str).length=4:=by decide +kernel
    have u1:("send " : Str).length+(mkS xs2).length<=sizeLine:=le_line (by omega)
    have u2:(("send " : Str)++mkS xs2).length+(" 101" : Str).length<=sizeLine:=le_line (by rw [Str.length_append];omega)
    have dk8:=dk7.same s8
    obtain ⟨⟨dx8,hd8⟩,_⟩:=id dk8
    refine .inl ⟨.ref e,gl (s8 _ _ a7) (Int.natCast_nonneg _) gd,?_⟩
    refine ⟨e,dx8,_,rfl,hd8,by rfl,?_⟩
    refine ⟨u1,u2,?_⟩
    refine say_with (cv:=cv) (v:= "send") (nm:=mkS xs2) (x:= "101") dk8 (by have:=keys.2.1;omega) sl sw (by decide +kernel) sg z2 fun H9 s9=>?_
    refine send_w (bb:=[true,false,true]) (cs:=[[1],[0],[1]]) (ls:=[1,0,1]) (z3.mono (s8.trans s9)) (codeN_ok hk) (by decide +kernel) (by decide) (by decide) (by decide) (by decide +kernel) (by decide) (by decide) fun H10 s10=>?_
    rw [send_of hk]
    have sX:=(s8.trans s9).trans s10
    refine .inl ⟨.ref w'',gl (sX _ _ b7) (Int.natCast_nonneg _) gw,?_⟩
    have dg:DGet H10 w'' (.str (mkS xs2)) (some (.str (wireN k))):=.inl ⟨kw,.inr (mkS xs2),.inr ⟨o,sX _ _ h7⟩,rfl,z1.symm⟩
    refine .inr ⟨w'',.str (wireN k),rfl,dg,?_⟩
    generalize wireN k=zk
    refine ite2 (fun e=>absurd e (by simp)) (fun _=>?_)
    exact ⟨_,rfl,sX⟩
  ·rintro σ H2 ⟨v3,v4,v5,v6,v7,v8,v9,v10,v11,v12,rfl,l2⟩
   exact q _
 ·exact h.elim
end
end K66
end
section
namespace K66
open PySem L2
theorem fnX_1 {K:PySem.W.Frag} {h:Heap} {mg:Str->Option Value} {x:Str} {st:Stmt} {p0:Str} (D:DefIn K x st) (X:K.In h) (G:h.Ns mainGlobals mg)
  (hb:∀ (kV doc pm:Value) (an:Option Addr) (cdv ct:Value) (a0:Value),bindArgs (PySem.W.fnOf x x (defArgs st) (defBody st) (defScope st) .none kV doc pm an cdv ct) ⟨[a0],[]⟩=pure ([p0].zip [a0])):FnX K mg x st [p0]:=
 D.fnX X G fun kV doc pm an cdv ct us hl=>match us,hl with
  | [a0],_=>hb kV doc pm an cdv ct a0
theorem fnX_2 {K:PySem.W.Frag} {h:Heap} {mg:Str->Option Value} {x:Str} {st:Stmt} {p0 p1:Str} (D:DefIn K x st) (X:K.In h) (G:h.Ns mainGlobals mg)
  (hb:∀ (kV doc pm:Value) (an:Option Addr) (cdv ct:Value) (a0 a1:Value),bindArgs (PySem.W.fnOf x x (defArgs st) (defBody st) (defScope st) .none kV doc pm an cdv ct) ⟨[a0,a1],[]⟩=pure ([p0,p1].zip [a0,a1])):FnX K mg x st [p0,p1]:=
 D.fnX X G fun kV doc pm an cdv ct us hl=>match us,hl with
  | [a0,a1],_=>hb kV doc pm an cdv ct a0 a1
theorem fnX_3 {K:PySem.W.Frag} {h:Heap} {mg:Str->Option Value} {x:Str} {st:Stmt} {p0 p1 p2:Str} (D:DefIn K x st) (X:K.In h) (G:h.Ns mainGlobals mg)
  (hb:∀ (kV doc pm:Value) (an:Option Addr) (cdv ct:Value) (a0 a1 a2:Value),bindArgs (PySem.W.fnOf x x (defArgs st) (defBody st) (defScope st) .none kV doc pm an cdv ct) ⟨[a0,a1,a2],[]⟩=pure ([p0,p1,p2].zip [a0,a1,a2])):FnX K mg x st [p0,p1,p2]:=
 D.fnX X G fun kV doc pm an cdv ct us hl=>match us,hl with
  | [a0,a1,a2],_=>hb kV doc pm an cdv ct a0 a1 a2
theorem fnX_4 {K:PySem.W.Frag} {h:Heap} {mg:Str->Option Value} {x:Str} {st:Stmt} {p0 p1 p2 p3:Str} (D:DefIn K x st) (X:K.In h) (G:h.Ns mainGlobals mg)
  (hb:∀ (kV doc pm:Value) (an:Option Addr) (cdv ct:Value) (a0 a1 a2 a3:Value),bindArgs (PySem.W.fnOf x x (defArgs st) (defBody st) (defScope st) .none kV doc pm an cdv ct) ⟨[a0,a1,a2,a3],[]⟩=pure ([p0,p1,p2,p3].zip [a0,a1,a2,a3])):FnX K mg x st [p0,p1,p2,p3]:=
 D.fnX X G fun kV doc pm an cdv ct us hl=>match us,hl with
  | [a0,a1,a2,a3],_=>hb kV doc pm an cdv ct a0 a1 a2 a3
def TupIn2 (K:PySem.W.Frag) (x:Str) (zs:List Str):Prop:=∃ (a:Addr) (o:Obj) (its:Array Value) (n:Nat),PySem.W.nsIn K mainGlobals x=some (some (.ref a))/\K.lookup a=some o/\o.cls = .type "tuple"/\o.data = .seq its n/\its.size<=sizeLine/\Vals (zs.map V.str) its.toList
theorem tq_mk {K:PySem.W.Frag} {x:Str} {zs:List Str} {v:Value} {a:Addr} {o:Obj} {its:Array Value} {n:Nat} (h:PySem.W.nsIn K mainGlobals x=some (some v)) (e:v = .ref a) (l:K.lookup a=some o) (c:o.cls = .type "tuple") (d:o.data = .seq its n) (z:its.size<=sizeLine) (r:Vals (zs.map V.str) its.toList):TupIn2 K x zs:=⟨a,o,its,n,by rw [h,e],l,c,d,z,r⟩
theorem tu_of {K:PySem.W.Frag} {h:Heap} {mg:Str->Option Value} {x:Str} {zs:List Str} (X:K.In h) (G:h.Ns mainGlobals mg) (t:TupIn2 K x zs):∃ a,TupAt K mg x a zs:=by
 obtain ⟨a,o,its,n,h1,h2,h3,h4,h5,h6⟩:=t
 exact ⟨a,PySem.W.mg_of X G h1,fun H=>.inr ⟨o,its,n,h2,h3,h4,h5,h6⟩⟩
def MtIn (K:PySem.W.Frag) (C:Addr) (m qn:Str) (st:Stmt):Prop:=∃ (f:Addr) (oc:Value) (od an:Option Addr) (osl:Array (Option Value)) (kV dc pm cd ct:Value),PySem.W.findIn K (.ref C) m=some (some (.ref f)) ∧
 K.lookup f=some ⟨oc,od,.func (PySem.W.fnOf m qn (defArgs st) (defBody st) (defScope st) .none kV dc pm an cd ct),osl⟩/\PySem.W.codeIn K cd qn=true/\PySem.W.keepIn K (.ref f)=true/\PySem.W.isFn K (.ref f)=true
theorem MtIn.mk {K:PySem.W.Frag} {C:Addr} {m qn:Str} {st:Stmt} {f:Addr} {oc:Value} {od an:Option Addr} {osl:Array (Option Value)} {kV dc pm cd ct:Value} (a:PySem.W.findIn K (.ref C) m=some (some (.ref f)))
  (l:K.lookup f=some ⟨oc,od,.func (PySem.W.fnOf m qn (defArgs st) (defBody st) (defScope st) .none kV dc pm an cd ct),osl⟩) (c:PySem.W.codeIn K cd qn=true) (k:PySem.W.keepIn K (.ref f)=true) (i:PySem.W.isFn K (.ref f)=true):MtIn K C m qn st:=⟨f,oc,od,an,osl,kV,dc,pm,cd,ct,a,l,c,k,i⟩
theorem MtIn.mtx {K:PySem.W.Frag} {C:Addr} {m qn:Str} {st:Stmt} {ps:List Str} (D:MtIn K C m qn st)
  (hb:∀ (kV doc pm:Value) (an:Option Addr) (cdv ct:Value) (us:List Value),us.length=ps.length->bindArgs (PySem.W.fnOf m qn (defArgs st) (defBody st) (defScope st) .none kV doc pm an cdv ct) ⟨us,[]⟩=pure (ps.zip us)):MtX K C m qn st ps:=by
 obtain ⟨f,oc,od,an,osl,kV,dc,pm,cd,ct,h1,h2,h3,h4,h5⟩:=D
 have F:=fun_mk (x:=m) (st:=st) h2 h3 h4
 exact ⟨f,_,F,⟨h1,h5,h4⟩,F.binds hb⟩
theorem deskK_mk {K:PySem.W.Frag} {C:Addr} (a1:PySem.W.plainGet K C Str.empty=true) (a2:PySem.W.hasDictIn K C=true) (a3:PySem.W.plainOver K C=true) (a4:PySem.W.findIn K (.ref C) "__setattr__" = some (some (.builtin "object.__setattr__"))) (a5:PySem.W.findIn K (.ref C) "codes" = some none):DeskK K C:=⟨⟨a1,a2,a3,a4⟩,a5⟩
theorem all_mk {l:PySem.W.OpenLaw} {w:World} {K:PySem.W.Frag} {h:Heap} {mg:Str->Option Value} {fa:Addr} (X:K.In h) (G:h.Ns mainGlobals mg) (hfa:mg "law" = some (.ref fa))
  (d1:DefIn K "is_whole" sWhole) (d2:DefIn K "is_within" sWithin) (d3:DefIn K "is_word" sWord) (d4:DefIn K "is_row" sRow) (d5:DefIn K "is_state" sState) (d6:DefIn K "is_code" sCode) (d7:DefIn K "number_of" sNum) (d8:DefIn K "row_of" sRowOf) (d9:DefIn K "state_of" sStateOf) (d10:DefIn K "code_of" sCodeOf) (d11:DefIn K "read_code" sReadCode) (d12:DefIn K "is_letter" sLetter) (d13:DefIn K "is_letter_list" sLetterL) (d14:DefIn K "sent" sSent) (d15:DefIn K "letter_of" sLetterOf) (d16:DefIn K "letters" sLetters) (d17:DefIn K "answer" sAnswer) (d18:DefIn K "answer_with" sAnswerWith) (d19:DefIn K "is_name" sName) (d20:DefIn K "is_signs" sSigns) (d21:DefIn K "fits" sFits) (d22:DefIn K "are_words" sAreWords) (d23:DefIn K "words_in" sWordsIn) (d27:DefIn K "_law_class" sClass) (d28:DefIn K "_law_refused" sRefd) (d29:DefIn K "_law_cell" sCell) (d30:DefIn K "_law_store" sStore) (d31:DefIn K "_law_take" sTake) (d32:DefIn K "_law_name_drawn" sName6) (d33:DefIn K "_law_gone" sGone) {xD:Addr} (hD:PySem.W.nsIn K mainGlobals "Desk" = some (some (.ref xD))) (dk:DeskK K xD) (mk1:PySem.W.makesIn K xD=true) (mk2:PySem.W.keepIn K (.ref xD)=true) (d24:MtIn K xD "__init__" "Desk.__init__" sInit) (d25:MtIn K xD "names" "Desk.names" sNames) (d26:MtIn K xD "say" "Desk.say" sSay) (dl:DefIn K "law" sLaw)
  (z1:PySem.W.nsIn K mainGlobals "len" = some none) (z2:PySem.W.nsIn K mainGlobals "range" = some none) (z3:PySem.W.nsIn K mainGlobals "isinstance" = some none) (z4:PySem.W.nsIn K mainGlobals "int" = some none) (z5:PySem.W.nsIn K mainGlobals "bool" = some none) (z6:PySem.W.nsIn K mainGlobals "list" = some none) (z7:PySem.W.nsIn K mainGlobals "str" = some none) (z8:PySem.W.nsIn K mainGlobals "tuple" = some none) (z9:PySem.W.nsIn K mainGlobals "all" = some none) (z10:PySem.W.nsIn K mainGlobals "max" = some none) (z11:PySem.W.nsIn K mainGlobals "min" = some none) (z12:PySem.W.nsIn K mainGlobals "sorted" = some none) (z13:PySem.W.nsIn K mainGlobals "ValueError" = some none) (tx1:∃ tk,PySem.W.nsIn K mainGlobals "FIGURES" = some (some (.str figS tk))) (tx2:∃ tk,PySem.W.nsIn K mainGlobals "SMALL_LETTERS" = some (some (.str smallS tk))) (tx3:∃ tk,PySem.W.nsIn K mainGlobals "NOTHING" = some (some (.str "-" tk))) (tx4:∃ tk,PySem.W.nsIn K mainGlobals "NONE" = some (some (.str "none" tk))) (tx5:∃ tk,PySem.W.nsIn K mainGlobals "LONGEST_NAME" = some (some (.int 8 tk))) (tq1:TupIn2 K "LENGTHS" lens8) {xB:Addr} (hB:PySem.W.nsIn K mainGlobals "BeatError" = some (some (.ref xB))) {xNoRow:Addr} (h_NoRow:PySem.W.nsIn K mainGlobals "NoRow" = some (some (.ref xNoRow))) (xz_NoRow:PySem.W.ExCls K xNoRow) (xm_NoRow:PySem.W.exmOne K (.ref xNoRow) (.ref xB)=some true) (xo_NoRow:ExnOk K xNoRow) (q_NoRow_NoLetter:Cl0 K xNoRow "NoLetter" (decide (0=6))) (q_NoRow_NoCode:Cl0 K xNoRow "NoCode" (decide (1=6))) (q_NoRow_NoWindow:Cl0 K xNoRow "NoWindow" (decide (2=6))) (q_NoRow_NoMark:Cl0 K xNoRow "NoMark" (decide (3=6))) (q_NoRow_NoText:Cl0 K xNoRow "NoText" (decide (4=6))) (q_NoRow_NoName:Cl0 K xNoRow "NoName" (decide (5=6))) (q_NoRow_NoRow:Cl0 K xNoRow "NoRow" (decide (6=6))) (q_NoRow_NoWire:Cl0 K xNoRow "NoWire" (decide (7=6))) (kv_NoRow:PySem.W.kitOne K (.ref xNoRow) (.type "ValueError")=some true) {xNoName:Addr} (h_NoName:PySem.W.nsIn K mainGlobals "NoName" = some (some (.ref xNoName))) (xz_NoName:PySem.W.ExCls K xNoName) (xm_NoName:PySem.W.exmOne K (.ref xNoName) (.ref xB)=some true) (xo_NoName:ExnOk K xNoName) (q_NoName_NoLetter:Cl0 K xNoName "NoLetter" (decide (0=5))) (q_NoName_NoCode:Cl0 K xNoName "NoCode" (decide (1=5))) (q_NoName_NoWindow:Cl0 K xNoName "NoWindow" (decide (2=5))) (q_NoName_NoMark:Cl0 K xNoName "NoMark" (decide (3=5))) (q_NoName_NoText:Cl0 K xNoName "NoText" (decide (4=5))) (q_NoName_NoName:Cl0 K xNoName "NoName" (decide (5=5))) (q_NoName_NoRow:Cl0 K xNoName "NoRow" (decide (6=5))) (q_NoName_NoWire:Cl0 K xNoName "NoWire" (decide (7=5))) (kv_NoName:PySem.W.kitOne K (.ref xNoName) (.type "ValueError")=some true) {xNoText:Addr} (h_NoText:PySem.W.nsIn K mainGlobals "NoText" = some (some (.ref xNoText))) (xz_NoText:PySem.W.ExCls K xNoText) (xm_NoText:PySem.W.exmOne K (.ref xNoText) (.ref xB)=some true) (xo_NoText:ExnOk K xNoText) (q_NoText_NoLetter:Cl0 K xNoText "NoLetter" (decide (0=4))) (q_NoText_NoCode:Cl0 K xNoText "NoCode" (decide (1=4))) (q_NoText_NoWindow:Cl0 K xNoText "NoWindow" (decide (2=4))) (q_NoText_NoMark:Cl0 K xNoText "NoMark" (decide (3=4))) (q_NoText_NoText:Cl0 K xNoText "NoText" (decide (4=4))) (q_NoText_NoName:Cl0 K xNoText "NoName" (decide (5=4))) (q_NoText_NoRow:Cl0 K xNoText "NoRow" (decide (6=4))) (q_NoText_NoWire:Cl0 K xNoText "NoWire" (decide (7=4))) (kv_NoText:PySem.W.kitOne K (.ref xNoText) (.type "ValueError")=some true) :
  ∃ fd:FuncData,(∀ (s:Shared) (v:Value),BindsTo s fd ⟨[v],[]⟩ [("script",v)])/\∀ base:Heap,K.In base->base.Ns mainGlobals mg->FnOk l.prog w K mg base CX0 10 fa fd ["script"] (spLaw K):=by
 obtain ⟨f,oc,od,an,osl,kV,dc,pm,cd,ct,h1,h2,h3,h4⟩:=dl
 have e:=hfa.symm.trans (PySem.W.mg_of X G h1)
 cases e
 have F:=fun_mk (st:=sLaw) h2 h3 h4
 refine ⟨PySem.W.fnOf "law" "law" (defArgs sLaw) (defBody sLaw) (defScope sLaw) .none kV dc pm an cd ct,fun s v=>.of_eq rfl,fun base _ _=>?_⟩
 have z_len:=PySem.W.mg_none_of X G z1
 have z_range:=PySem.W.mg_none_of X G z2
 have z_isinstance:=PySem.W.mg_none_of X G z3
 have z_int:=PySem.W.mg_none_of X G z4
 have z_bool:=PySem.W.mg_none_of X G z5
 have z_list:=PySem.W.mg_none_of X G z6
 have z_str:=PySem.W.mg_none_of X G z7
 have z_tuple:=PySem.W.mg_none_of X G z8
 have z_all:=PySem.W.mg_none_of X G z9
 have z_max:=PySem.W.mg_none_of X G z10
 have z_min:=PySem.W.mg_none_of X G z11
 have z_sorted:=PySem.W.mg_none_of X G z12
 have z_ValueError:=PySem.W.mg_none_of X G z13
 have t_FIGURES:∃ tk,mg "FIGURES" = some (.str figS tk):=let ⟨tk,h⟩:=tx1;⟨tk,PySem.W.mg_of X G h⟩
 have t_SMALL_LETTERS:∃ tk,mg "SMALL_LETTERS" = some (.str smallS tk):=let ⟨tk,h⟩:=tx2;⟨tk,PySem.W.mg_of X G h⟩
 have t_NOTHING:∃ tk,mg "NOTHING" = some (.str "-" tk):=let ⟨tk,h⟩:=tx3;⟨tk,PySem.W.mg_of X G h⟩
 have t_NONE:∃ tk,mg "NONE" = some (.str "none" tk):=let ⟨tk,h⟩:=tx4;⟨tk,PySem.W.mg_of X G h⟩
 have t_LONGEST_NAME:∃ tk,mg "LONGEST_NAME" = some (.int 8 tk):=let ⟨tk,h⟩:=tx5;⟨tk,PySem.W.mg_of X G h⟩
 have m_BeatError:=PySem.W.mg_of X G hB
 have m_NoRow:=PySem.W.mg_of X G h_NoRow
 have kk_NoRow:KindsOf K mg xNoRow 6:=⟨xz_NoRow,cl0_of X G q_NoRow_NoLetter,cl0_of X G q_NoRow_NoCode,cl0_of X G q_NoRow_NoWindow,cl0_of X G q_NoRow_NoMark,cl0_of X G q_NoRow_NoText,cl0_of X G q_NoRow_NoName,cl0_of X G q_NoRow_NoRow,cl0_of X G q_NoRow_NoWire,kv_NoRow⟩
 have m_NoName:=PySem.W.mg_of X G h_NoName
 have kk_NoName:KindsOf K mg xNoName 5:=⟨xz_NoName,cl0_of X G q_NoName_NoLetter,cl0_of X G q_NoName_NoCode,cl0_of X G q_NoName_NoWindow,cl0_of X G q_NoName_NoMark,cl0_of X G q_NoName_NoText,cl0_of X G q_NoName_NoName,cl0_of X G q_NoName_NoRow,cl0_of X G q_NoName_NoWire,kv_NoName⟩
 have m_NoText:=PySem.W.mg_of X G h_NoText
 have kk_NoText:KindsOf K mg xNoText 4:=⟨xz_NoText,cl0_of X G q_NoText_NoLetter,cl0_of X G q_NoText_NoCode,cl0_of X G q_NoText_NoWindow,cl0_of X G q_NoText_NoMark,cl0_of X G q_NoText_NoText,cl0_of X G q_NoText_NoName,cl0_of X G q_NoText_NoRow,cl0_of X G q_NoText_NoWire,kv_NoText⟩
 obtain ⟨aT1,tu_LENGTHS⟩:=tu_of X G tq1
 have mD:=PySem.W.mg_of X G hD
 have dcl:=dk.cl
 have c_whole:=ok_whole (P:=l.prog) (w:=w) (base:=base) (fnX_1 d1 X G (fun _ _ _ _ _ _ _=>rfl)) z_isinstance z_int z_bool
 have c_within:=ok_within (P:=l.prog) (w:=w) (base:=base) (fnX_3 d2 X G (fun _ _ _ _ _ _ _ _ _=>rfl)) c_whole
 have c_word:=ok_word (P:=l.prog) (w:=w) (base:=base) (fnX_2 d3 X G (fun _ _ _ _ _ _ _ _=>rfl)) z_isinstance z_str z_len
 have c_row:=ok_row (P:=l.prog) (w:=w) (base:=base) (fnX_3 d4 X G (fun _ _ _ _ _ _ _ _ _=>rfl)) z_isinstance z_tuple z_len c_word c_within
 have c_state:=ok_state (P:=l.prog) (w:=w) (base:=base) (fnX_4 d5 X G (fun _ _ _ _ _ _ _ _ _ _=>rfl)) z_isinstance z_list z_all z_len c_row
 have c_code:=ok_code (P:=l.prog) (w:=w) (base:=base) (fnX_1 d6 X G (fun _ _ _ _ _ _ _=>rfl)) z_isinstance z_list z_all z_len z_tuple c_within c_state
 have c_num:=ok_num (P:=l.prog) (w:=w) (base:=base) (fnX_1 d7 X G (fun _ _ _ _ _ _ _=>rfl)) z_len t_FIGURES
 have c_rowOf:=ok_rowOf (P:=l.prog) (w:=w) (base:=base) (fnX_1 d8 X G (fun _ _ _ _ _ _ _=>rfl)) z_tuple c_num
 have c_stateOf:=ok_stateOf (P:=l.prog) (w:=w) (base:=base) (fnX_1 d9 X G (fun _ _ _ _ _ _ _=>rfl)) c_rowOf
 have c_codeOf:=ok_codeOf (P:=l.prog) (w:=w) (base:=base) (fnX_1 d10 X G (fun _ _ _ _ _ _ _=>rfl)) z_tuple c_num c_stateOf
 have c_readCode:=ok_readCode (P:=l.prog) (w:=w) (base:=base) (fnX_1 d11 X G (fun _ _ _ _ _ _ _=>rfl)) z_isinstance z_str c_codeOf c_code xo_NoText m_NoText
 have c_letter:=ok_letter (P:=l.prog) (w:=w) (base:=base) (fnX_2 d12 X G (fun _ _ _ _ _ _ _ _=>rfl)) c_whole
 have c_letterL:=ok_letterL (P:=l.prog) (w:=w) (base:=base) (fnX_2 d13 X G (fun _ _ _ _ _ _ _ _=>rfl)) z_isinstance z_list z_all c_letter
 have c_sent:=ok_sent (P:=l.prog) (w:=w) (base:=base) (fnX_3 d14 X G (fun _ _ _ _ _ _ _ _ _=>rfl)) c_letterL
 have c_letterOf:=ok_letterOf (P:=l.prog) (w:=w) (base:=base) (fnX_1 d15 X G (fun _ _ _ _ _ _ _=>rfl))
 have c_letters:=ok_letters (P:=l.prog) (w:=w) (base:=base) (fnX_2 d16 X G (fun _ _ _ _ _ _ _ _=>rfl)) z_isinstance z_list z_all z_len z_range c_within c_letterOf
 have c_answer:=ok_answer (P:=l.prog) (w:=w) (base:=base) (fnX_2 d17 X G (fun _ _ _ _ _ _ _ _=>rfl))
 have c_answerWith:=ok_answerWith (P:=l.prog) (w:=w) (base:=base) (fnX_3 d18 X G (fun _ _ _ _ _ _ _ _ _=>rfl)) z_int t_NOTHING t_NONE c_sent c_letters
 have c_name:=ok_name (P:=l.prog) (w:=w) (base:=base) (fnX_1 d19 X G (fun _ _ _ _ _ _ _=>rfl)) z_len t_SMALL_LETTERS t_LONGEST_NAME
 have c_signs:=ok_signs (P:=l.prog) (w:=w) (base:=base) (fnX_1 d20 X G (fun _ _ _ _ _ _ _=>rfl)) z_len c_word
 have c_fits:=ok_fits (P:=l.prog) (w:=w) (base:=base) (fnX_2 d21 X G (fun _ _ _ _ _ _ _ _=>rfl)) t_NOTHING tu_LENGTHS c_signs
 have c_areWords:=ok_areWords (P:=l.prog) (w:=w) (base:=base) (fnX_1 d22 X G (fun _ _ _ _ _ _ _=>rfl)) z_len c_name c_fits
 have c_wordsIn:=ok_wordsIn (P:=l.prog) (w:=w) (base:=base) (fnX_1 d23 X G (fun _ _ _ _ _ _ _=>rfl)) z_isinstance z_str c_areWords xo_NoRow m_NoRow
 have c_init:=ok_init (P:=l.prog) (w:=w) (mg:=mg) (base:=base) (d24.mtx fun kV doc pm an cdv ct us hl=>match us,hl with | [_],_=>rfl) dk
 have c_names:=ok_names (P:=l.prog) (w:=w) (mg:=mg) (base:=base) (d25.mtx fun kV doc pm an cdv ct us hl=>match us,hl with | [_],_=>rfl) z_sorted dk
 have c_say:=ok_say (P:=l.prog) (w:=w) (mg:=mg) (base:=base) (d26.mtx fun kV doc pm an cdv ct us hl=>match us,hl with | [_,_],_=>rfl) z_len dk c_wordsIn c_readCode c_answer c_answerWith xo_NoName m_NoName
 have c_class:=ok_class (P:=l.prog) (w:=w) (base:=base) (fnX_1 d27 X G (fun _ _ _ _ _ _ _=>rfl)) z_isinstance z_ValueError kk_NoRow
 have c_refd:=ok_refd (P:=l.prog) (w:=w) (base:=base) (fnX_2 d28 X G (fun _ _ _ _ _ _ _ _=>rfl)) smo m_BeatError dcl c_say c_class
 have c_cell:=ok_cell (P:=l.prog) (w:=w) (base:=base) (fnX_2 d29 X G (fun _ _ _ _ _ _ _ _=>rfl)) z_len
 have c_store:=ok_store (P:=l.prog) (w:=w) (base:=base) (fnX_1 d30 X G (fun _ _ _ _ _ _ _=>rfl))
 have c_take:=ok_take (P:=l.prog) (w:=w) (base:=base) (fnX_2 d31 X G (fun _ _ _ _ _ _ _ _=>rfl))
 have c_name6:=ok_name6 (P:=l.prog) (w:=w) (base:=base) (fnX_1 d32 X G (fun _ _ _ _ _ _ _=>rfl)) z_range c_take
 have c_gone:=ok_gone (P:=l.prog) (w:=w) (base:=base) (fnX_3 d33 X G (fun _ _ _ _ _ _ _ _ _=>rfl)) kk_NoName xm_NoName c_take c_refd
 exact ok_law F z_range z_len z_min z_max z_sorted c_cell c_store c_take c_name6 c_gone dk dcl c_init mk1 mk2 mD c_say c_names
theorem walk {l:PySem.W.OpenLaw} {q:Program} {loose:List Str} {XP:(Str->Option Value)->Heap->Prop} {YP:World->Heap->Prop} {d:DefRec} {K:Params->PySem.W.Frag} (hn:l.most=some 63) (hdf:d.params.defaults=[])
  (hY:∀ (w:World) (h:Heap),YP w h->(K w.params).In h)
  (F:∀ (w:World) (mg:Str->Option Value) (fa:Addr) (h:Heap),(K w.params).In h->h.Ns mainGlobals mg->mg d.name=some (.ref fa) →
   ∃ fd:FuncData,(∀ (s:Shared) (u:Value),BindsTo s fd ⟨[u],[]⟩ [("script",u)])/\∀ base:Heap,(K w.params).In base->base.Ns mainGlobals mg->FnOk l.prog w (K w.params) mg base CX0 10 fa fd ["script"] (spLaw (K w.params))) :
  PySem.W.WalkO q loose XP YP l.row.toRowW d [] (fun f vs=>PySem.call f vs):=
 L2.walk_of (n:=63) (k:=10) (x:= "script") (CX:=fun _=>CX0) (sp:=fun w=>spLaw (K w.params)) hn (by decide) hdf ⟨rfl,by decide,by decide⟩ hY F (fun _ _ a ns hl _ hS=>⟨ns,hS,hl,fun _=>rfl⟩) fun _ _ _ _ _ z=>z
end K66
open PySem PySem.W PyProof.Rows
local macro_rules | `(tactic| walk_at "k_def")=>`(tactic| ((refine' L2.DefIn.mk ?a ?l ?c ?k);(case a=>k_is);(case l=>k_is);(case c=>k_is);(case k=>k_is)))
set_option maxRecDepth 100000 in
set_option maxHeartbeats 0 in
theorem PySem.Challenge.cw_ownbeat_k66_names_on_desks_holds : PySem.Challenge.rw_ownbeat_k66_names_on_desks.Holds := by
 w_on;o_law
 refine PySem.W.holds_open (q:=KH.V) (loose:=[]) (Xt:=(fun s=>xlAt KH.V [] s && recOk (RowW.records (OpenRow.toRowW KH.Rw.row)) s)) (N:=9754) (XP:=PySem.W.XL KH.V []) (Yf:=PySem.W.Hook.obs KH.hk) (Ya:=PySem.W.Hook.val KH.hk) (YP:=PySem.W.Hook.says KH.hk) ?hl (PySem.W.Hook.of KH.hk) (PySem.W.Hook.keeps KH.hk) (fun s e=>PySem.W.xl_of s (Bool.and_eq_true_iff.mp e).1) PySem.W.XL.keeps (by rfl) (by rfl) (by rfl) (fun s e=>PySem.W.recFacts_of (Bool.and_eq_true_iff.mp e).2) (by rfl) (by first | assumption | decide +kernel) (by decide +kernel) ⟨rfl,rfl,rfl,rfl,rfl,by decide +kernel⟩ ?hw ?hc
 (case hl=>exact KH.HL)
 (case hw=>w_witness2)
 delta KH.hk
 k_fill
 refine K66.walk (l:=PySem.Challenge.rw_ownbeat_k66_names_on_desks) rfl rfl (fun w h Y=>PySem.W.km_in_of Y) ?F
 case F=>
  intro w mg fa h KX G hmg
  refine' K66.all_mk KX G hmg ?d1 ?d2 ?d3 ?d4 ?d5 ?d6 ?d7 ?d8 ?d9 ?d10 ?d11 ?d12 ?d13 ?d14 ?d15 ?d16 ?d17 ?d18 ?d19 ?d20 ?d21 ?d22 ?d23 ?d27 ?d28 ?d29 ?d30 ?d31 ?d32 ?d33 ?hD ?dk ?mk1 ?mk2 ?d24 ?d25 ?d26 ?dl ?z1 ?z2 ?z3 ?z4 ?z5 ?z6 ?z7 ?z8 ?z9 ?z10 ?z11 ?z12 ?z13 ?tx1 ?tx2 ?tx3 ?tx4 ?tx5 ?tq1 ?hB ?h_NoRow ?xz_NoRow ?xm_NoRow ?xo_NoRow ?q_NoRow_NoLetter ?q_NoRow_NoCode ?q_NoRow_NoWindow ?q_NoRow_NoMark ?q_NoRow_NoText ?q_NoRow_NoName ?q_NoRow_NoRow ?q_NoRow_NoWire ?kv_NoRow ?h_NoName ?xz_NoName ?xm_NoName ?xo_NoName ?q_NoName_NoLetter ?q_NoName_NoCode ?q_NoName_NoWindow ?q_NoName_NoMark ?q_NoName_NoText ?q_NoName_NoName ?q_NoName_NoRow ?q_NoName_NoWire ?kv_NoName ?h_NoText ?xz_NoText ?xm_NoText ?xo_NoText ?q_NoText_NoLetter ?q_NoText_NoCode ?q_NoText_NoWindow ?q_NoText_NoMark ?q_NoText_NoText ?q_NoText_NoName ?q_NoText_NoRow ?q_NoText_NoWire ?kv_NoText
  (case d1=>walk_at "k_def")
  (case d2=>walk_at "k_def")
  (case d3=>walk_at "k_def")
  (case d4=>walk_at "k_def")
  (case d5=>walk_at "k_def")
  (case d6=>walk_at "k_def")
  (case d7=>walk_at "k_def")
  (case d8=>walk_at "k_def")
  (case d9=>walk_at "k_def")
  (case d10=>walk_at "k_def")
  (case d11=>walk_at "k_def")
  (case d12=>walk_at "k_def")
  (case d13=>walk_at "k_def")
  (case d14=>walk_at "k_def")
  (case d15=>walk_at "k_def")
  (case d16=>walk_at "k_def")
  (case d17=>walk_at "k_def")
  (case d18=>walk_at "k_def")
  (case d19=>walk_at "k_def")
  (case d20=>walk_at "k_def")
  (case d21=>walk_at "k_def")
  (case d22=>walk_at "k_def")
  (case d23=>walk_at "k_def")
  (case d27=>walk_at "k_def")
  (case d28=>walk_at "k_def")
  (case d29=>walk_at "k_def")
  (case d30=>walk_at "k_def")
  (case d31=>walk_at "k_def")
  (case d32=>walk_at "k_def")
  (case d33=>walk_at "k_def")
  (case hD=>k_is)
  (case dk=>((refine' K66.deskK_mk ?a1 ?a2 ?a3 ?a4 ?a5);(case a1=>k_is);(case a2=>k_is);(case a3=>k_is);(case a4=>k_is);(case a5=>k_is)))
  (case mk1=>k_is)
  (case mk2=>k_is)
  (case d24=>((refine' K66.MtIn.mk ?a ?l ?c ?k ?i);(case a=>k_is);(case l=>k_is);(case c=>k_is);(case k=>k_is);(case i=>k_is)))
  (case d25=>((refine' K66.MtIn.mk ?a ?l ?c ?k ?i);(case a=>k_is);(case l=>k_is);(case c=>k_is);(case k=>k_is);(case i=>k_is)))
  (case d26=>((refine' K66.MtIn.mk ?a ?l ?c ?k ?i);(case a=>k_is);(case l=>k_is);(case c=>k_is);(case k=>k_is);(case i=>k_is)))
  (case dl=>walk_at "k_def")
  (case z1=>k_is)
  (case z2=>k_is)
  (case z3=>k_is)
  (case z4=>k_is)
  (case z5=>k_is)
  (case z6=>k_is)
  (case z7=>k_is)
  (case z8=>k_is)
  (case z9=>k_is)
  (case z10=>k_is)
  (case z11=>k_is)
  (case z12=>k_is)
  (case z13=>k_is)
  (case tx1=>((refine' L2.tx_mk ?hx ?ex);(case hx=>k_is);(case ex=>rfl)))
  (case tx2=>((refine' L2.tx_mk ?hx ?ex);(case hx=>k_is);(case ex=>rfl)))
  (case tx3=>((refine' L2.tx_mk ?hx ?ex);(case hx=>k_is);(case ex=>rfl)))
  (case tx4=>((refine' L2.tx_mk ?hx ?ex);(case hx=>k_is);(case ex=>rfl)))
  (case tx5=>((refine' L2.nx_mk ?hx ?ex);(case hx=>k_is);(case ex=>rfl)))
  (case tq1=>((refine' K66.tq_mk ?hx ?ex ?l ?c ?d ?z ?r);(case hx=>k_is);(case ex=>rfl);(case l=>k_is);(case c=>rfl);(case d=>rfl);(case z=>decide);(case r=>repeat' (first | exact .nil | refine' .cons ⟨_,rfl⟩ ?_))))
  (case hB=>k_is)
  (case h_NoRow=>k_is)
  (case xz_NoRow=>((refine' K66.xcls_mk ?a1 ?a2 ?a3 ?a4 ?a5 ?a6 ?a7 ?a8);(case a1=>k_is);(case a2=>k_is);(case a3=>k_is);(case a4=>kernel_rfl);(case a5=>k_is);(case a6=>k_is);(case a7=>k_is);(case a8=>k_is)))
  (case xm_NoRow=>kernel_rfl)
  (case xo_NoRow=>((refine' K66.exn_mk ?a1 ?a2 ?a3 ?a4 ?a5 ?a6 ?a7 ?a8);(case a1=>k_is);(case a2=>k_is);(case a3=>kernel_rfl);(case a4=>kernel_rfl);(case a5=>k_is);(case a6=>k_is);(case a7=>kernel_rfl);(case a8=>kernel_rfl)))
  (case q_NoRow_NoLetter=>((refine' K66.cl0_mk ?a1 ?a2);(case a1=>k_is);(case a2=>kernel_rfl)))
  (case q_NoRow_NoCode=>((refine' K66.cl0_mk ?a1 ?a2);(case a1=>k_is);(case a2=>kernel_rfl)))
  (case q_NoRow_NoWindow=>((refine' K66.cl0_mk ?a1 ?a2);(case a1=>k_is);(case a2=>kernel_rfl)))
  (case q_NoRow_NoMark=>((refine' K66.cl0_mk ?a1 ?a2);(case a1=>k_is);(case a2=>kernel_rfl)))
  (case q_NoRow_NoText=>((refine' K66.cl0_mk ?a1 ?a2);(case a1=>k_is);(case a2=>kernel_rfl)))
  (case q_NoRow_NoName=>((refine' K66.cl0_mk ?a1 ?a2);(case a1=>k_is);(case a2=>kernel_rfl)))
  (case q_NoRow_NoRow=>((refine' K66.cl0_mk ?a1 ?a2);(case a1=>k_is);(case a2=>kernel_rfl)))
  (case q_NoRow_NoWire=>((refine' K66.cl0_mk ?a1 ?a2);(case a1=>k_is);(case a2=>kernel_rfl)))
  (case kv_NoRow=>kernel_rfl)
  (case h_NoName=>k_is)
  (case xz_NoName=>((refine' K66.xcls_mk ?a1 ?a2 ?a3 ?a4 ?a5 ?a6 ?a7 ?a8);(case a1=>k_is);(case a2=>k_is);(case a3=>k_is);(case a4=>kernel_rfl);(case a5=>k_is);(case a6=>k_is);(case a7=>k_is);(case a8=>k_is)))
  (case xm_NoName=>kernel_rfl)
  (case xo_NoName=>((refine' K66.exn_mk ?a1 ?a2 ?a3 ?a4 ?a5 ?a6 ?a7 ?a8);(case a1=>k_is);(case a2=>k_is);(case a3=>kernel_rfl);(case a4=>kernel_rfl);(case a5=>k_is);(case a6=>k_is);(case a7=>kernel_rfl);(case a8=>kernel_rfl)))
  (case q_NoName_NoLetter=>((refine' K66.cl0_mk ?a1 ?a2);(case a1=>k_is);(case a2=>kernel_rfl)))
  (case q_NoName_NoCode=>((refine' K66.cl0_mk ?a1 ?a2);(case a1=>k_is);(case a2=>kernel_rfl)))
  (case q_NoName_NoWindow=>((refine' K66.cl0_mk ?a1 ?a2);(case a1=>k_is);(case a2=>kernel_rfl)))
  (case q_NoName_NoMark=>((refine' K66.cl0_mk ?a1 ?a2);(case a1=>k_is);(case a2=>kernel_rfl)))
  (case q_NoName_NoText=>((refine' K66.cl0_mk ?a1 ?a2);(case a1=>k_is);(case a2=>kernel_rfl)))
  (case q_NoName_NoName=>((refine' K66.cl0_mk ?a1 ?a2);(case a1=>k_is);(case a2=>kernel_rfl)))
  (case q_NoName_NoRow=>((refine' K66.cl0_mk ?a1 ?a2);(case a1=>k_is);(case a2=>kernel_rfl)))
  (case q_NoName_NoWire=>((refine' K66.cl0_mk ?a1 ?a2);(case a1=>k_is);(case a2=>kernel_rfl)))
  (case kv_NoName=>kernel_rfl)
  (case h_NoText=>k_is)
  (case xz_NoText=>((refine' K66.xcls_mk ?a1 ?a2 ?a3 ?a4 ?a5 ?a6 ?a7 ?a8);(case a1=>k_is);(case a2=>k_is);(case a3=>k_is);(case a4=>kernel_rfl);(case a5=>k_is);(case a6=>k_is);(case a7=>k_is);(case a8=>k_is)))
  (case xm_NoText=>kernel_rfl)
  (case xo_NoText=>((refine' K66.exn_mk ?a1 ?a2 ?a3 ?a4 ?a5 ?a6 ?a7 ?a8);(case a1=>k_is);(case a2=>k_is);(case a3=>kernel_rfl);(case a4=>kernel_rfl);(case a5=>k_is);(case a6=>k_is);(case a7=>kernel_rfl);(case a8=>kernel_rfl)))
  (case q_NoText_NoLetter=>((refine' K66.cl0_mk ?a1 ?a2);(case a1=>k_is);(case a2=>kernel_rfl)))
  (case q_NoText_NoCode=>((refine' K66.cl0_mk ?a1 ?a2);(case a1=>k_is);(case a2=>kernel_rfl)))
  (case q_NoText_NoWindow=>((refine' K66.cl0_mk ?a1 ?a2);(case a1=>k_is);(case a2=>kernel_rfl)))
  (case q_NoText_NoMark=>((refine' K66.cl0_mk ?a1 ?a2);(case a1=>k_is);(case a2=>kernel_rfl)))
  (case q_NoText_NoText=>((refine' K66.cl0_mk ?a1 ?a2);(case a1=>k_is);(case a2=>kernel_rfl)))
  (case q_NoText_NoName=>((refine' K66.cl0_mk ?a1 ?a2);(case a1=>k_is);(case a2=>kernel_rfl)))
  (case q_NoText_NoRow=>((refine' K66.cl0_mk ?a1 ?a2);(case a1=>k_is);(case a2=>kernel_rfl)))
  (case q_NoText_NoWire=>((refine' K66.cl0_mk ?a1 ?a2);(case a1=>k_is);(case a2=>kernel_rfl)))
  (case kv_NoText=>kernel_rfl)
end
end
