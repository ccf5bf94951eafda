import PyProof.Rows.All
import Wide.All
import OpenK.AllK
import Wide.FinOn
import PyProof.EqAt
import PyProof.EqKinds
import PyProof.TupleCall
import Lean
import PyProof.CompFree
import PyProof.IsInstanceH
import PyProof.IsiPairs
import PyProof.ConsumeWalk
import PyProof.IsiNone
import KE.KIntText
import PyProof.Rows.EqDataRows
import PyProof.RangeIter
import PyProof.ZipIter
import PyProof.EnumMake
import PyProof.WalksEnum
import PyProof.Rows.ZipGen
import PyProof.Rows.SortWalk
import KE.KEqDict
import KE.KDictLaws
import PyProof.Rows.SumAny
import PyProof.Rows.FStr
import PyProof.ListRange
import PyProof.DictWalks
import PyProof.DictCopy
import KE.KDictOf
import PyProof.StrLawsIdx
import KE.KTryMore
import PyProof.ExcClass2
import PyProof.ExcInit
import PyProof.InstStoreFacts
import PyProof.ExcBaseAll.ValueError
import PyProof.RulesAs
import PyProof.NsDelKeeps
import OpenK.KRaise
import PyProof.ExcArgs
import PyProof.Rows.StrRev
import PyProof.ListStr
import KE.KRevSl
import KE.KLam
import PyProof.Rows.SetFrom
import PyProof.SetRoads
import KE.KNestM
import PyProof.StrLoop
import PyProof.StrWalks
import PyProof.StrLawsChain
import PyProof.FitsReplace
import PyProof.MeetsStr2
import KE.KRevIter
import PyProof.DictUpdate
import PyProof.AttrMissHeap
import PyProof.Rows.SeqMore2
import PySem.Challenge.RW_ownbeat_k35_no_window_and_no_wire
set_option Elab.async false
set_option linter.all false
set_option maxRecDepth 100000
set_option maxHeartbeats 4000000
section
namespace KH
open PySem PySem.W
abbrev Pw : Program := PySem.Challenge.pw_ownbeat_k35_no_window_and_no_wire
abbrev Rw : OpenLaw := PySem.Challenge.rw_ownbeat_k35_no_window_and_no_wire
abbrev tp (i : Nat) : Stmt := Pw.main.body.getD i (.Pass ⟨0, 0, 0, 0⟩)
abbrev cm : Stmt → Nat → Stmt
 | .ClassDef _ _ _ body _ _ _ _ _ _ _, i => body.getD i (.Pass ⟨0, 0, 0, 0⟩)
 | s, _ => s
abbrev dA (s : Stmt) : Arguments := match s with
 | .FunctionDef _ a _ _ _ _ _ _ _ _ => a
 | _ => { posonlyargs := [], args := [], vararg := none, kwonlyargs := [], kw_defaults := [], kwarg := none, defaults := [] }
abbrev dB (s : Stmt) : List Stmt := match s with
 | .FunctionDef _ _ b _ _ _ _ _ _ _ => b
 | _ => []
abbrev dS (s : Stmt) : Scope := match s with
 | .FunctionDef _ _ _ _ _ _ sc _ _ _ => sc
 | _ => { kind := .function, names := [], isGenerator := false, isCoroutine := false }
abbrev en (P : Params) (k : Str) (t : Nat) (v : Value) : DictEntry := ⟨PyData.keyHash P k, .str k t, v⟩
abbrev tu (l : List Value) : Obj := ⟨.type "tuple", none, .seq l.toArray 0, #[]⟩
abbrev di (l : List DictEntry) : Obj := ⟨.type "dict", none, .dict l.toArray 0, #[]⟩
abbrev co (n : Str) (t1 : Nat) (q : Str) (t2 t3 : Nat) (l c : Int) (a b : Nat) (x y : Value) (z : Nat) (d : Int) (t4 : Nat) : Obj := ⟨.type "code", none, .fields #[.str n t1, .str q t2, .str "/claim/cut.py" t3, .int l 0, .int c 0, .int 0 0, .int 0 0, .int 3 0, .ref a, .bool true, .int 181 0, .ref b, .none, x, y, .ref z, .int d 0, .int l 0, .str "/claim/cut.py" t4], #[]⟩
abbrev fu (n q : Str) (st : Stmt) (m : Str) (t c : Nat) : Obj := ⟨.type "function", none, .func ⟨n, q, dA st, .stmts (dB st), dS st, 3, [], .none, .none, .none, .str m t, none, .ref c, .none, 0⟩, #[]⟩
abbrev cl (n : Str) (self ns a t1 t2 : Nat) : Obj := ⟨.type "type", none, .cls ⟨n, [.ref 24], [.ref self, .ref 24, .type "ValueError", .type "Exception", .type "BaseException", .type "object"], ns, n, true, [], [], false, none, false⟩, #[some (.ref a), none, some (.str n t1), some (.str n t2), some (.builtin "ValueError.__new__"), some (.bool true)]⟩
noncomputable def K (P : Params) : Frag :=
 (nat_lit 2, ⟨.none, none, .dict #[], #[]⟩) ::
 (nat_lit 3, ⟨.type "dict", none, .dict #[en P "__name__" 165 (.str "law_ownbeat_k35_no_window_and_no_wire" 527), en P "__doc__" 166 (.none), en P "__package__" 167 (.none), en P "__loader__" 168 (.builtin "__main__.__loader__#opaque"), en P "__spec__" 169 (.none), en P "__annotations__" 170 (.ref 6), en P "__builtins__" 171 (.ref 4), en P "__file__" 173 (.str "/claim/cut.py" 172), en P "__cached__" 174 (.none), en P "BeatError" 206 (.ref 24), en P "NoLetter" 222 (.ref 37), en P "NoCode" 238 (.ref 49), en P "NoWire" 263 (.ref 68), en P "NoWindow" 279 (.ref 80), en P "NoMark" 295 (.ref 92), en P "NoText" 311 (.ref 104), en P "NoName" 327 (.ref 116), en P "NoRow" 343 (.ref 128), en P "is_whole" 352 (.ref 137), en P "words_of" 358 (.ref 142), en P "every_state" 365 (.ref 149), en P "pair_graph" 376 (.ref 156), en P "pair_steps" 390 (.ref 163), en P "layer_behind" 402 (.ref 170), en P "is_word" 412 (.ref 177), en P "given_words" 422 (.ref 184), en P "whole_words" 435 (.ref 191), en P "states_behind" 445 (.ref 198), en P "states_behind_word" 457 (.ref 205), en P "tells" 468 (.ref 212), en P "is_window" 476 (.ref 219), en P "graph_tells" 486 (.ref 226), en P "pairs_behind" 496 (.ref 233), en P "unlike_steps" 502 (.ref 238), en P "read_by" 508 (.ref 243), en P "letter_by" 520 (.ref 250), en P "states_by_letter" 526 (.ref 255), en P "_law_cell" 536 (.ref 262), en P "_law_store" 544 (.ref 269), en P "_law_take" 554 (.ref 276), en P "_law_word" 564 (.ref 283), en P "_law_branch" 581 (.ref 290), en P "_law_code" 587 (.ref 295), en P "_law_copy" 593 (.ref 300), en P "_law_rows" 599 (.ref 305), en P "_law_sent" 611 (.ref 312), en P "_law_pairs" 617 (.ref 317), en P "_law_steps" 632 (.ref 324), en P "_law_windows" 638 (.ref 329), en P "_law_parts" 649 (.ref 336), en P "_law_fault" 659 (.ref 343), en P "_law_class" 666 (.ref 350), en P "_law_asked" 677 (.ref 357), en P "_law_spoilt" 687 (.ref 364), en P "law" 707 (.ref 371)] 55, #[]⟩) ::
 (nat_lit 15, tu [.type "ValueError"]) ::
 (nat_lit 22, tu []) ::
 (nat_lit 23, ⟨.type "dict", none, .dict #[en P "__module__" 196 (.str "ownbeat.errors" 187), en P "__firstlineno__" 200 (.int 2 199), en P "__static_attributes__" 201 (.ref 22), en P "__weakref__" 203 (.ref 25), en P "__doc__" 204 (.none)] 3, #[]⟩) ::
 (nat_lit 24, ⟨.type "type", none, .cls ⟨"BeatError", [.type "ValueError"], [.ref 24, .type "ValueError", .type "Exception", .type "BaseException", .type "object"], 23, "BeatError", true, [], [.ref 37, .ref 49, .ref 68, .ref 80, .ref 92, .ref 104, .ref 116, .ref 128], false, none, false⟩, #[some (.ref 15), none, some (.str "BeatError" 189), some (.str "BeatError" 197), some (.builtin "ValueError.__new__"), some (.bool true)]⟩) ::
 (nat_lit 25, ⟨.type "getset_descriptor", none, .fields #[.str "__weakref__" 202, .ref 24, .builtin "ExceptionGroup.__weakref__", .none], #[]⟩) ::
 (nat_lit 28, tu [.ref 24]) ::
 (nat_lit 35, tu []) ::
 (nat_lit 36, ⟨.type "dict", none, .dict #[en P "__module__" 214 (.str "ownbeat.errors" 187), en P "__firstlineno__" 218 (.int 4 217), en P "__static_attributes__" 219 (.ref 35), en P "__doc__" 220 (.none)] 2, #[]⟩) ::
 (nat_lit 37, cl "NoLetter" 37 36 28 207 215) ::
 (nat_lit 40, tu [.ref 24]) ::
 (nat_lit 47, tu []) ::
 (nat_lit 48, ⟨.type "dict", none, .dict #[en P "__module__" 230 (.str "ownbeat.errors" 187), en P "__firstlineno__" 234 (.int 6 233), en P "__static_attributes__" 235 (.ref 47), en P "__doc__" 236 (.none)] 2, #[]⟩) ::
 (nat_lit 49, cl "NoCode" 49 48 40 223 231) ::
 (nat_lit 52, tu [.ref 24]) ::
 (nat_lit 59, tu []) ::
 (nat_lit 61, tu [.str "self" 254, .str "at" 255]) ::
 (nat_lit 62, tu []) ::
 (nat_lit 64, co "__init__" 251 "NoWire.__init__" 252 253 10 2 59 60 (.ref 61) (.ref 62) 63 256 257) ::
 (nat_lit 65, fu "__init__" "NoWire.__init__" (cm (tp 4) 0) "ownbeat.errors" 187 64) ::
 (nat_lit 66, tu [.str "at" 259]) ::
 (nat_lit 67, ⟨.type "dict", none, .dict #[en P "__module__" 246 (.str "ownbeat.errors" 187), en P "__firstlineno__" 250 (.int 8 249), en P "__init__" 258 (.ref 65), en P "__static_attributes__" 260 (.ref 66), en P "__doc__" 261 (.none)] 2, #[]⟩) ::
 (nat_lit 68, cl "NoWire" 68 67 52 239 247) ::
 (nat_lit 71, tu [.ref 24]) ::
 (nat_lit 78, tu []) ::
 (nat_lit 79, ⟨.type "dict", none, .dict #[en P "__module__" 271 (.str "ownbeat.errors" 187), en P "__firstlineno__" 275 (.int 13 274), en P "__static_attributes__" 276 (.ref 78), en P "__doc__" 277 (.none)] 2, #[]⟩) ::
 (nat_lit 80, cl "NoWindow" 80 79 71 264 272) ::
 (nat_lit 83, tu [.ref 24]) ::
 (nat_lit 90, tu []) ::
 (nat_lit 91, ⟨.type "dict", none, .dict #[en P "__module__" 287 (.str "ownbeat.errors" 187), en P "__firstlineno__" 291 (.int 15 290), en P "__static_attributes__" 292 (.ref 90), en P "__doc__" 293 (.none)] 2, #[]⟩) ::
 (nat_lit 92, cl "NoMark" 92 91 83 280 288) ::
 (nat_lit 95, tu [.ref 24]) ::
 (nat_lit 102, tu []) ::
 (nat_lit 103, ⟨.type "dict", none, .dict #[en P "__module__" 303 (.str "ownbeat.errors" 187), en P "__firstlineno__" 307 (.int 17 306), en P "__static_attributes__" 308 (.ref 102), en P "__doc__" 309 (.none)] 2, #[]⟩) ::
 (nat_lit 104, cl "NoText" 104 103 95 296 304) ::
 (nat_lit 107, tu [.ref 24]) ::
 (nat_lit 114, tu []) ::
 (nat_lit 115, ⟨.type "dict", none, .dict #[en P "__module__" 319 (.str "ownbeat.errors" 187), en P "__firstlineno__" 323 (.int 19 322), en P "__static_attributes__" 324 (.ref 114), en P "__doc__" 325 (.none)] 2, #[]⟩) ::
 (nat_lit 116, cl "NoName" 116 115 107 312 320) ::
 (nat_lit 119, tu [.ref 24]) ::
 (nat_lit 126, tu []) ::
 (nat_lit 127, ⟨.type "dict", none, .dict #[en P "__module__" 335 (.str "ownbeat.errors" 187), en P "__firstlineno__" 339 (.int 21 338), en P "__static_attributes__" 340 (.ref 126), en P "__doc__" 341 (.none)] 2, #[]⟩) ::
 (nat_lit 128, cl "NoRow" 128 127 119 328 336) ::
 (nat_lit 131, tu []) ::
 (nat_lit 133, tu [.str "thing" 349]) ::
 (nat_lit 134, tu []) ::
 (nat_lit 136, co "is_whole" 346 "is_whole" 347 348 24 1 131 132 (.ref 133) (.ref 134) 135 350 351) ::
 (nat_lit 137, fu "is_whole" "is_whole" (tp 11) "ownbeat.walks" 344 136) ::
 (nat_lit 138, tu []) ::
 (nat_lit 141, co "words_of" 353 "words_of" 354 355 26 2 138 139 (.none) (.none) 140 356 357) ::
 (nat_lit 142, fu "words_of" "words_of" (tp 12) "ownbeat.walks" 344 141) ::
 (nat_lit 143, tu []) ::
 (nat_lit 145, tu [.str "code" 362]) ::
 (nat_lit 146, tu []) ::
 (nat_lit 148, co "every_state" 359 "every_state" 360 361 28 1 143 144 (.ref 145) (.ref 146) 147 363 364) ::
 (nat_lit 149, fu "every_state" "every_state" (tp 13) "ownbeat.walks" 344 148) ::
 (nat_lit 150, tu []) ::
 (nat_lit 152, tu [.str "code" 369, .str "states" 370, .str "graph" 371, .str "one" 372, .str "other" 373]) ::
 (nat_lit 153, tu []) ::
 (nat_lit 155, co "pair_graph" 366 "pair_graph" 367 368 30 2 150 151 (.ref 152) (.ref 153) 154 374 375) ::
 (nat_lit 156, fu "pair_graph" "pair_graph" (tp 14) "ownbeat.walks" 344 155) ::
 (nat_lit 157, tu []) ::
 (nat_lit 159, tu [.str "code" 380, .str "one" 381, .str "other" 382, .str "steps" 383, .str "letter" 384, .str "row" 385, .str "another" 386, .str "beside" 387]) ::
 (nat_lit 160, tu []) ::
 (nat_lit 162, co "pair_steps" 377 "pair_steps" 378 379 36 3 157 158 (.ref 159) (.ref 160) 161 388 389) ::
 (nat_lit 163, fu "pair_steps" "pair_steps" (tp 15) "ownbeat.walks" 344 162) ::
 (nat_lit 164, tu []) ::
 (nat_lit 166, tu [.str "layer" 394, .str "graph" 395, .str "behind" 396, .str "node" 397, .str "label" 398, .str "to" 399]) ::
 (nat_lit 167, tu []) ::
 (nat_lit 169, co "layer_behind" 391 "layer_behind" 392 393 43 2 164 165 (.ref 166) (.ref 167) 168 400 401) ::
 (nat_lit 170, fu "layer_behind" "layer_behind" (tp 16) "ownbeat.walks" 344 169) ::
 (nat_lit 171, tu []) ::
 (nat_lit 173, tu [.str "thing" 408, .str "n" 409]) ::
 (nat_lit 174, tu []) ::
 (nat_lit 176, co "is_word" 405 "is_word" 406 407 51 2 171 172 (.ref 173) (.ref 174) 175 410 411) ::
 (nat_lit 177, fu "is_word" "is_word" (tp 18) "ownbeat.codes" 403 176) ::
 (nat_lit 178, tu []) ::
 (nat_lit 180, tu [.str "code" 418, .str "wire" 419]) ::
 (nat_lit 181, tu []) ::
 (nat_lit 183, co "given_words" 415 "given_words" 416 417 54 2 178 179 (.ref 180) (.ref 181) 182 420 421) ::
 (nat_lit 184, fu "given_words" "given_words" (tp 20) "ownbeat.reading" 413 183) ::
 (nat_lit 185, tu []) ::
 (nat_lit 187, tu [.str "code" 428, .str "wire" 429, .str "words" 430, .str "at" 431, .str "word" 432]) ::
 (nat_lit 188, tu []) ::
 (nat_lit 190, co "whole_words" 425 "whole_words" 426 427 59 2 185 186 (.ref 187) (.ref 188) 189 433 434) ::
 (nat_lit 191, fu "whole_words" "whole_words" (tp 22) "ownbeat.settling" 423 190) ::
 (nat_lit 192, tu []) ::
 (nat_lit 194, tu [.str "code" 439, .str "states" 440, .str "words" 441, .str "word" 442]) ::
 (nat_lit 195, tu []) ::
 (nat_lit 197, co "states_behind" 436 "states_behind" 437 438 65 3 192 193 (.ref 194) (.ref 195) 196 443 444) ::
 (nat_lit 198, fu "states_behind" "states_behind" (tp 23) "ownbeat.settling" 423 197) ::
 (nat_lit 199, tu []) ::
 (nat_lit 201, tu [.str "code" 449, .str "states" 450, .str "word" 451, .str "behind" 452, .str "state" 453, .str "row" 454]) ::
 (nat_lit 202, tu []) ::
 (nat_lit 204, co "states_behind_word" 446 "states_behind_word" 447 448 69 3 199 200 (.ref 201) (.ref 202) 203 455 456) ::
 (nat_lit 205, fu "states_behind_word" "states_behind_word" (tp 24) "ownbeat.settling" 423 204) ::
 (nat_lit 206, tu []) ::
 (nat_lit 208, tu [.str "code" 463, .str "back" 464, .str "ahead" 465]) ::
 (nat_lit 209, tu []) ::
 (nat_lit 211, co "tells" 460 "tells" 461 462 77 3 206 207 (.ref 208) (.ref 209) 210 466 467) ::
 (nat_lit 212, fu "tells" "tells" (tp 26) "ownbeat.windows" 458 211) ::
 (nat_lit 213, tu []) ::
 (nat_lit 215, tu [.str "back" 472, .str "ahead" 473]) ::
 (nat_lit 216, tu []) ::
 (nat_lit 218, co "is_window" 469 "is_window" 470 471 79 2 213 214 (.ref 215) (.ref 216) 217 474 475) ::
 (nat_lit 219, fu "is_window" "is_window" (tp 27) "ownbeat.windows" 458 218) ::
 (nat_lit 220, tu []) ::
 (nat_lit 222, tu [.str "graph" 480, .str "back" 481, .str "ahead" 482, .str "pairs" 483]) ::
 (nat_lit 223, tu []) ::
 (nat_lit 225, co "graph_tells" 477 "graph_tells" 478 479 81 3 220 221 (.ref 222) (.ref 223) 224 484 485) ::
 (nat_lit 226, fu "graph_tells" "graph_tells" (tp 28) "ownbeat.windows" 458 225) ::
 (nat_lit 227, tu []) ::
 (nat_lit 229, tu [.str "pairs" 490, .str "graph" 491, .str "count" 492, .str "place" 493]) ::
 (nat_lit 230, tu []) ::
 (nat_lit 232, co "pairs_behind" 487 "pairs_behind" 488 489 85 3 227 228 (.ref 229) (.ref 230) 231 494 495) ::
 (nat_lit 233, fu "pairs_behind" "pairs_behind" (tp 29) "ownbeat.windows" 458 232) ::
 (nat_lit 234, tu []) ::
 (nat_lit 237, co "unlike_steps" 497 "unlike_steps" 498 499 89 1 234 235 (.none) (.none) 236 500 501) ::
 (nat_lit 238, fu "unlike_steps" "unlike_steps" (tp 30) "ownbeat.windows" 458 237) ::
 (nat_lit 239, tu []) ::
 (nat_lit 242, co "read_by" 503 "read_by" 504 505 94 4 239 240 (.none) (.none) 241 506 507) ::
 (nat_lit 243, fu "read_by" "read_by" (tp 31) "ownbeat.windows" 458 242) ::
 (nat_lit 244, tu []) ::
 (nat_lit 246, tu [.str "code" 512, .str "words" 513, .str "back" 514, .str "starts" 515, .str "letter" 516, .str "states" 517]) ::
 (nat_lit 247, tu []) ::
 (nat_lit 249, co "letter_by" 509 "letter_by" 510 511 100 3 244 245 (.ref 246) (.ref 247) 248 518 519) ::
 (nat_lit 250, fu "letter_by" "letter_by" (tp 32) "ownbeat.windows" 458 249) ::
 (nat_lit 251, tu []) ::
 (nat_lit 254, co "states_by_letter" 521 "states_by_letter" 522 523 106 3 251 252 (.none) (.none) 253 524 525) ::
 (nat_lit 255, fu "states_by_letter" "states_by_letter" (tp 33) "ownbeat.windows" 458 254) ::
 (nat_lit 256, tu []) ::
 (nat_lit 258, tu [.str "script" 532, .str "k" 533]) ::
 (nat_lit 259, tu []) ::
 (nat_lit 261, co "_law_cell" 529 "_law_cell" 530 531 114 2 256 257 (.ref 258) (.ref 259) 260 534 535) ::
 (nat_lit 262, fu "_law_cell" "_law_cell" (tp 35) "law_ownbeat_k35_no_window_and_no_wire" 527 261) ::
 (nat_lit 263, tu []) ::
 (nat_lit 265, tu [.str "cell" 540, .str "great" 541]) ::
 (nat_lit 266, tu []) ::
 (nat_lit 268, co "_law_store" 537 "_law_store" 538 539 118 1 263 264 (.ref 265) (.ref 266) 267 542 543) ::
 (nat_lit 269, fu "_law_store" "_law_store" (tp 36) "law_ownbeat_k35_no_window_and_no_wire" 527 268) ::
 (nat_lit 270, tu []) ::
 (nat_lit 272, tu [.str "store" 548, .str "many" 549, .str "told" 550, .str "one" 551]) ::
 (nat_lit 273, tu []) ::
 (nat_lit 275, co "_law_take" 545 "_law_take" 546 547 123 2 270 271 (.ref 272) (.ref 273) 274 552 553) ::
 (nat_lit 276, fu "_law_take" "_law_take" (tp 37) "law_ownbeat_k35_no_window_and_no_wire" 527 275) ::
 (nat_lit 277, tu []) ::
 (nat_lit 279, tu [.str "number" 558, .str "n" 559, .str "word" 560, .str "k" 561]) ::
 (nat_lit 280, tu []) ::
 (nat_lit 282, co "_law_word" 555 "_law_word" 556 557 133 2 277 278 (.ref 279) (.ref 280) 281 562 563) ::
 (nat_lit 283, fu "_law_word" "_law_word" (tp 38) "law_ownbeat_k35_no_window_and_no_wire" 527 282) ::
 (nat_lit 284, tu []) ::
 (nat_lit 286, tu [.str "store" 568, .str "kind" 569, .str "pool" 570, .str "place" 571, .str "letter" 572, .str "sizes" 573, .str "k" 574, .str "n" 575, .str "many" 576, .str "behind" 577, .str "word" 578]) ::
 (nat_lit 287, tu []) ::
 (nat_lit 289, co "_law_branch" 565 "_law_branch" 566 567 139 6 284 285 (.ref 286) (.ref 287) 288 579 580) ::
 (nat_lit 290, fu "_law_branch" "_law_branch" (tp 39) "law_ownbeat_k35_no_window_and_no_wire" 527 289) ::
 (nat_lit 291, tu []) ::
 (nat_lit 294, co "_law_code" 582 "_law_code" 583 584 152 2 291 292 (.none) (.none) 293 585 586) ::
 (nat_lit 295, fu "_law_code" "_law_code" (tp 40) "law_ownbeat_k35_no_window_and_no_wire" 527 294) ::
 (nat_lit 301, tu []) ::
 (nat_lit 304, co "_law_rows" 594 "_law_rows" 595 596 168 3 301 302 (.none) (.none) 303 597 598) ::
 (nat_lit 305, fu "_law_rows" "_law_rows" (tp 42) "law_ownbeat_k35_no_window_and_no_wire" 527 304) ::
 (nat_lit 306, tu []) ::
 (nat_lit 308, tu [.str "code" 603, .str "place" 604, .str "text" 605, .str "wire" 606, .str "letter" 607, .str "word" 608]) ::
 (nat_lit 309, tu []) ::
 (nat_lit 311, co "_law_sent" 600 "_law_sent" 601 602 172 3 306 307 (.ref 308) (.ref 309) 310 609 610) ::
 (nat_lit 312, fu "_law_sent" "_law_sent" (tp 43) "law_ownbeat_k35_no_window_and_no_wire" 527 311) ::
 (nat_lit 313, tu []) ::
 (nat_lit 316, co "_law_pairs" 612 "_law_pairs" 613 614 178 1 313 314 (.none) (.none) 315 615 616) ::
 (nat_lit 317, fu "_law_pairs" "_law_pairs" (tp 44) "law_ownbeat_k35_no_window_and_no_wire" 527 316) ::
 (nat_lit 318, tu []) ::
 (nat_lit 320, tu [.str "code" 621, .str "pair" 622, .str "some" 623, .str "letter" 624, .str "word" 625, .str "one" 626, .str "turn" 627, .str "same" 628, .str "other" 629]) ::
 (nat_lit 321, tu []) ::
 (nat_lit 323, co "_law_steps" 618 "_law_steps" 619 620 183 2 318 319 (.ref 320) (.ref 321) 322 630 631) ::
 (nat_lit 324, fu "_law_steps" "_law_steps" (tp 45) "law_ownbeat_k35_no_window_and_no_wire" 527 323) ::
 (nat_lit 325, tu []) ::
 (nat_lit 328, co "_law_windows" 633 "_law_windows" 634 635 190 1 325 326 (.none) (.none) 327 636 637) ::
 (nat_lit 329, fu "_law_windows" "_law_windows" (tp 46) "law_ownbeat_k35_no_window_and_no_wire" 527 328) ::
 (nat_lit 330, tu []) ::
 (nat_lit 332, tu [.str "some" 642, .str "on" 643, .str "letter" 644, .str "turn" 645, .str "behind" 646]) ::
 (nat_lit 333, tu []) ::
 (nat_lit 335, co "_law_parts" 639 "_law_parts" 640 641 213 2 330 331 (.ref 332) (.ref 333) 334 647 648) ::
 (nat_lit 336, fu "_law_parts" "_law_parts" (tp 47) "law_ownbeat_k35_no_window_and_no_wire" 527 335) ::
 (nat_lit 337, tu []) ::
 (nat_lit 339, tu [.str "wire" 653, .str "n" 654, .str "at" 655, .str "word" 656]) ::
 (nat_lit 340, tu []) ::
 (nat_lit 342, co "_law_fault" 650 "_law_fault" 651 652 218 2 337 338 (.ref 339) (.ref 340) 341 657 658) ::
 (nat_lit 343, fu "_law_fault" "_law_fault" (tp 48) "law_ownbeat_k35_no_window_and_no_wire" 527 342) ::
 (nat_lit 344, tu []) ::
 (nat_lit 346, tu [.str "e" 663]) ::
 (nat_lit 347, tu []) ::
 (nat_lit 349, co "_law_class" 660 "_law_class" 661 662 224 1 344 345 (.ref 346) (.ref 347) 348 664 665) ::
 (nat_lit 350, fu "_law_class" "_law_class" (tp 49) "law_ownbeat_k35_no_window_and_no_wire" 527 349) ::
 (nat_lit 351, tu []) ::
 (nat_lit 353, tu [.str "code" 670, .str "window" 671, .str "thing" 672, .str "word" 673, .str "e" 674]) ::
 (nat_lit 354, tu []) ::
 (nat_lit 356, co "_law_asked" 667 "_law_asked" 668 669 234 3 351 352 (.ref 353) (.ref 354) 355 675 676) ::
 (nat_lit 357, fu "_law_asked" "_law_asked" (tp 50) "law_ownbeat_k35_no_window_and_no_wire" 527 356) ::
 (nat_lit 358, tu []) ::
 (nat_lit 360, tu [.str "store" 681, .str "wire" 682, .str "kind" 683, .str "at" 684]) ::
 (nat_lit 361, tu []) ::
 (nat_lit 363, co "_law_spoilt" 678 "_law_spoilt" 679 680 241 2 358 359 (.ref 360) (.ref 361) 362 685 686) ::
 (nat_lit 364, fu "_law_spoilt" "_law_spoilt" (tp 51) "law_ownbeat_k35_no_window_and_no_wire" 527 363) ::
 (nat_lit 365, tu []) ::
 (nat_lit 367, tu [.str "script" 691, .str "at" 692, .str "store" 693, .str "code" 694, .str "place" 695, .str "text" 696, .str "wire" 697, .str "windows" 698, .str "back" 699, .str "window" 700, .str "fault" 701, .str "due" 702, .str "things" 703, .str "odd" 704]) ::
 (nat_lit 368, tu []) ::
 (nat_lit 370, co "law" 688 "law" 689 690 249 1 365 366 (.ref 367) (.ref 368) 369 705 706) ::
 (nat_lit 371, fu "law" "law" (tp 52) "law_ownbeat_k35_no_window_and_no_wire" 527 370) :: []
def V : Program := view Pw [1, 2, 3, 4, 5, 6, 7, 8, 9, 11, 12, 13, 14, 15, 16, 18, 20, 22, 23, 24, 26, 27, 28, 29, 30, 31, 32, 33, 35, 36, 37, 38, 39, 40, 41, 42, 43, 44, 45, 46, 47, 48, 49, 50, 51, 52]
noncomputable abbrev hk : Hook := kHook K [2, 3, 15, 22, 23, 24, 25, 28, 35, 36, 37, 40, 47, 48, 49, 52, 59, 61, 62, 64, 65, 66, 67, 68, 71, 78, 79, 80, 83, 90, 91, 92, 95, 102, 103, 104, 107, 114, 115, 116, 119, 126, 127, 128, 131, 133, 134, 136, 137, 138, 141, 142, 143, 145, 146, 148, 149, 150, 152, 153, 155, 156, 157, 159, 160, 162, 163, 164, 166, 167, 169, 170, 171, 173, 174, 176, 177, 178, 180, 181, 183, 184, 185, 187, 188, 190, 191, 192, 194, 195, 197, 198, 199, 201, 202, 204, 205, 206, 208, 209, 211, 212, 213, 215, 216, 218, 219, 220, 222, 223, 225, 226, 227, 229, 230, 232, 233, 234, 237, 238, 239, 242, 243, 244, 246, 247, 249, 250, 251, 254, 255, 256, 258, 259, 261, 262, 263, 265, 266, 268, 269, 270, 272, 273, 275, 276, 277, 279, 280, 282, 283, 284, 286, 287, 289, 290, 291, 294, 295, 301, 304, 305, 306, 308, 309, 311, 312, 313, 316, 317, 318, 320, 321, 323, 324, 325, 328, 329, 330, 332, 333, 335, 336, 337, 339, 340, 342, 343, 344, 346, 347, 349, 350, 351, 353, 354, 356, 357, 358, 360, 361, 363, 364, 365, 367, 368, 370, 371] (fun _ => by kernel_rfl)
theorem join {α β γ : Type} {o : Option α} {X : α → β × γ} {G : β × γ} (h : o.map (fun s => (X s).1) = some G.1) (k : o.map (fun s => (X s).2) = some G.2) : o.map X = some G := by
  cases o with
  | none => cases h
  | some s => exact congrArg some (Prod.ext (Option.some.inj h) (Option.some.inj k))
theorem HLb : ∀ w, (openEnds treeTable (Rw.row).prog w 6392).map (Hook.obs hk) = some (Hook.val hk w) := by
  intro w
  rw [Fast.te14364793385576792824]
  kernel_rfl
theorem HL1 : ∀ w, (openEnds treeTable (Rw.row).prog w 6392).map (fun s => (openSeen V [] (importedModules (Rw.row).prog.main.body) (fun s => xlAt V [] s && recOk (RowW.records (OpenRow.toRowW Rw.row)) s) true s).1) = some (PyProof.Rows.expectedOf V) := by
  intro w
  rw [Fast.te14364793385576792824, Fast.te4187177175401517315, Fast.te5923862056798008813]
  kernel_rfl
theorem HL2 : ∀ w, (openEnds treeTable (Rw.row).prog w 6392).map (fun s => (openSeen V [] (importedModules (Rw.row).prog.main.body) (fun s => xlAt V [] s && recOk (RowW.records (OpenRow.toRowW Rw.row)) s) true s).2.1) = some (bltViewBooted) := by
  intro w
  rw [Fast.te14364793385576792824, Fast.te4187177175401517315, Fast.te5923862056798008813]
  kernel_rfl
theorem HL3 : ∀ w, (openEnds treeTable (Rw.row).prog w 6392).map (fun s => (openSeen V [] (importedModules (Rw.row).prog.main.body) (fun s => xlAt V [] s && recOk (RowW.records (OpenRow.toRowW Rw.row)) s) true s).2.2.1) = some (true) := by
  intro w
  rw [Fast.te14364793385576792824, Fast.te4187177175401517315, Fast.te5923862056798008813]
  kernel_rfl
theorem HL4 : ∀ w, (openEnds treeTable (Rw.row).prog w 6392).map (fun s => (openSeen V [] (importedModules (Rw.row).prog.main.body) (fun s => xlAt V [] s && recOk (RowW.records (OpenRow.toRowW Rw.row)) s) true s).2.2.2) = some (true, pinGoodD (PyProof.Rows.drecsOf V), PyProof.Rows.plainGoodE V (looseW V []), PyProof.Rows.plainGoodD V [], wideGood V, clsGoodW V []) := by
  intro w
  rw [Fast.te14364793385576792824, Fast.te4187177175401517315, Fast.te5923862056798008813]
  kernel_rfl
theorem HL : LeftO (Rw.row).prog V [] (fun s => xlAt V [] s && recOk (RowW.records (OpenRow.toRowW Rw.row)) s) (Hook.obs hk) (Hook.val hk) 6392 := fun w => join (X := fun s => (openSeen V [] (importedModules (Rw.row).prog.main.body) (fun s => xlAt V [] s && recOk (RowW.records (OpenRow.toRowW Rw.row)) s) true s, Hook.obs hk s)) (G := (openGood V [], Hook.val hk w)) (join (HL1 w) (join (HL2 w) (join (HL3 w) (HL4 w)))) (HLb w)
end KH
noncomputable def PySem.W.Fast.tw9666312682063950160 : PySem.Program := PySem.Challenge.pw_ownbeat_k35_no_window_and_no_wire
theorem PySem.W.Fast.te9666312682063950160 : PySem.Challenge.pw_ownbeat_k35_no_window_and_no_wire = PySem.W.Fast.tw9666312682063950160 := rfl
noncomputable def PySem.W.Fast.tw1500464742373550752 : PySem.W.OpenLaw := PySem.Challenge.rw_ownbeat_k35_no_window_and_no_wire
theorem PySem.W.Fast.te1500464742373550752 : PySem.Challenge.rw_ownbeat_k35_no_window_and_no_wire = PySem.W.Fast.tw1500464742373550752 := rfl
noncomputable def PySem.W.Fast.tw5761066807429076752 : PySem.Program := KH.V
theorem PySem.W.Fast.te5761066807429076752 : KH.V = PySem.W.Fast.tw5761066807429076752 := rfl
noncomputable def PySem.W.Fast.tw13718576055750932966 : PySem.Params → PySem.W.Frag := KH.K
theorem PySem.W.Fast.te13718576055750932966 : KH.K = PySem.W.Fast.tw13718576055750932966 := rfl
noncomputable def PySem.W.Fast.tw770474345414848920 : PySem.Program := KH.Pw
theorem PySem.W.Fast.te770474345414848920 : KH.Pw = PySem.W.Fast.tw770474345414848920 := rfl
noncomputable def PySem.W.Fast.tw14237125333626191895 : PySem.W.OpenLaw := KH.Rw
theorem PySem.W.Fast.te14237125333626191895 : KH.Rw = PySem.W.Fast.tw14237125333626191895 := rfl
end
set_option compiler.extract_closed false
namespace L2
open PySem PySem.Spec PyProof.Rows
abbrev Key := Sum Int Str
def keyIs : Key → Value → Bool
 | .inl k, v => Value.isInt k v
 | .inr x, v => Value.isStrOf x v
def keyH (w : World) : Key → Int
 | .inl k => hashInt k
 | .inr x => hashStr w x
theorem keyIs_shape : ∀ {k : Key} {v : Value}, keyIs k v = true → (∃ i t, k = Sum.inl i ∧ v = Value.int i t) ∨ (∃ x t, k = Sum.inr x ∧ v = Value.str x t)
 | .inl i, v, h => by
  obtain ⟨t, e⟩ := Value.isInt_shape (k := i) (v := v) h
  exact .inl ⟨i, t, rfl, e⟩
 | .inr x, v, h => by
  obtain ⟨t, e⟩ := Value.isStrOf_shape (x := x) (v := v) h
  exact .inr ⟨x, t, rfl, e⟩
theorem keyIs_int (i : Int) (t : Tok) : keyIs (.inl i) (.int i t) = true := by simp [keyIs, Value.isInt]
theorem keyIs_str (x : Str) (t : Tok) : keyIs (.inr x) (.str x t) = true := by simp [keyIs, Value.isStrOf]
theorem key_ll (a b : Int) : decide ((Sum.inl a : Key) = Sum.inl b) = (a == b) := by
 by_cases e : a = b
 ·subst e; simp
 ·have h : ¬ (Sum.inl a : Key) = Sum.inl b := fun q => e (Sum.inl.inj q)
  rw [decide_eq_false h]
  exact (beq_eq_false_iff_ne.mpr e).symm
theorem key_rr (a b : Str) : decide ((Sum.inr a : Key) = Sum.inr b) = decide (a = b) := by
 by_cases e : a = b
 ·subst e; simp
 ·have h : ¬ (Sum.inr a : Key) = Sum.inr b := fun q => e (Sum.inr.inj q)
  rw [decide_eq_false h, decide_eq_false e]
theorem key_lr (a : Int) (b : Str) : decide ((Sum.inl a : Key) = Sum.inr b) = false := decide_eq_false (fun q => nomatch q)
theorem key_rl (a : Str) (b : Int) : decide ((Sum.inr a : Key) = Sum.inl b) = false := decide_eq_false (fun q => nomatch q)
def mixKind (prog : Program) (w : World) : PySem.KeyKind prog w Key where
 is := keyIs
 hash := keyH w
 inj := fun v a b ha hb => by
  rcases keyIs_shape ha with ⟨i, t, rfl, rfl⟩ | ⟨x, t, rfl, rfl⟩
  ·rcases keyIs_shape hb with ⟨j, u, rfl, e⟩ | ⟨y, u, rfl, e⟩
   ·injection e with e1 _; rw [e1]
   ·exact nomatch e
  ·rcases keyIs_shape hb with ⟨j, u, rfl, e⟩ | ⟨y, u, rfl, e⟩
   ·exact nomatch e
   ·injection e with e1 _; rw [e1]
 byValue := fun k v h => by
  rcases keyIs_shape h with ⟨i, t, rfl, rfl⟩ | ⟨x, t, rfl, rfl⟩ <;> rfl
 pyHash := fun hv h => by
  rcases keyIs_shape hv with ⟨i, t, rfl, rfl⟩ | ⟨x, t, rfl, rfl⟩
  ·exact wpAny_pyHash_int h
  ·exact wpAny_pyHash_str h
 eqBool := fun hu hv h => by
  rcases keyIs_shape hu with ⟨i, t, rfl, rfl⟩ | ⟨x, t, rfl, rfl⟩
  ·rcases keyIs_shape hv with ⟨j, u, rfl, rfl⟩ | ⟨y, u, rfl, rfl⟩
   ·rw [key_ll] at h; exact wpAny_eqBool_int h
   ·rw [key_lr] at h; exact SeqAt.EqAt.int_str i t y u _ _ _ _ h
  ·rcases keyIs_shape hv with ⟨j, u, rfl, rfl⟩ | ⟨y, u, rfl, rfl⟩
   ·rw [key_rl] at h; exact SeqAt.EqAt.str_int x t j u _ _ _ _ h
   ·rw [key_rr] at h; exact wpAny_eqBool_str h
 «strs» := fun k x t v h => by
  rcases keyIs_shape h with ⟨i, u, rfl, e⟩ | ⟨y, u, rfl, e⟩
  ·exact nomatch e
  ·injection e with e1 _
   subst e1
   cases v <;> rfl
theorem mixKind_int (prog : Program) (w : World) (i : Int) (t : Tok) : (mixKind prog w).is (.inl i) (.int i t) = true := keyIs_int i t
theorem mixKind_str (prog : Program) (w : World) (x : Str) (t : Tok) : (mixKind prog w).is (.inr x) (.str x t) = true := keyIs_str x t
end L2
namespace L2
open PySem PySem.Spec PyProof.Rows
inductive V where
 | non | bl (b : Bool) | int (i : Int) | str (x : Str) | byt (b : Array UInt8) | flt (b : UInt64) | ref (a : Addr) | ty (n : String)
 deriving DecidableEq
def RelV : V → Value → Prop
 | .non, u => u = Value.none
 | .bl b, u => u = Value.bool b
 | .int i, u => ∃ t, u = Value.int i t
 | .str x, u => ∃ t, u = Value.str x t
 | .byt b, u => ∃ t, u = Value.bytes b t
 | .flt b, u => ∃ t, u = Value.float b t
 | .ref a, u => u = Value.ref a
 | .ty n, u => u = Value.type n
abbrev Vals : List V → List Value → Prop := Paired RelV
theorem Vals.length {xs : List V} {us : List Value} (r : Vals xs us) : xs.length = us.length := Paired.length r
theorem Vals.get : ∀ {xs : List V} {us : List Value} {i : Nat} {x : V}, Vals xs us → xs[i]? = some x → ∃ u, us[i]? = some u ∧ RelV x u
 | _, _, _, _, .nil, e => by simp at e
 | _, _, 0, _, .cons r _, e => by simp at e; subst e; exact ⟨_, rfl, r⟩
 | _, _, i + 1, x, .cons _ t, e => by
  obtain ⟨u, h1, h2⟩ := Vals.get (i := i) (x := x) t (by simpa using e)
  exact ⟨u, by simpa using h1, h2⟩
theorem Vals.set {x : V} {u : Value} (r : RelV x u) : ∀ {xs : List V} {us : List Value} (i : Nat), Vals xs us → Vals (xs.set i x) (us.set i u)
 | _, _, _, .nil => .nil
 | _, _, 0, .cons _ t => .cons r t
 | _, _, i + 1, .cons q t => .cons q (Vals.set r i t)
theorem Vals.append : ∀ {xs ys : List V} {us ws : List Value}, Vals xs us → Vals ys ws → Vals (xs ++ ys) (us ++ ws)
 | _, _, _, _, .nil, s => s
 | _, _, _, _, .cons r t, s => .cons r (Vals.append t s)
theorem Vals.take : ∀ {xs : List V} {us : List Value} (n : Nat), Vals xs us → Vals (xs.take n) (us.take n)
 | _, _, 0, _ => .nil
 | _, _, _ + 1, .nil => .nil
 | _, _, n + 1, .cons r t => .cons r (Vals.take n t)
theorem Vals.drop : ∀ {xs : List V} {us : List Value} (n : Nat), Vals xs us → Vals (xs.drop n) (us.drop n)
 | _, _, 0, r => r
 | _, _, _ + 1, .nil => .nil
 | _, _, n + 1, .cons _ t => Vals.drop n t
def RelO : Option V → Option Value → Prop
 | some v, some u => RelV v u
 | none, none => True
 | _, _ => False
def KV {κ : Type} : List (κ × V) → List (κ × Value) → Prop := Paired fun (p : κ × V) (q : κ × Value) => p.1 = q.1 ∧ RelV p.2 q.2
def kV : Key → V
 | .inl i => .int i
 | .inr x => .str x
inductive HO where
  | lst (xs : List V)
  | tup (xs : List V)
  | dK (kvs : List (Key × V)) | dT (kvs : List (List Key × V))
  | set (S : Int → Bool) (n : Nat)
  | ins (C dx : Addr) (fs : List (Str × V))
  | own (x : Addr)
  | xd (fs : List (Str × V))
  | met (f x : Addr)
  | rng (lo hi : Int)
  | frz (o : Obj) (u : HO)
  | tbl (ps : Array Value)
  | ext (φ : Heap → Prop)
abbrev Hp := Addr → Option HO
def upd (H : Hp) (a : Addr) (o : HO) : Hp := fun b => if b = a then some o else H b
theorem upd_same {H : Hp} {a : Addr} {o : HO} : upd H a o a = some o := by unfold upd; rw [if_pos rfl]
theorem upd_ne {H : Hp} {a b : Addr} {o : HO} (h : b ≠ a) : upd H a o b = H b := by unfold upd; rw [if_neg h]
theorem upd_upd {H : Hp} {a : Addr} {o u : HO} : upd (upd H a o) a u = upd H a u := by
 funext b; unfold upd; split <;> rfl
theorem ne_of {H : Hp} {a b : Addr} {o u : HO} (h : H a = some o) (h' : H b = some u) (d : o ≠ u) : a ≠ b := by
 intro e; subst e; rw [h] at h'; exact d (Option.some.inj h')
theorem ne_of_none {H : Hp} {a b : Addr} {o : HO} (h : H a = some o) (h' : H b = none) : a ≠ b := by
 intro e; subst e; rw [h] at h'; cases h'
section
variable (P : Program) (w : World)
def ObjOk (H : Hp) (h : Heap) (a : Addr) : HO → Prop
 | .lst xs => xs.length ≤ sizeLine ∧ ∃ (its : List Value) (n : Nat), Vals xs its ∧ h.get? a = some { cls := .type "list", data := .seq its.toArray n }
 | .tup xs => xs.length ≤ sizeLine ∧ ∃ its : List Value, Vals xs its ∧ IsTup h a its.toArray
 | .dK kvs => kvs.length ≤ sizeLine ∧ (a == sysModules) = false ∧ ∃ vs, KV kvs vs ∧ h.DictOf (mixKind P w) a vs
 | .dT kvs => kvs.length ≤ sizeLine ∧ (a == sysModules) = false ∧ ∃ xs : List (List Key × Addr × Value),
   Paired (fun (p : List Key × V) (q : List Key × Addr × Value) => p.1 = q.1 ∧ H q.2.1 = some (.tup (p.1.map kV)) ∧ RelV p.2 q.2.2) kvs xs ∧
   ∃ o es ep, h.get? a = some o ∧ o.ExactDict ∧ o.data = .dict es ep ∧ es.toList = xs.map (entryOfKey (tupleKind (mixKind P w))) ∧ (xs.map (·.1)).Nodup
 | .set S n => h.SetOf (intKind P w) a S n
 | .ins C dx fs => H dx = some (.own a) ∧ fs.length ≤ 1000 ∧ dx ≠ a ∧ h.get? a = some (PySem.W.instObj C dx) ∧
   ∃ mA, h.Ns1 dx mA ∧ (∀ f, RelO (fs.lookup f) (mA f)) ∧ PySem.Within mA (fs.map (·.1))
 | .own _ => ∃ o, h.get? a = some o
 | .xd fs => ∃ mA, h.Ns1 a mA ∧ ∀ f, RelO (fs.lookup f) (mA f)
 | .rng lo hi => ∃ t u v, h.get? a = some { cls := .type "range", data := .fields #[.int lo t, .int hi u, .int 1 v] }
 | .frz o u => h.get? a = some o ∧ ObjOk H h a u
 | .tbl ps => h.get? a = some { cls := .none, data := .fields ps }
 | .met f x => h.get? a = some (PySem.W.methodObj (.ref f) (.ref x))
 | .ext φ => φ h ∧ (∃ o, h.get? a = some o) ∧ ∀ h1 h2 : Heap, φ h1 → (∀ o, h1.get? a = some o → h2.get? a = some o) → φ h2
def HOk (H : Hp) (h : Heap) : Prop := ∀ a o, H a = some o → ObjOk P w H h a o
end
section
variable {P : Program} {w : World} {H H' : Hp} {h h' : Heap} {a : Addr} {o : HO}
theorem ObjOk.lt (x : ObjOk P w H h a o) : a < h.objs.size := by
 cases o with
 | lst xs => obtain ⟨_, _, _, _, e⟩ := x; exact Heap.lt_size e
 | tup xs => obtain ⟨_, _, _, p⟩ := x; exact p.lt
 | dK kvs => obtain ⟨_, _, _, _, o, _, _, e, _⟩ := x; exact Heap.lt_size e
 | dT kvs => obtain ⟨_, _, _, _, o, _, _, e, _⟩ := x; exact Heap.lt_size e
 | set S n => obtain ⟨o, _, _, _, e, _⟩ := x; exact Heap.lt_size e
 | ins C dx fs => obtain ⟨_, _, _, e, _⟩ := x; exact Heap.lt_size e
 | own y => obtain ⟨_, e⟩ := x; exact Heap.lt_size e
 | xd fs => obtain ⟨_, ⟨_, _, _, e, _⟩, _⟩ := x; exact Heap.lt_size e
 | rng lo hi => obtain ⟨_, _, _, e⟩ := x; exact Heap.lt_size e
 | frz ob u => obtain ⟨e, _⟩ := x; exact Heap.lt_size e
 | tbl ps => exact Heap.lt_size (show h.get? a = some _ from x)
 | met f y => exact Heap.lt_size (show h.get? a = some _ from x)
 | ext φ => obtain ⟨_, ⟨_, e⟩, _⟩ := x; exact Heap.lt_size e
theorem Paired.mapP {α β : Type} {F G : α → β → Prop} : ∀ {l₁ : List α} {l₂ : List β}, Paired F l₁ l₂ → (∀ a b, F a b → G a b) → Paired G l₁ l₂
 | _, _, .nil, _ => .nil
 | _, _, .cons r t, f => .cons (f _ _ r) (Paired.mapP t f)
theorem ObjOk.stay (x : ObjOk P w H h a o) (k : ∀ b u, (b = a ∨ H b = some (.own a)) → h.get? b = some u → h'.get? b = some u)
  (ho : ∀ b, H b = some (.own a) → H' b = some (.own a)) (ht : ∀ b xs, H b = some (.tup xs) → H' b = some (.tup xs)) : ObjOk P w H' h' a o := by
 induction o with
 | lst xs => obtain ⟨z, its, n, r, e⟩ := x; exact ⟨z, its, n, r, k _ _ (.inl rfl) e⟩
 | tup xs => obtain ⟨z, its, r, ob, e, c⟩ := x; exact ⟨z, its, r, ob, k _ _ (.inl rfl) e, c⟩
 | dK kvs => obtain ⟨z, y, vs, r, ob, es, ep, e, c⟩ := x; exact ⟨z, y, vs, r, ob, es, ep, k _ _ (.inl rfl) e, c⟩
 | dT kvs =>
  obtain ⟨z, y, xs, r, ob, es, ep, e, c⟩ := x
  exact ⟨z, y, xs, Paired.mapP r fun p q z => ⟨z.1, ht _ _ z.2.1, z.2.2⟩, ob, es, ep, k _ _ (.inl rfl) e, c⟩
 | set S n => obtain ⟨ob, es, ep, t, e, c⟩ := x; exact ⟨ob, es, ep, t, k _ _ (.inl rfl) e, c⟩
 | ins C dx fs =>
  obtain ⟨d, z, ne, e, mA, ⟨od, es, ep, e2, c⟩, r⟩ := x
  exact ⟨ho _ d, z, ne, k _ _ (.inl rfl) e, mA, ⟨od, es, ep, k _ _ (.inr d) e2, c⟩, r⟩
 | own y => obtain ⟨ob, e⟩ := x; exact ⟨ob, k _ _ (.inl rfl) e⟩
 | xd fs => obtain ⟨mA, ⟨od, es, ep, e, c⟩, r⟩ := x; exact ⟨mA, ⟨od, es, ep, k _ _ (.inl rfl) e, c⟩, r⟩
 | rng lo hi => obtain ⟨t, u, v, e⟩ := x; exact ⟨t, u, v, k _ _ (.inl rfl) e⟩
 | frz ob u ih => obtain ⟨e, q⟩ := x; exact ⟨k _ _ (.inl rfl) e, ih q⟩
 | tbl ps =>
  have e : h.get? a = some { cls := .none, data := .fields ps } := x
  show h'.get? a = some { cls := .none, data := .fields ps }
  exact k a _ (.inl rfl) e
 | met f y =>
  have e : h.get? a = some (PySem.W.methodObj (.ref f) (.ref y)) := x
  show h'.get? a = some (PySem.W.methodObj (.ref f) (.ref y))
  exact k a _ (.inl rfl) e
 | ext φ => obtain ⟨p, ⟨o, e⟩, st⟩ := x; exact ⟨st _ _ p fun o q => k _ _ (.inl rfl) q, ⟨o, k _ _ (.inl rfl) e⟩, st⟩
theorem HOk.lt (x : HOk P w H h) (e : H a = some o) : a < h.objs.size := (x a o e).lt
theorem HOk.fresh (x : HOk P w H h) (e : h.objs.size ≤ a) : H a = none := by
 cases q : H a with
 | none => rfl
 | some u => exact absurd (Nat.lt_of_lt_of_le (x.lt q) e) (Nat.lt_irrefl _)
theorem HOk.kept (x : HOk P w H h) (k : ∀ b u, h.get? b = some u → h'.get? b = some u) : HOk P w H h' := fun a o e =>
 (x a o e).stay (fun b u _ q => k b u q) (fun _ q => q) fun _ _ q => q
theorem HOk.laid (x : HOk P w H h) (k : ∀ b u, h.get? b = some u → h'.get? b = some u) (hp : h.objs.size ≤ a) (new : ObjOk P w (upd H a o) h' a o) : HOk P w (upd H a o) h' := fun b u e => by
 have hn := x.fresh hp
 by_cases hb : b = a
 ·subst hb; rw [upd_same] at e; cases e; exact new
 ·rw [upd_ne hb] at e
  exact (x b u e).stay (fun c v _ q => k c v q) (fun c q => by rw [upd_ne (ne_of_none q hn)]; exact q) fun c xs q => by rw [upd_ne (ne_of_none q hn)]; exact q
end
def Rd (H : Hp) (a : Addr) (u : HO) : Prop := H a = some u ∨ ∃ o, H a = some (.frz o u)
theorem Rd.of {H : Hp} {a : Addr} {u : HO} (h : H a = some u) : Rd H a u := .inl h
theorem Rd.ok {P : Program} {w : World} {H : Hp} {h : Heap} {a : Addr} {u : HO} (r : Rd H a u) (x : HOk P w H h) : ObjOk P w H h a u := by
 rcases r with r | ⟨o, r⟩
 ·exact x a u r
 ·obtain ⟨_, q⟩ := x a _ r
  exact q
def Mut : Option HO → Prop
 | some (.lst _) => True
 | some (.dK _) => True
 | some (.dT _) => True
 | some (.set _ _) => True
 | some (.ins _ _ _) => True
 | some (.ext _) => True
 | _ => False
section
variable {P : Program} {w : World} {H : Hp} {h h' : Heap} {x e : Addr} {o' : HO}
theorem HOk.write (ok : HOk P w H h) (mu : Mut (H x)) (he : e = x ∨ H e = some (.own x)) (k : ∀ b u, b ≠ e → h.get? b = some u → h'.get? b = some u) (heo : ∃ u, h'.get? e = some u)
  (new : ObjOk P w (upd H x o') h' x o') : HOk P w (upd H x o') h' := fun b u q => by
 have nown : ∀ c y, H c = some (.own y) → c ≠ x := fun c y r z => by subst z; rw [r] at mu; exact mu
 have ntup : ∀ c xs, H c = some (.tup xs) → c ≠ x := fun c xs r z => by subst z; rw [r] at mu; exact mu
 by_cases hb : b = x
 ·subst hb; rw [upd_same] at q; cases q; exact new
 ·rw [upd_ne hb] at q
  by_cases hbe : b = e
  ·have q' : H b = some (.own x) := by
    rcases he with z | z
    ·exact absurd (hbe.trans z) hb
    ·rw [hbe]; exact z
   rw [q] at q'; cases q'
   obtain ⟨v, hv⟩ := heo
   exact ⟨v, by rw [hbe]; exact hv⟩
  ·refine (ok b u q).stay (fun c v hc r => k c v ?_ r) (fun c r => by rw [upd_ne (nown c b r)]; exact r) fun c xs r => by rw [upd_ne (ntup c xs r)]; exact r
   rcases hc with rfl | hc
   ·exact hbe
   ·rintro rfl
    rcases he with z | z
    ·exact nown c b hc z
    ·rw [hc] at z; cases z; exact hb rfl
end
structure Un (fs ex : List Addr) (H H' : Hp) (h h' : Heap) : Prop where
 keep : ∀ b o, h.get? b = some o → H b = none → b ∉ fs → b ∉ ex → h'.get? b = some o
 slot : ∀ b o, h.get? b = some o → H b = none → b ∈ fs → b ∉ ex → ∃ sl, h'.get? b = some { o with slots := sl }
 free : ∀ b o, h.get? b = some o → H b = none → b ∉ ex → H' b = none
 there : ∀ b o, h.get? b = some o → b ∉ ex → ∃ o', h'.get? b = some o'
 tups : ∀ b xs, H b = some (.tup xs) → H' b = some (.tup xs)
 frzs : ∀ b o u, H b = some (.frz o u) → H' b = some (.frz o u)
 tbls : ∀ b ps, H b = some (.tbl ps) → ∃ more, H' b = some (.tbl (ps ++ more))
section
variable {fs fs' ex ex' : List Addr} {H H1 H2 : Hp} {h h1 h2 h' : Heap} {a x e : Addr} {o : HO}
theorem Un.any (u : Un fs ex H H1 h h1) {b : Addr} {ob : Obj} (q : h.get? b = some ob) (n : H b = none) (hx : b ∉ ex) : ∃ sl, h1.get? b = some { ob with slots := sl } := by
 by_cases hb : b ∈ fs
 ·exact u.slot b ob q n hb hx
 ·exact ⟨ob.slots, u.keep b ob q n hb hx⟩
theorem Un.trans (a : Un fs ex H H1 h h1) (b : Un fs ex H1 H2 h1 h2) : Un fs ex H H2 h h2 where
 keep := fun c ob q n hc hx => b.keep c ob (a.keep c ob q n hc hx) (a.free c ob q n hx) hc hx
 slot := fun c ob q n hc hx => by
  obtain ⟨sl, e1⟩ := a.slot c ob q n hc hx
  obtain ⟨sl', e2⟩ := b.slot c _ e1 (a.free c ob q n hx) hc hx
  exact ⟨sl', e2⟩
 free := fun c ob q n hx => by
  obtain ⟨o', e1⟩ := a.there c ob q hx
  exact b.free c o' e1 (a.free c ob q n hx) hx
 there := fun c ob q hx => by
  obtain ⟨o', e1⟩ := a.there c ob q hx
  exact b.there c o' e1 hx
 tups := fun c xs q => b.tups c xs (a.tups c xs q)
 frzs := fun c ob xs q => b.frzs c ob xs (a.frzs c ob xs q)
 tbls := fun c ps q => by
  obtain ⟨m1, e1⟩ := a.tbls c ps q
  obtain ⟨m2, e2⟩ := b.tbls c _ e1
  exact ⟨m1 ++ m2, by rw [e2, Array.append_assoc]⟩
theorem Un.kept (k : ∀ b u, h.get? b = some u → h'.get? b = some u) : Un fs ex H H h h' :=
 ⟨fun b ob q _ _ _ => k b ob q, fun b ob q _ _ _ => ⟨ob.slots, k b ob q⟩, fun _ _ _ n _ => n, fun b ob q _ => ⟨ob, k b ob q⟩, fun _ _ q => q, fun _ _ _ q => q, fun _ ps q => ⟨#[], by rw [q]; simp⟩⟩
theorem Un.refl : Un fs ex H H h h := Un.kept fun _ _ q => q
theorem Un.laid (k : ∀ b u, h.get? b = some u → h'.get? b = some u) (hp : h.objs.size ≤ a) (hn : H a = none) : Un fs ex H (upd H a o) h h' where
 keep := fun b u q _ _ _ => k b u q
 slot := fun b u q _ _ _ => ⟨u.slots, k b u q⟩
 free := fun b u q n _ => by rw [upd_ne (Nat.ne_of_lt (Nat.lt_of_lt_of_le (Heap.lt_size q) hp))]; exact n
 there := fun b u q _ => ⟨u, k b u q⟩
 tups := fun b xs q => by rw [upd_ne (ne_of_none q hn)]; exact q
 frzs := fun b u xs q => by rw [upd_ne (ne_of_none q hn)]; exact q
 tbls := fun b ps q => ⟨#[], by rw [upd_ne (ne_of_none q hn), q]; simp⟩
theorem Un.write (mu : Mut (H x)) (he : e = x ∨ H e = some (.own x)) (k : ∀ b u, b ≠ e → h.get? b = some u → h'.get? b = some u) (heo : ∃ u, h'.get? e = some u) : Un fs ex H (upd H x o) h h' := by
 have hx : ∀ b, H b = none → b ≠ x := fun b n z => by subst z; rw [n] at mu; exact mu
 have hb : ∀ b, H b = none → b ≠ e := fun b n z => by
  subst z
  rcases he with r | r
  ·exact hx b n r
  ·rw [n] at r; cases r
 have hm : ∀ b u, H b = some u → ¬ Mut (some u) → b ≠ x := fun b u q nm z => by subst z; rw [q] at mu; exact nm mu
 refine ⟨fun b u q n _ _ => k b u (hb b n) q, fun b u q n _ _ => ⟨u.slots, k b u (hb b n) q⟩, fun b u q n _ => by rw [upd_ne (hx b n)]; exact n, fun b u q _ => ?_,
  fun b xs q => by rw [upd_ne (hm b _ q fun z => z)]; exact q, fun b u xs q => by rw [upd_ne (hm b _ q fun z => z)]; exact q, fun b ps q => ⟨#[], by rw [upd_ne (hm b _ q fun z => z), q]; simp⟩⟩
 by_cases hbe : b = e
 ·subst hbe; exact heo
 ·exact ⟨u, k b u hbe q⟩
theorem Un.mono (u : Un fs ex H H1 h h1) (hs : ∀ b ∈ fs, b ∈ fs') (hx : ∀ b ∈ ex, b ∈ ex') : Un fs' ex' H H1 h h1 :=
 ⟨fun b ob q n hb he => u.keep b ob q n (fun z => hb (hs b z)) fun z => he (hx b z), fun _ _ q n _ he => u.any q n fun z => he (hx _ z), fun b ob q n he => u.free b ob q n fun z => he (hx b z), fun b ob q he => u.there b ob q fun z => he (hx b z), u.tups, u.frzs, u.tbls⟩
end
def trk (h : Heap) (H : Hp) : List Addr := (List.range h.objs.size).filter fun a => (H a).isSome
def hidT (h : Heap) (H : Hp) : Heap := PySem.W.hideAll h (trk h H)
theorem hidT_size (h : Heap) (H : Hp) : (hidT h H).objs.size = h.objs.size := PySem.W.hideAll_size _ _
theorem hidT_get {h : Heap} {H : Hp} {b : Addr} {o : Obj} (e : h.get? b = some o) (n : H b = none) : (hidT h H).get? b = some o :=
 PySem.W.hideAll_get _ e fun hm => by
  have q : (H b).isSome = true := (List.mem_filter.mp hm).2
  rw [n] at q; simp at q
theorem of_hidT {h : Heap} {H : Hp} {b : Addr} {o : Obj} (e : (hidT h H).get? b = some o) : h.get? b = some o ∧ H b = none := by
 have e' : h.get? b = some o := PySem.W.of_hideAll (trk h H) e
 refine ⟨e', ?_⟩
 cases q : H b with
 | none => rfl
 | some x =>
  have hm : b ∈ trk h H := List.mem_filter.mpr ⟨List.mem_range.mpr (Heap.lt_size e'), by simp [q]⟩
  have z : (hidT h H).get? b = none := PySem.W.hideAll_none (trk h H) hm
  rw [z] at e; cases e
def allNews (g h : Heap) (L : Addr) : List (Addr × Obj) := (List.range h.objs.size).filterMap fun a => if a = L ∨ (g.get? a).isSome = true then none else (h.get? a).map fun o => (a, o)
def rest (g h : Heap) (L d : Addr) : List (Addr × Obj) := (allNews g h L).filter fun p => decide (p.1 ≠ d)
end L2
namespace L2
open PySem PySem.Spec PyProof.Rows
structure Mod (K : PySem.W.Frag) (mg : Str → Option Value) (base : Heap) : Prop where
 kin : K.In base
 glob : base.Ns mainGlobals mg
 blt : ∃ mb, base.Ns builtinsNs mb ∧ ∀ x : Str, x ≠ "__name__" → mb x = bootBuiltins x
 nolimit : base.NoLimit
structure Cx where
 prog : Program
 w : World
 K : PySem.W.Frag
 mg : Str → Option Value
 base : Heap
 A : Around
 N : List Str
 s₀ : Shared
 H₀ : Hp
 env : Env
 outer : List Env
 stack : List Env
 ex : List Addr
 fn : Str → Bool
 calm : Bool
 pn : List (Addr × Obj)
 xe : Value → Shared → Prop
def frs (l : List Env) : List Addr := l.filterMap (·.frame)
abbrev Cx.fs (X : Cx) : List Addr := frs X.outer
def Vis (sc : Scope) (x : Str) : Prop := sc.names.lookup x = some .local ∨ sc.names.lookup x = some .cell ∨ sc.names.lookup x = some .free
def Loc (sc : Scope) (x : Str) : Prop := sc.names.lookup x = some .local ∨ sc.names.lookup x = some .cell
def Look (env : Env) (h : Heap) (m : Str → Option Value) (x : Str) (u : Value) : Prop :=
 (env.kindOf x = some .local ∧ m x = some u) ∨ ((env.kindOf x = some .cell ∨ env.kindOf x = some .free) ∧ ∃ c, env.cells.lookup x = some c ∧ h.IsCell c (some u))
structure Cx.Ok (X : Cx) : Prop where
 mod : Mod X.K X.mg X.base
 kind : X.env.scope.kind = .function
 glob : X.env.globals = mainGlobals
 blt : X.env.builtins = builtinsNs
 above : X.s₀.heap.objs.size ≤ X.env.locals
 inj : ∀ x y c, X.env.cells.lookup x = some c → X.env.cells.lookup y = some c → x = y
 has : ∀ x, (X.env.kindOf x = some .cell ∨ X.env.kindOf x = some .free) → ∃ c, X.env.cells.lookup x = some c
 cab : ∀ x c, X.fn x = true → X.env.cells.lookup x = some c → X.s₀.heap.objs.size ≤ c
 hd : X.calm = true → X.A.handled = none
 frames : X.A.frames = some X.stack
 stk : X.stack = X.outer ∨ (X.stack = X.env :: X.outer ∧ X.env.frame = some X.env.locals)
 exf : ∀ b ∈ X.ex, b ≠ X.env.locals ∧ ∀ x c, X.env.cells.lookup x = some c → c ≠ b
 bs : ∀ b o, X.base.get? b = some o → X.s₀.heap.get? b = some o ∧ X.H₀ b = none
 bsz : X.base.objs.size ≤ X.s₀.heap.objs.size
 noex : ∀ b o, X.base.get? b = some o → b ∉ X.ex
 exfs : ∀ b ∈ X.ex, b ∉ X.fs
 funs : X.s₀.heap.FunFrames X.base X.outer
 frf : ∀ b ∈ X.fs, X.H₀ b = none
structure Inv (X : Cx) (pins : List (Addr × Obj)) (σ : List (Option V)) (H : Hp) (s : Shared) : Prop where
 ok : X.Ok
 os : s.os = X.s₀.os
 bare : AllBare s.gens
 base : Un X.fs X.ex X.H₀ H X.s₀.heap s.heap
 loc : ∃ m, s.heap.Ns X.env.locals m ∧ ∀ (i : Nat) (x : Str) (v : V), X.N[i]? = some x → σ[i]? = some (some v) → Vis X.env.scope x → ∃ u, RelV v u ∧ Look X.env s.heap m x u
 cell : ∀ x c, X.env.cells.lookup x = some c → ∃ v, s.heap.IsCell c v
 free : H X.env.locals = none
 freeC : ∀ x c, X.env.cells.lookup x = some c → H c = none
 pin : ∀ p ∈ X.pn ++ pins, s.heap.get? p.1 = some p.2 ∧ H p.1 = none ∧ p.1 ≠ X.env.locals ∧ p.1 ∉ X.fs ∧ ∀ v, p.2.data ≠ .cell v
 hok : HOk X.prog X.w H s.heap
 len : σ.length = X.N.length
section
variable {X : Cx} {pins : List (Addr × Obj)} {σ : List (Option V)} {H H' : Hp} {s : Shared} {h' : Heap}
theorem Cx.Ok.nofr (ok : X.Ok) {b : Addr} {o : Obj} (e : X.base.get? b = some o) : b ∉ X.fs := fun hb => by
 have := (ok.funs.mem hb).1
 rw [e] at this; cases this
theorem Inv.bs (I : Inv X pins σ H s) : ∀ b o, X.base.get? b = some o → s.heap.get? b = some o ∧ H b = none := fun b o e =>
 ⟨I.base.keep b o (I.ok.bs b o e).1 (I.ok.bs b o e).2 (I.ok.nofr e) (I.ok.noex b o e), I.base.free b o (I.ok.bs b o e).1 (I.ok.bs b o e).2 (I.ok.noex b o e)⟩
theorem Inv.bk (I : Inv X pins σ H s) : ∀ b o, X.base.get? b = some o → s.heap.get? b = some o := fun b o e => (I.bs b o e).1
theorem Inv.mod (I : Inv X pins σ H s) : Mod X.K X.mg X.base := I.ok.mod
theorem Inv.kIn (I : Inv X pins σ H s) : X.K.In s.heap := I.ok.mod.kin.keeps I.bk
theorem Inv.nolimit (I : Inv X pins σ H s) : s.heap.NoLimit := I.ok.mod.nolimit.keeps I.bk
theorem Inv.fr (I : Inv X pins σ H s) : ∃ m, Fr X.base X.env.locals s.heap m :=
 let ⟨m, hn, _⟩ := I.loc
 ⟨m, hn, I.bk, Nat.le_trans I.ok.bsz I.ok.above⟩
theorem Inv.lt (I : Inv X pins σ H s) : X.env.locals < s.heap.objs.size := let ⟨_, hn, _⟩ := I.loc; hn.lt
theorem Inv.sz (I : Inv X pins σ H s) : X.s₀.heap.objs.size ≤ s.heap.objs.size := Nat.le_trans I.ok.above (Nat.le_of_lt I.lt)
theorem Inv.nofs (I : Inv X pins σ H s) {a : Addr} (h : s.heap.objs.size ≤ a) : a ∉ X.fs := fun hb => by
 obtain ⟨_, o, ho, _⟩ := I.ok.funs.mem hb
 exact absurd (Nat.lt_of_lt_of_le (Heap.lt_size ho) (Nat.le_trans I.sz h)) (Nat.lt_irrefl _)
theorem Inv.cne (I : Inv X pins σ H s) : ∀ x c, X.env.cells.lookup x = some c → c ≠ X.env.locals := fun x c e z => by
 obtain ⟨v, o, ho, hd⟩ := I.cell x c e
 obtain ⟨m, ⟨o', es, ep, ho', hd', _⟩, _⟩ := I.loc
 rw [z, ho'] at ho; cases ho; rw [hd'] at hd; cases hd
theorem Inv.funs (I : Inv X pins σ H s) : s.heap.FunFrames X.base X.outer := by
 have all : ∀ (l : List Env), (∀ b ∈ frs l, b ∈ X.fs) → X.s₀.heap.FunFrames X.base l → s.heap.FunFrames X.base l := by
  intro l
  induction l with
  | nil => intro _ _; trivial
  | cons env r ih =>
   intro hs hl
   obtain ⟨hk, ⟨L, o, hf, hn, ho, hd⟩, hr⟩ := hl
   have hL : L ∈ X.fs := hs L (by unfold frs; rw [List.filterMap_cons, hf]; exact List.mem_cons_self)
   obtain ⟨sl, e⟩ := I.base.slot L o ho (I.ok.frf L hL) hL fun z => I.ok.exfs L z hL
   exact ⟨hk, ⟨L, _, hf, hn, e, hd⟩, ih (fun b hb => hs b (by unfold frs; rw [List.filterMap_cons, hf]; exact List.mem_cons_of_mem _ hb)) hr⟩
 exact all X.outer (fun _ hb => hb) I.ok.funs
theorem Inv.stack (I : Inv X pins σ H s) : s.heap.FunFrames X.base X.stack := by
 rcases I.ok.stk with e | ⟨e, hf⟩
 ·rw [e]; exact I.funs
 ·rw [e]
  obtain ⟨m, hn, _⟩ := I.loc
  refine .cons (by rw [I.ok.kind]; decide) hf hn ?_ I.funs
  exact Heap.get?_none_of_le (Nat.le_trans I.ok.bsz I.ok.above)
theorem Inv.stkSub (I : Inv X pins σ H s) : ∀ b ∈ frs X.stack, b ∈ X.env.locals :: X.fs := fun b hb => by
 rcases I.ok.stk with e | ⟨e, hf⟩
 ·rw [e] at hb; exact List.mem_cons_of_mem _ hb
 ·rw [e] at hb
  unfold frs at hb
  rw [List.filterMap_cons, hf] at hb
  exact hb
theorem Inv.stkFree (I : Inv X pins σ H s) : ∀ b ∈ frs X.stack, H b = none := fun b hb => by
 rcases List.mem_cons.mp (I.stkSub b hb) with e | hb
 ·rw [e]; exact I.free
 ·obtain ⟨_, o, ho, _⟩ := I.ok.funs.mem hb
  exact I.base.free b o ho (I.ok.frf b hb) fun z => I.ok.exfs b z hb
theorem Inv.step {g' : Array GenState} {t' : Nat} {d' : Drawn} {ch : List Addr} (I : Inv X pins σ H s)
  (hch : ∀ b ∈ ch, (b ∈ X.ex ∨ X.s₀.heap.objs.size ≤ b) ∧ b ≠ X.env.locals ∧ (∀ x c, X.env.cells.lookup x = some c → c ≠ b) ∧ ∀ p ∈ X.pn ++ pins, p.1 ≠ b)
  (keep : ∀ b o, b ≠ X.env.locals → b ∉ X.fs → b ∉ ch → s.heap.get? b = some o → H b = none → h'.get? b = some o)
  (slot : ∀ b o, b ≠ X.env.locals → b ∈ X.fs → b ∉ ch → s.heap.get? b = some o → H b = none → ∃ sl, h'.get? b = some { o with slots := sl }) (free : ∀ b o, b ∉ ch → s.heap.get? b = some o → H b = none → H' b = none)
  (there : ∀ b o, b ∉ ch → s.heap.get? b = some o → ∃ o', h'.get? b = some o')
  (tups : ∀ b xs, H b = some (.tup xs) → H' b = some (.tup xs)) (frzs : ∀ b o u, H b = some (.frz o u) → H' b = some (.frz o u)) (tbls : ∀ b ps, H b = some (.tbl ps) → ∃ more, H' b = some (.tbl (ps ++ more)))
  (ns : ∀ m, s.heap.Ns X.env.locals m → h'.Ns X.env.locals m) (hok : HOk X.prog X.w H' h') (hg : AllBare g') :
  Inv X pins σ H' { s with heap := h', gens := g', drawn := d', toks := t' } := by
 have neL : ∀ b o, X.s₀.heap.get? b = some o → b ≠ X.env.locals := fun b o e => Nat.ne_of_lt (Nat.lt_of_lt_of_le (Heap.lt_size e) I.ok.above)
 have neC : ∀ b o, X.s₀.heap.get? b = some o → b ∉ X.ex → b ∉ ch := fun b o e hx hb => by
  rcases (hch b hb).1 with z | z
  ·exact hx z
  ·exact absurd (Nat.lt_of_lt_of_le (Heap.lt_size e) z) (Nat.lt_irrefl _)
 have cellK : ∀ x c, X.env.cells.lookup x = some c → ∀ v, s.heap.IsCell c v → h'.IsCell c v := fun x c e v ⟨o, ho, hd⟩ => by
  have nch : c ∉ ch := fun z => (hch c z).2.2.1 x c e rfl
  by_cases hc : c ∈ X.fs
  ·obtain ⟨sl, q⟩ := slot c o (I.cne x c e) hc nch ho (I.freeC x c e)
   exact ⟨_, q, hd⟩
  ·exact ⟨o, keep c o (I.cne x c e) hc nch ho (I.freeC x c e), hd⟩
 refine ⟨I.ok, I.os, hg, ⟨fun b o e n hb hx => ?_, fun b o e n hb hx => ?_, fun b o e n hx => ?_, fun b o e hx => ?_, fun b xs e => tups b xs (I.base.tups b xs e), fun b o xs e => frzs b o xs (I.base.frzs b o xs e), fun b ps e => ?_⟩, ?_, fun x c e => ?_, ?_, fun x c e => ?_, fun p hp => ?_, hok, I.len⟩
 ·exact keep b o (neL b o e) hb (neC b o e hx) (I.base.keep b o e n hb hx) (I.base.free b o e n hx)
 ·obtain ⟨sl, e1⟩ := I.base.slot b o e n hb hx
  obtain ⟨sl', e2⟩ := slot b _ (neL b o e) hb (neC b o e hx) e1 (I.base.free b o e n hx)
  exact ⟨sl', e2⟩
 ·obtain ⟨o', e1⟩ := I.base.there b o e hx
  exact free b o' (neC b o e hx) e1 (I.base.free b o e n hx)
 ·obtain ⟨o', e1⟩ := I.base.there b o e hx
  exact there b o' (neC b o e hx) e1
 ·obtain ⟨m1, e1⟩ := I.base.tbls b ps e
  obtain ⟨m2, e2⟩ := tbls b _ e1
  exact ⟨m1 ++ m2, by rw [e2, Array.append_assoc]⟩
 ·obtain ⟨m, hn, hl⟩ := I.loc
  refine ⟨m, ns m hn, fun i x v e1 e2 e3 => ?_⟩
  obtain ⟨u, r, l⟩ := hl i x v e1 e2 e3
  refine ⟨u, r, ?_⟩
  rcases l with l | ⟨k, c, e, z⟩
  ·exact .inl l
  ·exact .inr ⟨k, c, e, cellK x c e _ z⟩
 ·obtain ⟨v, z⟩ := I.cell x c e
  exact ⟨v, cellK x c e v z⟩
 ·obtain ⟨m, ⟨o, _, _, ho, _⟩, _⟩ := I.loc
  exact free _ o (fun z => (hch _ z).2.1 rfl) ho I.free
 ·obtain ⟨v, o, ho, hd⟩ := I.cell x c e
  exact free c o (fun z => (hch c z).2.2.1 x c e rfl) ho (I.freeC x c e)
 ·obtain ⟨e, n, ne, nf, d⟩ := I.pin p hp
  have nch : p.1 ∉ ch := fun z => (hch p.1 z).2.2.2 p hp rfl
  exact ⟨keep p.1 p.2 ne nf nch e n, free p.1 p.2 nch e n, ne, nf, d⟩
theorem Inv.un {t' : Nat} (I : Inv X pins σ H s) (u : Un X.fs [] H H' s.heap h') (hok : HOk X.prog X.w H' h') : Inv X pins σ H' { s with heap := h', toks := t' } := by
 obtain ⟨m, ⟨o, es, ep, ho, r⟩, _⟩ := id I.loc
 obtain ⟨sl, hL⟩ := u.any ho I.free (by simp)
 exact I.step (g' := s.gens) (d' := s.drawn) (ch := []) (fun _ z => nomatch z) (fun b o _ hb _ e n => u.keep b o e n hb (by simp)) (fun b o _ hb _ e n => u.slot b o e n hb (by simp)) (fun b o _ e n => u.free b o e n (by simp)) (fun b o _ e => u.there b o e (by simp)) u.tups u.frzs u.tbls (fun m' hm => by
  obtain ⟨o', es', ep', ho', r'⟩ := hm
  rw [ho] at ho'; cases ho'
  exact ⟨_, es', ep', hL, r'⟩) hok I.bare
theorem Inv.call {g' : Array GenState} {t' : Nat} {d' : Drawn} {ch : List Addr} (I : Inv X pins σ H s) (u : Un (frs X.stack) ch H H' s.heap h') (hok : HOk X.prog X.w H' h') (hg : AllBare g')
  (hch : ∀ b ∈ ch, (b ∈ X.ex ∨ X.s₀.heap.objs.size ≤ b) ∧ b ≠ X.env.locals ∧ (∀ x c, X.env.cells.lookup x = some c → c ≠ b) ∧ ∀ p ∈ X.pn ++ pins, p.1 ≠ b) :
  Inv X pins σ H' { s with heap := h', gens := g', drawn := d', toks := t' } := by
 obtain ⟨m, ⟨o, es, ep, ho, r⟩, _⟩ := id I.loc
 obtain ⟨sl, hL⟩ := u.any ho I.free fun z => (hch _ z).2.1 rfl
 exact I.step (ch := ch) hch (fun b o hL hb hc e n => u.keep b o e n (fun z => (List.mem_cons.mp (I.stkSub b z)).elim hL hb) hc) (fun b o _ _ hc e n => u.any e n hc) (fun b o hc e n => u.free b o e n hc) (fun b o hc e => u.there b o e hc) u.tups u.frzs u.tbls (fun m' hm => by
  obtain ⟨o', es', ep', ho', r'⟩ := hm
  rw [ho] at ho'; cases ho'
  exact ⟨_, es', ep', hL, r'⟩) hok hg
theorem Inv.turned {t' : Nat} {it : Addr} (I : Inv X pins σ H s) (k : ∀ b o, b ≠ it → s.heap.get? b = some o → h'.get? b = some o) (hn : H it = none) (hL : it ≠ X.env.locals)
  (h1 : it ∈ X.ex ∨ X.s₀.heap.objs.size ≤ it) (h2 : ∀ x c, X.env.cells.lookup x = some c → c ≠ it) (h3 : ∀ p ∈ X.pn ++ pins, p.1 ≠ it) : Inv X pins σ H { s with heap := h', toks := t' } := by
 have nit : ∀ b u, H b = some u → b ≠ it := fun b u e z => by rw [z, hn] at e; cases e
 refine I.step (g' := s.gens) (d' := s.drawn) (ch := [it]) (fun b hb => ?_) (fun b o _ _ hc e _ => k b o (fun z => hc (by simp [z])) e) (fun b o _ _ hc e _ => ⟨o.slots, k b o (fun z => hc (by simp [z])) e⟩) (fun _ _ _ _ n => n)
  (fun b o hc e => ⟨o, k b o (fun z => hc (by simp [z])) e⟩) (fun _ _ e => e) (fun _ _ _ e => e) (fun b ps e => ⟨#[], by rw [e]; simp⟩) (fun m hm => ?_) (fun b u e => ?_) I.bare
 ·have e : b = it := by simpa using hb
  subst e
  exact ⟨h1, hL, h2, h3⟩
 ·obtain ⟨o, es, ep, ho, r⟩ := hm
  exact ⟨o, es, ep, k _ o (Ne.symm hL) ho, r⟩
 ·refine (I.hok b u e).stay (fun c v hc q => k c v ?_ q) (fun _ q => q) fun _ _ q => q
  rcases hc with z | z
  ·rw [z]; exact nit b u e
  ·exact nit c _ z
theorem Inv.tok (I : Inv X pins σ H s) (t : Nat) : Inv X pins σ H { s with toks := t } := I.un (h' := s.heap) (t' := t) Un.refl I.hok
theorem Inv.kept {t' : Nat} (I : Inv X pins σ H s) (k : ∀ b u, s.heap.get? b = some u → h'.get? b = some u) : Inv X pins σ H { s with heap := h', toks := t' } := I.un (Un.kept k) (I.hok.kept k)
theorem Inv.laid {a : Addr} {o : HO} {t' : Nat} (I : Inv X pins σ H s) (k : ∀ b u, s.heap.get? b = some u → h'.get? b = some u) (hp : s.heap.objs.size ≤ a) (new : ObjOk X.prog X.w (upd H a o) h' a o) :
  Inv X pins σ (upd H a o) { s with heap := h', toks := t' } := I.un (Un.laid k hp (I.hok.fresh hp)) (I.hok.laid k hp new)
theorem Inv.write {x e : Addr} {o : HO} {t' : Nat} (I : Inv X pins σ H s) (mu : Mut (H x)) (he : e = x ∨ H e = some (.own x)) (k : ∀ b u, b ≠ e → s.heap.get? b = some u → h'.get? b = some u) (heo : ∃ u, h'.get? e = some u)
  (new : ObjOk X.prog X.w (upd H x o) h' x o) : Inv X pins σ (upd H x o) { s with heap := h', toks := t' } := I.un (Un.write mu he k heo) (I.hok.write mu he k heo new)
theorem Inv.pins_of {pins' : List (Addr × Obj)} (I : Inv X pins σ H s) (h : ∀ p ∈ pins', s.heap.get? p.1 = some p.2 ∧ H p.1 = none ∧ p.1 ≠ X.env.locals ∧ p.1 ∉ X.fs ∧ ∀ v, p.2.data ≠ .cell v) : Inv X pins' σ H s :=
 ⟨I.ok, I.os, I.bare, I.base, I.loc, I.cell, I.free, I.freeC, fun p hp => (List.mem_append.mp hp).elim (fun z => I.pin p (List.mem_append_left _ z)) (h p), I.hok, I.len⟩
theorem nodup_ix {N : List Str} (hN : N.Nodup) {i j : Nat} {x : Str} (a : N[i]? = some x) (b : N[j]? = some x) : i = j := by
 obtain ⟨h1, e1⟩ := List.getElem?_eq_some_iff.mp a
 obtain ⟨h2, e2⟩ := List.getElem?_eq_some_iff.mp b
 exact (List.getElem_inj hN).mp (e1.trans e2.symm)
theorem store_ok2 {M : Model} {A : Around} {E : Value → Shared → Prop} {i : Nat} {x : Str} {v : V} {u : Value} {Q : Unit → Shared → Prop} (I : Inv X pins σ H s) (hN : X.N.Nodup) (hi : X.N[i]? = some x) (hx : Loc X.env.scope x) (r : RelV v u)
  (h : ∀ s', Inv X pins (σ.set i (some v)) H s' → (∃ a, Heap.SameBut a s.heap s'.heap ∧ (a = X.env.locals ∨ X.env.cells.lookup x = some a)) → Q () s') (hf : X.fn x = true ∨ X.env.scope.names.lookup x = some .local := by first | exact .inl rfl | exact .inr rfl | assumption) : wpAny M A (storeName X.env x u) Q E s := by
 obtain ⟨m, hn, hl⟩ := id I.loc
 have hcls : (X.env.scope.kind == .class || (X.env.scope.kind == .module && X.env.locals != X.env.globals)) = false := by rw [I.ok.kind]; rfl
 have hiσ : i < σ.length := by rw [I.len]; exact (List.getElem?_eq_some_iff.mp hi).1
 have cne := I.cne
 have tracked : ∀ {a : Addr} {h' : Heap}, (∃ o, s.heap.get? a = some o ∧ H a = none) → Heap.SameBut a s.heap h' → HOk X.prog X.w H h' := fun {a h'} ha hs b ob e => by
  obtain ⟨_, _, hfree⟩ := ha
  refine (I.hok b ob e).stay (fun c w' hc q => (hs.2 c ?_).trans q) (fun _ q => q) fun _ _ q => q
  rintro rfl
  rcases hc with rfl | hc
  ·rw [hfree] at e; cases e
  ·rw [hfree] at hc; cases hc
 rcases hx with hk | hk
 ·refine wpAny_storeName_local hk hn (fun h' hn' hs => ?_) hcls
  obtain ⟨oL, _, _, hoL, _⟩ := id hn
  refine h _ ⟨I.ok, I.os, I.bare, ⟨fun b o e n hb hx => ?_, fun b o e n hb hx => ?_, I.base.free, fun b o e hx => ?_, I.base.tups, I.base.frzs, I.base.tbls⟩, ⟨_, hn', fun j y v' e1 e2 e3 => ?_⟩, fun y c e => ?_, I.free, I.freeC, fun p hp => ?_, tracked ⟨oL, hoL, I.free⟩ hs, by simpa using I.len⟩ ⟨_, hs, .inl rfl⟩
  ·exact (hs.2 b (Nat.ne_of_lt (Nat.lt_of_lt_of_le (Heap.lt_size e) I.ok.above))).trans (I.base.keep b o e n hb hx)
  ·obtain ⟨sl, e1⟩ := I.base.slot b o e n hb hx
   exact ⟨sl, (hs.2 b (Nat.ne_of_lt (Nat.lt_of_lt_of_le (Heap.lt_size e) I.ok.above))).trans e1⟩
  ·obtain ⟨o', e1⟩ := I.base.there b o e hx
   exact ⟨o', (hs.2 b (Nat.ne_of_lt (Nat.lt_of_lt_of_le (Heap.lt_size e) I.ok.above))).trans e1⟩
  ·by_cases hj : j = i
   ·subst hj
    rw [hi] at e1; cases e1
    rw [List.getElem?_set_self hiσ] at e2
    cases e2
    exact ⟨u, r, .inl ⟨hk, by simp⟩⟩
   ·rw [List.getElem?_set_ne (Ne.symm hj)] at e2
    obtain ⟨u', r', q⟩ := hl j y v' e1 e2 e3
    refine ⟨u', r', ?_⟩
    rcases q with ⟨k, e⟩ | ⟨k, c, e, z⟩
    ·refine .inl ⟨k, ?_⟩
     have : y ≠ x := fun e => hj (nodup_ix hN e1 (e ▸ hi))
     simp [this, e]
    ·exact .inr ⟨k, c, e, z.sameBut hs (cne y c e)⟩
  ·obtain ⟨w', z⟩ := I.cell y c e
   exact ⟨w', z.sameBut hs (cne y c e)⟩
  ·obtain ⟨e, n, ne, nf, d⟩ := I.pin p hp
   exact ⟨(hs.2 p.1 ne).trans e, n, ne, nf, d⟩
 ·have hfn : X.fn x = true := by
   rcases hf with z | z
   ·exact z
   ·rw [z] at hk; cases hk
  obtain ⟨c, hc⟩ := I.ok.has x (.inl hk)
  obtain ⟨w', z⟩ := I.cell x c hc
  refine wpAny_storeName_cell I.ok.kind hk hc z (fun h' hc' hs => ?_)
  obtain ⟨oc, hoc, hocd⟩ := id z
  refine h { s with heap := h' } ⟨I.ok, I.os, I.bare, ⟨fun b o e n hb hx => ?_, fun b o e n hb hx => ?_, I.base.free, fun b o e hx => ?_, I.base.tups, I.base.frzs, I.base.tbls⟩, ⟨m, hn.sameBut hs (Ne.symm (cne x c hc)), fun j y v' e1 e2 e3 => ?_⟩, fun y c' e => ?_, I.free, I.freeC, fun p hp => ?_, tracked ⟨oc, hoc, I.freeC x c hc⟩ hs, by simpa using I.len⟩ ⟨c, hs, .inr hc⟩
  ·exact (hs.2 b (Nat.ne_of_lt (Nat.lt_of_lt_of_le (Heap.lt_size e) (I.ok.cab x c hfn hc)))).trans (I.base.keep b o e n hb hx)
  ·obtain ⟨sl, e1⟩ := I.base.slot b o e n hb hx
   exact ⟨sl, (hs.2 b (Nat.ne_of_lt (Nat.lt_of_lt_of_le (Heap.lt_size e) (I.ok.cab x c hfn hc)))).trans e1⟩
  ·obtain ⟨o', e1⟩ := I.base.there b o e hx
   exact ⟨o', (hs.2 b (Nat.ne_of_lt (Nat.lt_of_lt_of_le (Heap.lt_size e) (I.ok.cab x c hfn hc)))).trans e1⟩
  ·by_cases hj : j = i
   ·subst hj
    rw [hi] at e1; cases e1
    rw [List.getElem?_set_self hiσ] at e2
    cases e2
    exact ⟨u, r, .inr ⟨.inl hk, c, hc, hc'⟩⟩
   ·rw [List.getElem?_set_ne (Ne.symm hj)] at e2
    obtain ⟨u', r', q⟩ := hl j y v' e1 e2 e3
    refine ⟨u', r', ?_⟩
    rcases q with q | ⟨k, c', e, z'⟩
    ·exact .inl q
    ·refine .inr ⟨k, c', e, z'.sameBut hs ?_⟩
     rintro rfl
     exact hj (nodup_ix hN e1 (I.ok.inj _ _ _ e hc ▸ hi))
  ·by_cases hcc : c' = c
   ·subst hcc; exact ⟨_, hc'⟩
   ·obtain ⟨w2, z2⟩ := I.cell y c' e
    exact ⟨w2, z2.sameBut hs hcc⟩
  ·obtain ⟨e, n, ne, nf, d⟩ := I.pin p hp
   refine ⟨(hs.2 p.1 ?_).trans e, n, ne, nf, d⟩
   intro q
   rw [q, hoc] at e
   have q' : oc = p.2 := Option.some.inj e
   exact d w' (by rw [← q']; exact hocd)
theorem store_ok {M : Model} {A : Around} {E : Value → Shared → Prop} {i : Nat} {x : Str} {v : V} {u : Value} {Q : Unit → Shared → Prop} (I : Inv X pins σ H s) (hN : X.N.Nodup) (hi : X.N[i]? = some x) (hx : Loc X.env.scope x) (r : RelV v u)
  (h : ∀ s', Inv X pins (σ.set i (some v)) H s' → Q () s') (hf : X.fn x = true ∨ X.env.scope.names.lookup x = some .local := by first | exact .inl rfl | exact .inr rfl | assumption) : wpAny M A (storeName X.env x u) Q E s :=
 store_ok2 I hN hi hx r (fun s' I' _ => h s' I') hf
theorem Inv.call' {s' : Shared} {ch : List Addr} (I : Inv X pins σ H s) (ho : s'.os = s.os) (u : Un (frs X.stack) ch H H' s.heap s'.heap) (hok : HOk X.prog X.w H' s'.heap) (hg : AllBare s'.gens)
  (hch : ∀ b ∈ ch, (b ∈ X.ex ∨ X.s₀.heap.objs.size ≤ b) ∧ b ≠ X.env.locals ∧ (∀ x c, X.env.cells.lookup x = some c → c ≠ b) ∧ ∀ p ∈ X.pn ++ pins, p.1 ≠ b) : Inv X pins σ H' s' := by
 obtain ⟨h', g', d', t', o'⟩ := s'
 have e : o' = s.os := ho
 subst e
 exact I.call (g' := g') (t' := t') (d' := d') u hok hg hch
end
abbrev XK := Value → Option Addr → Hp → Prop
abbrev St := List (Option V)
abbrev VK := V → Hp → Prop
abbrev TE := St → Hp → VK → Prop
abbrev TT := St → Hp → (Bool → Hp → Prop) → Prop
abbrev TA := St → Hp → (List V → Hp → Prop) → Prop
structure Ends where
 nx : St → Hp → Prop
 rt : VK
 bk : St → Hp → Prop := fun _ _ => False
 ct : St → Hp → Prop := fun _ _ => False
abbrev TS := Ends → St → Hp → Prop
def EP (X : Cx) (pins : List (Addr × Obj)) (σ : St) (Q : VK) (u : Value) (s' : Shared) : Prop := ∃ v H', Inv X pins σ H' s' ∧ RelV v u ∧ Q v H'
def TP (X : Cx) (pins : List (Addr × Obj)) (σ : St) (Q : Bool → Hp → Prop) (b : Bool) (s' : Shared) : Prop := ∃ H', Inv X pins σ H' s' ∧ Q b H'
def AP (X : Cx) (pins : List (Addr × Obj)) (σ : St) (Q : List V → Hp → Prop) (us : List Value) (s' : Shared) : Prop := ∃ vs H', Inv X pins σ H' s' ∧ Vals vs us ∧ Q vs H'
def SP (X : Cx) (pins : List (Addr × Obj)) (D : Ends) (f : Flow) (s' : Shared) : Prop :=
 match f with
 | .next => ∃ σ' H', Inv X pins σ' H' s' ∧ D.nx σ' H'
 | .brk => ∃ σ' H', Inv X pins σ' H' s' ∧ D.bk σ' H'
 | .cont => ∃ σ' H', Inv X pins σ' H' s' ∧ D.ct σ' H'
 | .ret u => ∃ v σ' H', Inv X pins σ' H' s' ∧ RelV v u ∧ D.rt v H'
def PE (X : Cx) (e : Expr) (t : TE) : Prop :=
 ∀ (pins : List (Addr × Obj)) (s : Shared) (σ : St) (H : Hp) (Q : VK), Inv X pins σ H s → t σ H Q → wpAny (model X.prog X.w) X.A (eval e X.env) (EP X pins σ Q) X.xe s
def PT (X : Cx) (e : Expr) (t : TT) : Prop :=
 ∀ (pins : List (Addr × Obj)) (s : Shared) (σ : St) (H : Hp) (Q : Bool → Hp → Prop), Inv X pins σ H s → t σ H Q → wpAny (model X.prog X.w) X.A (isTrue e X.env (eval e X.env)) (TP X pins σ Q) X.xe s
def PW (X : Cx) (e : Expr) (t : TT) : Prop :=
 ∀ (whole : Sem Value) (pins : List (Addr × Obj)) (s : Shared) (σ : St) (H : Hp) (Q : Bool → Hp → Prop), Inv X pins σ H s → t σ H Q → wpAny (model X.prog X.w) X.A (isTrue e X.env whole) (TP X pins σ Q) X.xe s
theorem PW.pt {X : Cx} {e : Expr} {t : TT} (h : PW X e t) : PT X e t := h _
def PA (X : Cx) (es : List Expr) (t : TA) : Prop :=
 ∀ (pos : Pos) (pins : List (Addr × Obj)) (s : Shared) (σ : St) (H : Hp) (Q : List V → Hp → Prop), Inv X pins σ H s → t σ H Q → wpAny (model X.prog X.w) X.A (spliced (backTo pos (starEach es X.env))) (AP X pins σ Q) X.xe s
def PS (X : Cx) (st : Stmt) (t : TS) : Prop :=
 ∀ (pins : List (Addr × Obj)) (s : Shared) (σ : St) (H : Hp) (D : Ends), Inv X pins σ H s → t D σ H → wpAny (model X.prog X.w) X.A (exec st X.env) (SP X pins D) X.xe s
def PSs (X : Cx) (st : List Stmt) (t : TS) : Prop :=
 ∀ (pins : List (Addr × Obj)) (s : Shared) (σ : St) (H : Hp) (D : Ends), Inv X pins σ H s → t D σ H → wpAny (model X.prog X.w) X.A (execs st X.env) (SP X pins D) X.xe s
theorem thn {α : Type} {t : Sem α} {Q Q' : α → Shared → Prop} {M : Model} {A : Around} {E : Value → Shared → Prop} {s : Shared} (h : wpAny M A t Q E s) (hQ : ∀ a s, Q a s → Q' a s) : wpAny M A t Q' E s := wpAny_mono h hQ fun _ _ x => x
end L2
namespace L2
open PySem PySem.Spec PyProof.Rows
section
variable {X : Cx}
def tVar (i : Nat) : TE := fun σ H Q => ∃ v, σ[i]? = some (some v) ∧ Q v H
def tC (v : V) : TE := fun _ H Q => Q v H
theorem pe_var {i : Nat} {x : Str} {pos : Pos} (hN : X.N[i]? = some x) (hv : Vis X.env.scope x) (hd : (x == ("__debug__" : Str)) = false := by decide) (hcd : (x == ("__classdict__" : Str)) = false := by decide) : PE X (.Name x pos) (tVar i) := by
 intro pins s σ H Q I h
 obtain ⟨v, e, h⟩ := h
 obtain ⟨m, hn, hl⟩ := I.loc
 obtain ⟨u, r, l⟩ := hl i x v hN e hv
 have fin : EP X pins σ Q u s := ⟨v, H, I, r, h⟩
 rcases l with ⟨hk, hm⟩ | ⟨hk, c, hc, hcell⟩
 ·exact wpAny_Name (wpAny_loadName_local I.ok.kind hk hn hm fin) hd
 ·rcases hk with hk | hk
  ·exact wpAny_Name (wpAny_loadName_cell I.ok.kind hk hc hcell fin) hd
  ·exact wpAny_Name (wpAny_loadName_free I.ok.kind hk hc hcell fin hcd) hd
theorem pe_int {i j pos} : PE X (.Constant (.int i) j pos) (tC (.int i)) := fun _ _ _ H _ I h => wpAny_Constant_int ⟨.int i, H, I.tok _, ⟨_, rfl⟩, h⟩
theorem pe_bl {b j pos} : PE X (.Constant (.bool b) j pos) (tC (.bl b)) := fun _ _ _ H _ I h => Constant_bool ⟨.bl b, H, I, rfl, h⟩
theorem pe_non {j pos} : PE X (.Constant .none j pos) (tC .non) := fun _ _ _ H _ I h => Constant_none ⟨.non, H, I, rfl, h⟩
theorem pe_str {x j pos} : PE X (.Constant (.str x) j pos) (tC (.str x)) := fun _ _ _ H _ I h => Calls.Constant_str ⟨.str x, H, I.tok _, ⟨_, rfl⟩, h⟩
def Gl (X : Cx) (x : Str) : Prop := X.env.kindOf x = some .globalImplicit
theorem ld_glob {E : Value → Shared → Prop} {pins : List (Addr × Obj)} {s : Shared} {σ : St} {H : Hp} {x : Str} {u : Value} {pos : Pos} {Q : Value → Shared → Prop} (I : Inv X pins σ H s) (hg : Gl X x) (hm : X.mg x = some u) (h : Q u s)
  (hd : (x == ("__debug__" : Str)) = false := by decide) : wpAny (model X.prog X.w) X.A (eval (.Name x pos) X.env) Q E s :=
 Calls.Name_function_global I.ok.kind hg (Calls.loadGlobal_global (by rw [I.ok.glob]; exact I.mod.glob.keeps I.bk) hm h) hd
theorem ld_blt {E : Value → Shared → Prop} {pins : List (Addr × Obj)} {s : Shared} {σ : St} {H : Hp} {x : Str} {u : Value} {pos : Pos} {Q : Value → Shared → Prop} (I : Inv X pins σ H s) (hg : Gl X x) (hm : X.mg x = none) (hv : bootBuiltins x = some u) (h : Q u s)
  (hn : x ≠ "__name__" := by decide) (hd : (x == ("__debug__" : Str)) = false := by decide) : wpAny (model X.prog X.w) X.A (eval (.Name x pos) X.env) Q E s := by
 obtain ⟨mb, h1, h2⟩ := I.mod.blt
 exact Calls.Name_function_global I.ok.kind hg (Calls.loadGlobal_builtin (by rw [I.ok.glob]; exact I.mod.glob.keeps I.bk) hm (by rw [I.ok.blt]; exact h1.keeps I.bk) ((h2 x hn).trans hv) h) hd
theorem pe_glob {x : Str} {v : V} {u : Value} {pos : Pos} (hg : Gl X x) (hm : X.mg x = some u) (r : RelV v u) (hd : (x == ("__debug__" : Str)) = false := by decide) : PE X (.Name x pos) (tC v) :=
 fun _ _ _ H _ I h => ld_glob I hg hm ⟨v, H, I, r, h⟩ hd
theorem pe_bltn {x : Str} {v : V} {u : Value} {pos : Pos} (hg : Gl X x) (hm : X.mg x = none) (hv : bootBuiltins x = some u) (r : RelV v u) (hn : x ≠ "__name__" := by decide) (hd : (x == ("__debug__" : Str)) = false := by decide) : PE X (.Name x pos) (tC v) :=
 fun _ _ _ H _ I h => ld_blt I hg hm hv ⟨v, H, I, r, h⟩ hn hd
variable {a b : Expr} {ta tb : TE} {pos : Pos}
variable {tA tB' : TT} {rest : List Expr}
def tAnd (t u : TT) : TT := fun σ H Q => t σ H fun c H1 => if c = true then u σ H1 Q else Q false H1
def tOr (t u : TT) : TT := fun σ H Q => t σ H fun c H1 => if c = true then Q true H1 else u σ H1 Q
def tNot (t : TT) : TT := fun σ H Q => t σ H fun c H1 => Q (!c) H1
theorem pw_and1 (ha : PT X a tA) : PW X (.BoolOp .And [a] pos) tA := by
 intro wh pins s σ H Q I h
 refine isTrue_and (thn (ha pins s σ H Q I h) fun c s1 e => ?_)
 cases c with
 | true => exact isTrue_and_nil e
 | false => exact e
theorem pw_or1 (ha : PT X a tA) : PW X (.BoolOp .Or [a] pos) tA := by
 intro wh pins s σ H Q I h
 refine isTrue_or (thn (ha pins s σ H Q I h) fun c s1 e => ?_)
 cases c with
 | false => exact isTrue_or_nil e
 | true => exact e
theorem pw_and (ha : PT X a tA) (hb : PW X (.BoolOp .And (b :: rest) pos) tB') : PW X (.BoolOp .And (a :: b :: rest) pos) (tAnd tA tB') := by
 intro wh pins s σ H Q I h
 refine isTrue_and (thn (ha pins s σ H _ I h) fun c s1 ⟨H1, I1, q1⟩ => ?_)
 cases c with
 | true => exact hb wh pins s1 σ H1 Q I1 q1
 | false => exact ⟨H1, I1, q1⟩
theorem pw_or (ha : PT X a tA) (hb : PW X (.BoolOp .Or (b :: rest) pos) tB') : PW X (.BoolOp .Or (a :: b :: rest) pos) (tOr tA tB') := by
 intro wh pins s σ H Q I h
 refine isTrue_or (thn (ha pins s σ H _ I h) fun c s1 ⟨H1, I1, q1⟩ => ?_)
 cases c with
 | true => exact ⟨H1, I1, q1⟩
 | false => exact hb wh pins s1 σ H1 Q I1 q1
theorem pt_not (ha : PT X a tA) : PT X (.UnaryOp .Not a pos) (tNot tA) := by
 intro pins s σ H Q I h
 exact isTrue_not (ha pins s σ H (fun c H1 => Q (!c) H1) I h)
theorem pe_one {op} {t : TE} (h : PE X a t) : PE X (.BoolOp op [a] pos) t := fun pins s σ H Q I hw => BoolOp_one (h pins s σ H Q I hw)
end
end L2
namespace L2
open PySem PySem.Spec PyProof.Rows
def SqL (K : PySem.W.Frag) (H : Hp) (a : Addr) (xs : List V) : Prop :=
 Rd H a (.lst xs) ∨
  ∃ (o : Obj) (its : Array Value) (n : Nat), K.lookup a = some o ∧ o.cls = .type "list" ∧ o.dict = none ∧ o.data = .seq its n ∧ its.size ≤ sizeLine ∧ Vals xs its.toList
def SqT (K : PySem.W.Frag) (H : Hp) (a : Addr) (xs : List V) : Prop :=
 Rd H a (.tup xs) ∨
  ∃ (o : Obj) (its : Array Value) (n : Nat), K.lookup a = some o ∧ o.cls = .type "tuple" ∧ o.data = .seq its n ∧ its.size ≤ sizeLine ∧ Vals xs its.toList
def absV : Value → Option V
 | .none => some .non
 | .bool b => some (.bl b)
 | .int i _ => some (.int i)
 | .str x _ => some (.str x)
 | .bytes b _ => some (.byt b)
 | .float b _ => some (.flt b)
 | .ref a => some (.ref a)
 | .type n => some (.ty n)
 | _ => none
theorem RelV.abs {x : V} {u : Value} (r : RelV x u) : absV u = some x := by
 cases x with
 | non => cases r; rfl
 | bl _ => cases r; rfl
 | int _ => obtain ⟨t, rfl⟩ := r; rfl
 | str _ => obtain ⟨t, rfl⟩ := r; rfl
 | byt _ => obtain ⟨t, rfl⟩ := r; rfl
 | flt _ => obtain ⟨t, rfl⟩ := r; rfl
 | ref _ => cases r; rfl
 | ty _ => cases r; rfl
theorem RelV.inj {x y : V} {u : Value} (r : RelV x u) (q : RelV y u) : x = y := Option.some.inj (r.abs.symm.trans q.abs)
theorem Vals.inj : ∀ {xs ys : List V} {us : List Value}, Vals xs us → Vals ys us → xs = ys
 | _, _, _, .nil, .nil => rfl
 | _, _, _, .cons r t, .cons r' t' => by rw [r.inj r', Vals.inj t t']
section
variable {X : Cx} {pins : List (Addr × Obj)} {σ : St} {H : Hp} {s : Shared} {a : Addr} {xs ys : List V}
theorem SqL.of {K : PySem.W.Frag} (h : H a = some (.lst xs)) : SqL K H a xs := .inl (.inl h)
theorem SqT.of {K : PySem.W.Frag} (h : H a = some (.tup xs)) : SqT K H a xs := .inl (.inl h)
theorem Inv.list (I : Inv X pins σ H s) (h : SqL X.K H a xs) : ∃ its : List Value, Vals xs its ∧ PlainL s.heap a its.toArray ∧ xs.length ≤ sizeLine := by
 rcases h with h | ⟨o, its, n, hk, hc, hd, hs, hz, r⟩
 ·obtain ⟨z, its, n, r, e⟩ := h.ok I.hok
  exact ⟨its, r, ⟨_, n, e, rfl, rfl, rfl⟩, z⟩
 ·refine ⟨its.toList, r, ⟨o, n, I.kIn a o hk, hc, hd, by simpa using hs⟩, ?_⟩
  have e := r.length
  simp only [Array.length_toList] at e
  omega
theorem Inv.tuple (I : Inv X pins σ H s) (h : SqT X.K H a xs) : ∃ its : List Value, Vals xs its ∧ IsTup s.heap a its.toArray ∧ xs.length ≤ sizeLine := by
 rcases h with h | ⟨o, its, n, hk, hc, hs, hz, r⟩
 ·obtain ⟨z, its, r, p⟩ := h.ok I.hok
  exact ⟨its, r, p, z⟩
 ·refine ⟨its.toList, r, ⟨o, I.kIn a o hk, hc, n, by simpa using hs⟩, ?_⟩
  have e := r.length
  simp only [Array.length_toList] at e
  omega
theorem Inv.list_inj (I : Inv X pins σ H s) (h : SqL X.K H a xs) (h' : SqL X.K H a ys) : xs = ys := by
 obtain ⟨its, r, ⟨o, n, e, _, _, d⟩, _⟩ := I.list h
 obtain ⟨its', r', ⟨o', n', e', _, _, d'⟩, _⟩ := I.list h'
 rw [e] at e'; cases e'
 rw [d] at d'
 injection d' with d1 _
 have : its = its' := by simpa using congrArg Array.toList d1
 subst this
 exact r.inj r'
end
abbrev Cx.wish (X : Cx) (E : Value → Shared → Prop) : Cx := { X with xe := E }
abbrev Cx.nox (X : Cx) : Cx := X.wish fun _ _ => False
theorem Cx.Ok.wish {X : Cx} (ok : X.Ok) (E : Value → Shared → Prop) : (X.wish E).Ok :=
 ⟨ok.mod, ok.kind, ok.glob, ok.blt, ok.above, ok.inj, ok.has, ok.cab, ok.hd, ok.frames, ok.stk, ok.exf, ok.bs, ok.bsz, ok.noex, ok.exfs, ok.funs, ok.frf⟩
theorem Cx.Ok.unwish {X : Cx} {E : Value → Shared → Prop} (ok : (X.wish E).Ok) : X.Ok :=
 ⟨ok.mod, ok.kind, ok.glob, ok.blt, ok.above, ok.inj, ok.has, ok.cab, ok.hd, ok.frames, ok.stk, ok.exf, ok.bs, ok.bsz, ok.noex, ok.exfs, ok.funs, ok.frf⟩
section
variable {X : Cx} {pins : List (Addr × Obj)} {σ : St} {H : Hp} {s : Shared} {E : Value → Shared → Prop}
theorem Inv.wish (I : Inv X pins σ H s) (E : Value → Shared → Prop) : Inv (X.wish E) pins σ H s := ⟨I.ok.wish E, I.os, I.bare, I.base, I.loc, I.cell, I.free, I.freeC, I.pin, I.hok, I.len⟩
theorem Inv.unwish (I : Inv (X.wish E) pins σ H s) : Inv X pins σ H s := ⟨I.ok.unwish, I.os, I.bare, I.base, I.loc, I.cell, I.free, I.freeC, I.pin, I.hok, I.len⟩
theorem SP.unwish {D : Ends} {f : Flow} {s' : Shared} (h : SP (X.wish E) pins D f s') : SP X pins D f s' := by
 cases f with
 | next => obtain ⟨σ', H', I, q⟩ := h; exact ⟨σ', H', I.unwish, q⟩
 | brk => obtain ⟨σ', H', I, q⟩ := h; exact ⟨σ', H', I.unwish, q⟩
 | cont => obtain ⟨σ', H', I, q⟩ := h; exact ⟨σ', H', I.unwish, q⟩
 | ret u => obtain ⟨v, σ', H', I, r, q⟩ := h; exact ⟨v, σ', H', I.unwish, r, q⟩
theorem PE.nox {e : Expr} {t : TE} (h : PE X.nox e t) : PE X e t := fun pins s σ H Q I hw =>
 wpAny_mono (h pins s σ H Q (I.wish _) hw) (fun _ _ ⟨v, H', I', r, q⟩ => ⟨v, H', I'.unwish, r, q⟩) fun _ _ z => False.elim z
theorem PT.nox {e : Expr} {t : TT} (h : PT X.nox e t) : PT X e t := fun pins s σ H Q I hw =>
 wpAny_mono (h pins s σ H Q (I.wish _) hw) (fun _ _ ⟨H', I', q⟩ => ⟨H', I'.unwish, q⟩) fun _ _ z => False.elim z
theorem PSs.nox {st : List Stmt} {t : TS} (h : PSs X.nox st t) : PSs X st t := fun pins s σ H D I hw =>
 wpAny_mono (h pins s σ H D (I.wish _) hw) (fun _ _ q => q.unwish) fun _ _ z => False.elim z
end
section
variable {X : Cx} {st : Stmt} {rest : List Stmt} {t u : TS} {e : Expr} {te : TE} {pos : Pos}
def tNext : TS := fun D σ H => D.nx σ H
def tSeq (t u : TS) : TS := fun D σ H => t { D with nx := u D } σ H
theorem pss_nil : PSs X [] tNext := fun _ _ σ H _ I h => wpAny_execs_nil ⟨σ, H, I, h⟩
theorem pss_cons (h1 : PS X st t) (h2 : PSs X rest u) : PSs X (st :: rest) (tSeq t u) := by
 intro pins s σ H D I h
 refine wpAny_execs_cons (thn (h1 pins s σ H { D with nx := u D } I h) fun f s1 q => ?_)
 cases f with
 | next =>
  obtain ⟨σ', H', I', q⟩ := q
  exact h2 pins s1 σ' H' D I' q
 | ret v => exact q
 | brk => exact q
 | cont => exact q
theorem pss_one (h1 : PS X st t) : PSs X [st] t := by
 intro pins s σ H D I h
 refine wpAny_execs_cons (thn (h1 pins s σ H D I h) fun f s1 q => ?_)
 cases f with
 | next => exact wpAny_execs_nil q
 | ret v => exact q
 | brk => exact q
 | cont => exact q
theorem Inv.quiet {pins : List (Addr × Obj)} {σ : St} {H : Hp} {s : Shared} (I : Inv X pins σ H s) : interactive X.env = false := by simp [interactive, I.ok.kind]
def tDrop (te : TE) : TS := fun D σ H => te σ H fun _ H1 => D.nx σ H1
theorem ps_expr (he : PE X e te) (hs : swapsWith e none pos.line X.env = pure false := by rfl) : PS X (.Expr e pos) (tDrop te) := by
 intro pins s σ H D I h
 exact wpAny_Expr_any (thn (he pins s σ H _ I h) fun v s1 ⟨x, H1, I1, r1, q1⟩ => ⟨σ, H1, I1, q1⟩) I.quiet hs
def tRet (te : TE) : TS := fun D σ H => te σ H D.rt
theorem ps_ret (he : PE X e te) : PS X (.Return (some e) pos) (tRet te) := by
 intro pins s σ H D I h
 exact wpAny_Return_some (thn (he pins s σ H _ I h) fun v s1 ⟨x, H1, I1, r1, q1⟩ => ⟨x, σ, H1, I1, r1, q1⟩)
def tIfS (c : TT) (t u : TS) : TS := fun D σ H => c σ H fun b H1 => if b = true then t D σ H1 else u D σ H1
theorem ps_if {c : Expr} {a b : List Stmt} {tc : TT} (hc : PT X c tc) (ha : PSs X a t) (hb : PSs X b u) : PS X (.If c a b pos) (tIfS tc t u) := by
 intro pins s σ H D I h
 refine wpAny_If (thn (hc pins s σ H _ I h) fun d s1 ⟨H1, I1, q1⟩ => ?_)
 cases d with
 | true => exact ha pins s1 σ H1 D I1 q1
 | false => exact hb pins s1 σ H1 D I1 q1
end
abbrev TG := V → St → Hp → (St → Hp → Prop) → Prop
abbrev TGs := List V → St → Hp → (St → Hp → Prop) → Prop
def PG (X : Cx) (target : Expr) (t : TG) : Prop :=
 ∀ (pins : List (Addr × Obj)) (s : Shared) (σ : St) (H : Hp) (v : V) (u : Value) (Q : St → Hp → Prop), Inv X pins σ H s → RelV v u → t v σ H Q →
  wpAny (model X.prog X.w) X.A (assign target X.env u) (fun _ s' => ∃ σ' H', Inv X pins σ' H' s' ∧ Q σ' H') X.xe s
def PGs (X : Cx) (ts : List Expr) (t : TGs) : Prop :=
 ∀ (pins : List (Addr × Obj)) (s : Shared) (σ : St) (H : Hp) (vs : List V) (us : List Value) (Q : St → Hp → Prop), Inv X pins σ H s → Vals vs us → t vs σ H Q →
  wpAny (model X.prog X.w) X.A (assignInOrder ((assignEach ts X.env).map (·.2)) us) (fun _ s' => ∃ σ' H', Inv X pins σ' H' s' ∧ Q σ' H') X.xe s
abbrev TSet := V → V → V → Hp → (Hp → Prop) → Prop
def PSet (X : Cx) (t : TSet) : Prop :=
 ∀ (pins : List (Addr × Obj)) (s : Shared) (σ : St) (H : Hp) (o i v : V) (ov iv u : Value) (Q : Hp → Prop), Inv X pins σ H s → RelV o ov → RelV i iv → RelV v u → t o i v H Q →
  wpAny (model X.prog X.w) X.A (setItem ov iv u) (fun _ s' => ∃ H', Inv X pins σ H' s' ∧ Q H') X.xe s
section
variable {X : Cx} {pos : Pos}
def gName (i : Nat) : TG := fun v σ H Q => Q (σ.set i (some v)) H
theorem pg_name {i : Nat} {x : Str} (hN : X.N.Nodup) (hi : X.N[i]? = some x) (hx : Loc X.env.scope x) (hf : X.fn x = true ∨ X.env.scope.names.lookup x = some .local := by first | exact .inl rfl | exact .inr rfl | assumption) : PG X (.Name x pos) (gName i) := by
 intro pins s σ H v u Q I r h
 exact wpAny_assign_Name (store_ok I hN hi hx r (fun s' I' => ⟨_, H, I', h⟩) hf)
def gNil : TGs := fun vs σ H Q => vs = [] ∧ Q σ H
def gCons (t : TG) (u : TGs) : TGs := fun vs σ H Q => ∃ v r, vs = v :: r ∧ t v σ H fun σ' H' => u r σ' H' Q
theorem pgs_nil : PGs X [] gNil := by
 intro pins s σ H vs us Q I r h
 obtain ⟨e, h⟩ := h
 subst e
 cases r
 exact assignInOrder_nil ⟨σ, H, I, h⟩
theorem pgs_cons {e : Expr} {es : List Expr} {t : TG} {u : TGs} (h1 : PG X e t) (h2 : PGs X es u)
  (hs : (assignEach (e :: es) X.env).map (·.2) = assign e X.env :: (assignEach es X.env).map (·.2) := by rfl) : PGs X (e :: es) (gCons t u) := by
 intro pins s σ H vs us Q I r h
 obtain ⟨v, vr, e1, h⟩ := h
 subst e1
 cases r with
 | cons r rr =>
  rw [hs]
  refine assignInOrder_cons (thn (h1 pins s σ H _ _ _ I r h) fun _ s1 ⟨σ1, H1, I1, q1⟩ => ?_)
  exact h2 pins s1 σ1 H1 _ _ Q I1 rr q1
def gTup (K : PySem.W.Frag) (n : Nat) (t : TGs) : TG := fun v σ H Q => ∃ a xs, v = .ref a ∧ SqT K H a xs ∧ xs.length = n ∧ t xs σ H Q
theorem pg_tup {es : List Expr} {k : Nat} {t : TGs} {n : Nat} (hc : X.calm = true) (h : PGs X es t)
  (hn : (assignEach es X.env).length = n := by rfl) (hst : (assignEach es X.env).findIdx? (·.1) = none := by rfl) : PG X (.Tuple es k pos) (gTup X.K n t) := by
 intro pins s σ H v u Q I r hw
 obtain ⟨a, xs, e1, hq, hl, hw⟩ := hw
 subst e1
 cases r
 obtain ⟨its, rv, ht, hz⟩ := I.tuple hq
 refine assign_Tuple_tuple (I.ok.hd hc) ht (by simp [hn, ← hl, rv.length]) hst fun h' hx => ?_
 have I1 : Inv X pins σ H { s with heap := h' } := I.kept (t' := s.toks) fun b o e => hx b o (Nat.ne_of_lt (Heap.lt_size e)) e
 exact h pins _ σ H xs _ Q I1 (by simpa using rv) hw
def gSub (to ti : TE) (t : TSet) : TG := fun v σ H Q => to σ H fun o H1 => ti σ H1 fun i H2 => t o i v H2 fun H3 => Q σ H3
theorem pg_sub {o i : Expr} {to ti : TE} {t : TSet} (ho : PE X o to) (hi : PE X i ti) (hs : PSet X t)
  (ha : ∀ v, assign (.Subscript o i pos) X.env v = (do
   let ov ← holding [v] (eval o X.env)
   let iv ← holding [v, ov] (eval i X.env)
   standAt pos
   holding [v, ov, iv] (setItem ov iv v)
   release [v, ov, iv] []) := by intro _; rfl) : PG X (.Subscript o i pos) (gSub to ti t) := by
 intro pins s σ H v u Q I r h
 rw [ha]
 refine wpAny_bind (wpAny_holding (thn (ho pins s σ H _ I h) fun ov s1 ⟨x, H1, I1, r1, q1⟩ => ?_))
 refine wpAny_bind (wpAny_holding (thn (hi pins s1 σ H1 _ I1 q1) fun iv s2 ⟨y, H2, I2, r2, q2⟩ => ?_))
 refine wpAny_bind (wpAny_standAt (wpAny_bind (wpAny_holding (thn (hs pins s2 σ H2 x y v ov iv u _ I2 r1 r2 r q2) fun _ s3 ⟨H3, I3, q3⟩ => ?_))))
 exact wpAny_release ⟨σ, H3, I3, q3⟩
def tAsg (te : TE) (g : TG) : TS := fun D σ H => te σ H fun x H1 => g x σ H1 D.nx
theorem ps_asg {tg e : Expr} {te : TE} {g : TG} (he : PE X e te) (hg : PG X tg g) (hs : swapsWithSole [tg] e pos.line X.env = pure false := by rfl) (hw : swappedStores [tg] e X.env = pure none := by rfl)
  (h1 : (assignEach [tg] X.env).map (·.2) = [assign tg X.env] := by rfl) : PS X (.Assign [tg] e pos) (tAsg te g) := by
 intro pins s σ H D I h
 refine wpAny_Assign_stores (thn (he pins s σ H _ I h) fun v s1 ⟨x, H1, I1, r1, q1⟩ => ?_) hs hw
 rw [h1]
 exact thn (hg pins s1 σ H1 x v _ I1 r1 q1) fun _ s2 q => q
end
section
variable {X : Cx} {pos : Pos}
end
structure It where
 go : Nat → Hp → Prop
 yld : Nat → Hp → V → Hp → Prop
 stop : Nat → Hp → Prop
def FpOk (X : Cx) (pins : List (Addr × Obj)) (H : Hp) (b : Addr) : Prop :=
 H b = none ∧ b ≠ X.env.locals ∧ b ∉ X.fs ∧ (b ∈ X.ex ∨ X.s₀.heap.objs.size ≤ b) ∧ (∀ x c, X.env.cells.lookup x = some c → c ≠ b) ∧ ∀ p ∈ X.pn ++ pins, p.1 ≠ b
theorem Inv.fpOk {X : Cx} {pins : List (Addr × Obj)} {σ : St} {H H' : Hp} {s : Shared} {b : Addr} (I : Inv X pins σ H s) (hb : s.heap.objs.size ≤ b) (hn : H' b = none) : FpOk X pins H' b := by
 refine ⟨hn, Nat.ne_of_gt (Nat.lt_of_lt_of_le I.lt hb), I.nofs hb, .inr (Nat.le_trans I.sz hb), fun x c e z => ?_, fun p hp z => ?_⟩
 ·obtain ⟨v, q⟩ := I.cell x c e
  exact absurd (Nat.lt_of_lt_of_le q.lt (by rw [z]; exact hb)) (Nat.lt_irrefl _)
 ·exact absurd (Nat.lt_of_lt_of_le (Heap.lt_size (I.pin p hp).1) (by rw [z]; exact hb)) (Nat.lt_irrefl _)
structure Turn (P : Program) (w : World) (K : PySem.W.Frag) (tg : Expr) (J : It) (fp : List Addr) (it : Addr) (tn : Nat → Heap → Prop) : Prop where
 mem : it ∈ fp
 obj : ∀ i h, tn i h → ∀ b ∈ fp, ∃ o, h.get? b = some o ∧ ∀ v, o.data ≠ .cell v
 keep : ∀ i h h', tn i h → (∀ b ∈ fp, ∀ o, h.get? b = some o → h'.get? b = some o) → tn i h'
 item : ∀ (X : Cx), X.prog = P → X.w = w → X.K = K → X.calm = true → ∀ (i : Nat) (pins : List (Addr × Obj)) (s : Shared) (σ : St) (H : Hp) (E : Value → Shared → Prop), Inv X pins σ H s → (∀ b ∈ fp, FpOk X pins H b) → tn i s.heap → J.go i H →
  wpAny (model P w) X.A (pyNext (.ref it)) (fun r s1 => ∃ u, r = some u ∧
   wpAny (model P w) X.A (letOwnedTupleGo tg (.ref it) u) (fun _ s2 => ∃ x H', Inv X pins σ H' s2 ∧ RelV x u ∧ J.yld i H x H' ∧ tn (i + 1) s2.heap ∧ ∀ b ∈ fp, H' b = none) E s1) E s
 done : ∀ (X : Cx), X.prog = P → X.w = w → X.K = K → X.calm = true → ∀ (i : Nat) (pins : List (Addr × Obj)) (s : Shared) (σ : St) (H : Hp) (E : Value → Shared → Prop), Inv X pins σ H s → (∀ b ∈ fp, FpOk X pins H b) → tn i s.heap → J.stop i H →
  wpAny (model P w) X.A (pyNext (.ref it)) (fun r s1 => r = none ∧ Inv X pins σ H s1) E s
 self : ∀ (A : Around) (i : Nat) (s : Shared) (Q : Value → Shared → Prop) (E : Value → Shared → Prop), tn i s.heap → Q (.ref it) s → wpAny (model P w) A (pyIter (.ref it)) Q E s
abbrev TI := St → Hp → (It → Hp → Prop) → Prop
def PIE (X : Cx) (pins : List (Addr × Obj)) (σ : St) (tg : Expr) (R : It → Hp → Prop) (itv : Value) (s2 : Shared) : Prop :=
 ∃ (it : Addr) (fp : List Addr) (tn : Nat → Heap → Prop) (J : It) (H' : Hp), itv = .ref it ∧ Inv X pins σ H' s2 ∧ Turn X.prog X.w X.K tg J fp it tn ∧ tn 0 s2.heap ∧ (∀ b ∈ fp, FpOk X pins H' b) ∧ R J H'
def PI (X : Cx) (tg iter : Expr) (wi : TI) : Prop :=
 ∀ (pins : List (Addr × Obj)) (s : Shared) (σ : St) (H : Hp) (R : It → Hp → Prop), Inv X pins σ H s → wi σ H R →
  wpAny (model X.prog X.w) X.A (eval iter X.env) (fun v s1 => wpAny (model X.prog X.w) X.A (pyIter v) (PIE X pins σ tg R) X.xe s1) X.xe s
theorem go_of {M : Model} {A : Around} {E : Value → Shared → Prop} {s : Shared} {tg : Expr} {it : Addr} {u : Value} {o : Obj} {n : String} {vs : Array Value} {Q : Unit → Shared → Prop} (ho : s.heap.get? it = some o) (hc : o.cls = .type n) (hd : o.data = .fields vs)
  (hn : ["enumerate", "zip", "dict_itemiterator", "dict_reverseitemiterator", "odict_iterator", "itertools.zip_longest", "itertools.pairwise"].contains n = false) (hQ : Q () s) : wpAny M A (letOwnedTupleGo tg (.ref it) u) Q E s := by
 unfold letOwnedTupleGo
 cases tg <;> first
  | exact wpAny_pure hQ
  | (cases u <;> first
    | exact wpAny_pure hQ
    | (refine wpAny_bind (wpAny_load ho ?_)
       rw [hc, hd]
       show wpAny M A (if (["enumerate", "zip", "dict_itemiterator", "dict_reverseitemiterator", "odict_iterator", "itertools.zip_longest", "itertools.pairwise"].contains n && vs[0]? == some (rawInt _)) = true then _ else _) Q E s
       rw [if_neg (by intro h; rw [hn, Bool.false_and] at h; cases h)]
       exact wpAny_pure hQ))
def Itl (K : PySem.W.Frag) (a : Addr) : It :=
 ⟨fun i H => ∃ xs x, SqL K H a xs ∧ xs[i]? = some x, fun i H x H' => H' = H ∧ ∀ xs, SqL K H a xs → xs[i]? = some x, fun i H => ∃ xs, SqL K H a xs ∧ xs.length ≤ i⟩
def Itr (lo : Int) (n : Nat) : It := ⟨fun i _ => i < n, fun i H x H' => H' = H ∧ x = .int (lo + i), fun i _ => n ≤ i⟩
theorem turn_list {P : Program} {w : World} {K : PySem.W.Frag} {tg : Expr} (a it : Addr) : Turn P w K tg (Itl K a) [it] it (fun i h => h.IsListIter it a i) where
 mem := by simp
 obj := fun i h st b hb => by
  have e : b = it := by simpa using hb
  subst e
  obtain ⟨o, e, c, d⟩ := st
  exact ⟨o, e, fun v z => by rw [d] at z; cases z⟩
 keep := fun i h h' st k => st.at fun o e => k it (by simp) o e
 item := by
  intro X hP hw hK hc i pins s σ H E I hf st hg
  subst hP hw hK
  obtain ⟨xs, x, hq, hx⟩ := hg
  obtain ⟨its, rv, p, hz⟩ := I.list hq
  obtain ⟨u, hu, ru⟩ := rv.get hx
  obtain ⟨f0, f1, f2, f3, f4, f5⟩ := hf it (by simp)
  refine wpAny_pyNext_list_item st p.isList (x := u) (by simpa using hu) fun h' st' sb => ?_
  have I1 : Inv X pins σ H { s with heap := h' } := I.turned (t' := s.toks) (fun b o hb e => (sb.2 b hb).trans e) f0 f1 f3 f4 f5
  obtain ⟨o, e, c, d⟩ := id st'
  exact ⟨u, rfl, go_of (s := { s with heap := h' }) e c d (by decide) ⟨x, H, I1, ru, ⟨rfl, fun ys hy => by rw [I.list_inj hy hq]; exact hx⟩, st', fun b hb => (hf b hb).1⟩⟩
 done := by
  intro X hP hw hK hc i pins s σ H E I hf st hg
  subst hP hw hK
  obtain ⟨xs, hq, hx⟩ := hg
  obtain ⟨its, rv, p, hz⟩ := I.list hq
  obtain ⟨f0, f1, f2, f3, f4, f5⟩ := hf it (by simp)
  have hl := rv.length
  exact wpAny_pyNext_list_end (I.ok.hd hc) st p.isList (by simp; omega) fun h' eb => ⟨rfl, I.turned (t' := s.toks) (fun b o hb e => eb b o hb e) f0 f1 f3 f4 f5⟩
 self := fun _ _ _ _ _ st h => wpAny_pyIter_listiter st h
theorem turn_range {P : Program} {w : World} {K : PySem.W.Frag} {tg : Expr} (it : Addr) (lo : Int) (n : Nat) : Turn P w K tg (Itr lo n) [it] it (fun i h => IsRangeIter h it (lo + (i : Nat) * 1) ((n : Int) - (i : Nat)) 1) where
 mem := by simp
 obj := fun i h st b hb => by
  have e : b = it := by simpa using hb
  subst e
  exact ⟨_, st, fun v z => by
   have z' : Data.fields _ = Data.cell v := z
   cases z'⟩
 keep := fun i h h' st k => k it (by simp) _ st
 item := by
  intro X hP hw hK hc i pins s σ H E I hf st hg
  subst hP hw hK
  obtain ⟨f0, f1, f2, f3, f4, f5⟩ := hf it (by simp)
  have W := Walks.range (prog := X.prog) (w := X.w) (I.ok.hd hc) it lo 1 n
  refine W.item i s _ _ hg st fun v h' tk hv st' kk => ?_
  obtain ⟨t, rfl⟩ := hv
  have I1 : Inv X pins σ H { s with heap := h', toks := tk } := I.turned (fun b o hb e => kk b o (by simpa using hb) e) f0 f1 f3 f4 f5
  refine ⟨_, rfl, go_of (s := { s with heap := h', toks := tk }) (n := "range_iterator") st' rfl rfl (by decide) ⟨.int (lo + i), H, I1, ⟨t, ?_⟩, ⟨rfl, rfl⟩, st', fun b hb => (hf b hb).1⟩⟩
  rw [Int.mul_one]
 done := by
  intro X hP hw hK hc i pins s σ H E I hf st hg
  subst hP hw hK
  obtain ⟨f0, f1, f2, f3, f4, f5⟩ := hf it (by simp)
  exact wpAny_pyNext_range_end (I.ok.hd hc) st (by have : n ≤ i := hg; omega) fun h' eb => ⟨rfl, I.turned (t' := s.toks) (fun b o hb e => eb b o hb e) f0 f1 f3 f4 f5⟩
 self := fun _ _ _ _ _ st h => wpAny_pyIter_rangeiter st h
end L2
namespace L2
open PySem PySem.Spec PyProof.Rows
section
variable {X : Cx} {tg : Expr}
theorem range_it {pins : List (Addr × Obj)} {σ : St} {H : Hp} {s : Shared} {R : It → Hp → Prop} {E : Value → Shared → Prop} {lo hi : Int} {t u v : Tok} {tk : Nat} (I : Inv X pins σ H s) (h1 : -(2 ^ 62) ≤ lo) (h2 : lo < 2 ^ 62) (h3 : -(2 ^ 62) ≤ hi) (h4 : hi < 2 ^ 62)
  (q : R (Itr lo (hi - lo).toNat) H) : wpAny (model X.prog X.w) X.A (pyIter (.ref s.heap.objs.size)) (PIE X pins σ tg R) E { s with heap := s.heap.push { cls := .type "range", data := .fields #[.int lo t, .int hi u, .int 1 v] }, toks := tk } := by
 refine wpAny_pyIter_range (IsRange.new ..) (small_one h1 h2 h3 h4) ?_
 have I1 : Inv X pins σ H { s with heap := s.heap.push { cls := .type "range", data := .fields #[.int lo t, .int hi u, .int 1 v] }, toks := tk } := I.kept fun b o e => Heap.get?_push_of_some _ e
 refine ⟨(s.heap.push { cls := .type "range", data := .fields #[.int lo t, .int hi u, .int 1 v] }).objs.size, [(s.heap.push { cls := .type "range", data := .fields #[.int lo t, .int hi u, .int 1 v] }).objs.size], _, _, H, rfl,
  I1.kept (t' := tk) fun b o e => Heap.get?_push_of_some _ e, turn_range _ lo (hi - lo).toNat, ?_, fun b hb => ?_, q⟩
 ·have e1 : lo + ((0 : Nat) : Int) * 1 = lo := by simp
  have e2 : (((hi - lo).toNat : Nat) : Int) - ((0 : Nat) : Int) = Builtin.Range.rangeSize lo hi 1 := by rw [rangeSize_one]; split <;> omega
  show IsRangeIter _ _ (lo + ((0 : Nat) : Int) * 1) ((((hi - lo).toNat : Nat) : Int) - ((0 : Nat) : Int)) 1
  rw [e1, e2]
  exact Heap.get?_push_size _ rfl
 ·have e : b = (s.heap.push { cls := .type "range", data := .fields #[.int lo t, .int hi u, .int 1 v] }).objs.size := by simpa using hb
  subst e
  exact I1.fpOk (Nat.le_refl _) (I1.hok.fresh (Nat.le_refl _))
def tFor (wi : TI) (g : TG) (tb : TS) : TS := fun D σ H => wi σ H fun J H1 => ∃ W : Nat → Nat → St → Hp → Prop, (∃ m, W 0 m σ H1) ∧ ∀ i m σ H, W i m σ H →
 (J.stop i H ∧ D.nx σ H) ∨ (J.go i H ∧ ∃ N : St → Hp → Prop, (∀ σ' H', N σ' H' → ∃ m', m' < m ∧ W (i + 1) m' σ' H') ∧ ∀ x H', J.yld i H x H' → g x σ H' fun σ2 H2 => tb { D with nx := N, ct := N, bk := D.nx } σ2 H2)
def pinsAt (fp : List Addr) (h : Heap) : List (Addr × Obj) := fp.filterMap fun b => (h.get? b).map fun o => (b, o)
theorem mem_pinsAt {fp : List Addr} {h : Heap} {b : Addr} {o : Obj} (hb : b ∈ fp) (e : h.get? b = some o) : (b, o) ∈ pinsAt fp h := List.mem_filterMap.mpr ⟨b, hb, by rw [e]; rfl⟩
theorem of_pinsAt {fp : List Addr} {h : Heap} {p : Addr × Obj} (hp : p ∈ pinsAt fp h) : p.1 ∈ fp ∧ h.get? p.1 = some p.2 := by
 obtain ⟨b, hb, e⟩ := List.mem_filterMap.mp hp
 cases q : h.get? b with
 | none => rw [q] at e; cases e
 | some o =>
  rw [q] at e
  have e' : (b, o) = p := Option.some.inj e
  subst e'
  exact ⟨hb, q⟩
theorem Inv.pinned {pins : List (Addr × Obj)} {σ : St} {H : Hp} {s : Shared} {fp : List Addr} (I : Inv X pins σ H s) (hf : ∀ b ∈ fp, FpOk X pins H b) (ho : ∀ b ∈ fp, ∃ o, s.heap.get? b = some o ∧ ∀ v, o.data ≠ .cell v) : Inv X (pins ++ pinsAt fp s.heap) σ H s :=
 I.pins_of fun p hp => (List.mem_append.mp hp).elim (fun z => I.pin p (List.mem_append_right _ z)) fun z => by
  obtain ⟨hb, e⟩ := of_pinsAt z
  obtain ⟨f0, f1, f2, _⟩ := hf p.1 hb
  obtain ⟨o, e', d⟩ := ho p.1 hb
  rw [e] at e'; cases e'
  exact ⟨e, f0, f1, f2, d⟩
theorem Inv.unpinned {pins pl : List (Addr × Obj)} {σ : St} {H : Hp} {s : Shared} (I : Inv X (pins ++ pl) σ H s) : Inv X pins σ H s := I.pins_of fun p hp => I.pin p (List.mem_append_right _ (List.mem_append_left _ hp))
theorem ps_for {iter : Expr} {body : List Stmt} {wi : TI} {g : TG} {tb : TS} {pos : Pos} (hp : PassesOwn (model X.prog X.w) X.A X.env X.xe) (hc : X.calm = true) (hi : PI X tg iter wi) (hg : PG X tg g) (hb : PSs X body tb)
  (hs : ∀ x, foldedSetIterable iter X.env x = pure x := by intro _; rfl) : PS X (.For tg iter body [] pos) (tFor wi g tb) := by
 intro pins s σ H D I h
 refine wpAny_For (thn (hi pins s σ H _ I h) fun v s1 h1 => thn h1 fun itv s2 h2 => ?_) hs
 obtain ⟨it, fp, tn, J, H2, e, I2, T, st2, f2, W, ⟨m0, w0⟩, turn⟩ := h2
 subst e
 have stat : ∀ {H' : Hp}, (∀ b ∈ fp, H' b = none) → ∀ b ∈ fp, FpOk X pins H' b := fun hn b hb => ⟨hn b hb, (f2 b hb).2⟩
 refine codeAny_forLoop_any (fun n s' => ∃ i σ' H', Inv X pins σ' H' s' ∧ tn i s'.heap ∧ (∀ b ∈ fp, H' b = none) ∧ W i n σ' H') ?_ m0 ⟨0, σ, H2, I2, st2, fun b hb => (f2 b hb).1, w0⟩
 rintro n s3 ⟨i, σ3, H3, I3, st3, fr3, w3⟩
 rcases turn i n σ3 H3 w3 with ⟨stop, qn⟩ | ⟨go, N, hN, step⟩
 ·refine wpAny_passesOwn hp (thn (T.done X rfl rfl rfl hc i pins s3 σ3 H3 X.xe I3 (stat fr3) st3 stop) fun r s4 ⟨hr, I4⟩ => ?_)
  subst hr
  exact wpAny_execs_nil ⟨σ3, H3, I4, qn⟩
 ·refine wpAny_passesOwn hp (thn (T.item X rfl rfl rfl hc i pins s3 σ3 H3 X.xe I3 (stat fr3) st3 go) fun r s4 ⟨u, hr, h4⟩ => ?_)
  subst hr
  refine wpAny_passesOwn hp (thn h4 fun _ s5 ⟨x, H5, I5, r5, y5, st5, fr5⟩ => ?_)
  have I5' := I5.pinned (stat fr5) (T.obj _ _ st5)
  refine wpAny_passesOwn hp (thn (hg _ s5 σ3 H5 x u _ I5' r5 (step x H5 y5)) fun _ s6 ⟨σ6, H6, I6, q6⟩ => ?_)
  refine wpAny_passesOwn hp (thn (hb _ s6 σ6 H6 _ I6 q6) fun f s7 q7 => ?_)
  have again : ∀ {σ7 : St} {H7 : Hp}, Inv X (pins ++ pinsAt fp s5.heap) σ7 H7 s7 → N σ7 H7 → ∃ m, m < n ∧ ∃ i σ' H', Inv X pins σ' H' s7 ∧ tn i s7.heap ∧ (∀ b ∈ fp, H' b = none) ∧ W i m σ' H' := fun {σ7 H7} I7 n7 => by
   obtain ⟨m', hm, w7⟩ := hN σ7 H7 n7
   refine ⟨m', hm, i + 1, σ7, H7, I7.unpinned, T.keep _ _ _ st5 fun b hb o e => (I7.pin (b, o) (List.mem_append_right _ (List.mem_append_right _ (mem_pinsAt hb e)))).1, fun b hb => ?_, w7⟩
   obtain ⟨o, e, d⟩ := T.obj _ _ st5 b hb
   exact (I7.pin (b, o) (List.mem_append_right _ (List.mem_append_right _ (mem_pinsAt hb e)))).2.1
  cases f with
  | next => obtain ⟨σ7, H7, I7, n7⟩ := q7; exact again I7 n7
  | cont => obtain ⟨σ7, H7, I7, n7⟩ := q7; exact again I7 n7
  | brk => obtain ⟨σ7, H7, I7, q7⟩ := q7; exact ⟨σ7, H7, I7.unpinned, q7⟩
  | ret v => obtain ⟨x7, σ7, H7, I7, r7, q7⟩ := q7; exact ⟨x7, σ7, H7, I7.unpinned, r7, q7⟩
end
end L2
namespace L2
open PySem PySem.Spec PyProof.Rows
abbrev R2 := V → V → Hp → VK → Prop
def OpR (X : Cx) (f : Value → Value → Sem Value) (r : R2) : Prop :=
 ∀ (pins : List (Addr × Obj)) (s : Shared) (σ : St) (H : Hp) (x y : V) (v u : Value) (Q : VK), Inv X pins σ H s → RelV x v → RelV y u → r x y H Q →
  wpAny (model X.prog X.w) X.A (f v u) (EP X pins σ Q) X.xe s
def UnR (X : Cx) (f : Value → Sem Value) (r : V → Hp → VK → Prop) : Prop :=
 ∀ (pins : List (Addr × Obj)) (s : Shared) (σ : St) (H : Hp) (x : V) (v : Value) (Q : VK), Inv X pins σ H s → RelV x v → r x H Q →
  wpAny (model X.prog X.w) X.A (f v) (EP X pins σ Q) X.xe s
def CallR (X : Cx) (f : Value) (r : List V → Hp → VK → Prop) : Prop :=
 ∀ (pins : List (Addr × Obj)) (s : Shared) (σ : St) (H : Hp) (xs : List V) (us : List Value) (Q : VK), Inv X pins σ H s → Vals xs us → r xs H Q →
  wpAny (model X.prog X.w) X.A (call f us) (EP X pins σ Q) X.xe s
def TruR (X : Cx) (r : V → Hp → (Bool → Hp → Prop) → Prop) : Prop :=
 ∀ (pins : List (Addr × Obj)) (s : Shared) (σ : St) (H : Hp) (x : V) (v : Value) (Q : Bool → Hp → Prop), Inv X pins σ H s → RelV x v → r x H Q →
  wpAny (model X.prog X.w) X.A (truthy v) (TP X pins σ Q) X.xe s
def tOp (r : R2) (ta tb : TE) : TE := fun σ H Q => ta σ H fun x H1 => tb σ H1 fun y H2 => r x y H2 Q
def tUn (r : V → Hp → VK → Prop) (ta : TE) : TE := fun σ H Q => ta σ H fun x H1 => r x H1 Q
def rI (C : Int → Int → Prop) (g : Int → Int → V) : R2 := fun x y H Q => ∃ i j, x = .int i ∧ y = .int j ∧ C i j ∧ Q (g i j) H
def rI0 (g : Int → Int → V) : R2 := fun x y H Q => ∃ i j, x = .int i ∧ y = .int j ∧ Q (g i j) H
def rU (g : Int → V) : V → Hp → VK → Prop := fun x H Q => ∃ i, x = .int i ∧ Q (g i) H
section
variable {X : Cx} {a b c : Expr} {ta tb tc : TE} {pos : Pos}
theorem binT (ha : PE X a ta) (hb : PE X b tb) {pins : List (Addr × Obj)} {s : Shared} {σ : St} {H : Hp} {R : V → V → Hp → Prop} (I : Inv X pins σ H s)
  (h : ta σ H fun x H1 => tb σ H1 fun y H2 => R x y H2) {Q : Value → Shared → Prop} {f : Value → Value → Sem Value}
  (hf : ∀ v u s2 x y H2, Inv X pins σ H2 s2 → RelV x v → RelV y u → R x y H2 → wpAny (model X.prog X.w) X.A (f v u) Q X.xe s2) :
  wpAny (model X.prog X.w) X.A (eval a X.env) (fun v s₁ => wpAny (model X.prog X.w) X.A (eval b X.env) (fun u s₂ => wpAny (model X.prog X.w) X.A (f v u) Q X.xe s₂) X.xe s₁) X.xe s := by
 refine thn (ha pins s σ H _ I h) fun v s1 ⟨x, H1, I1, r1, q1⟩ => ?_
 refine thn (hb pins s1 σ H1 _ I1 q1) fun u s2 ⟨y, H2, I2, r2, q2⟩ => ?_
 exact hf v u s2 x y H2 I2 r1 r2 q2
theorem pe_op {op : Operator} {r : R2} (ho : OpR X (binaryOp op) r) (ha : PE X a ta) (hb : PE X b tb) : PE X (.BinOp a op b pos) (tOp r ta tb) := by
 intro pins s σ H Q I h
 exact wpAny_BinOp (binT ha hb I h fun v u s2 x y H2 I2 rx ry q => ho pins s2 σ H2 x y v u Q I2 rx ry q)
theorem pe_un {op : UnaryOp} {r : V → Hp → VK → Prop} (ho : UnR X (unaryOp op) r) (ha : PE X a ta) : PE X (.UnaryOp op a pos) (tUn r ta) := by
 intro pins s σ H Q I h
 exact UnaryOp_ (thn (ha pins s σ H _ I h) fun v s1 ⟨x, H1, I1, r1, q1⟩ => ho pins s1 σ H1 x v Q I1 r1 q1)
theorem opI {f : Value → Value → Sem Value} {C : Int → Int → Prop} {g : Int → Int → Int}
  (rule : ∀ (i j : Int) (t u : Tok) (s : Shared) (Q : Value → Shared → Prop) (E : Value → Shared → Prop), C i j → Q (.int (g i j) s.toks) { s with toks := s.toks + 1 } → wpAny (model X.prog X.w) X.A (f (.int i t) (.int j u)) Q E s) :
  OpR X f (rI C fun i j => .int (g i j)) := by
 intro pins s σ H x y v u Q I rx ry h
 obtain ⟨i, j, rfl, rfl, hc, q⟩ := h
 obtain ⟨t, rfl⟩ := rx
 obtain ⟨t', rfl⟩ := ry
 exact rule i j t t' s _ _ hc ⟨.int (g i j), H, I.tok _, ⟨_, rfl⟩, q⟩
theorem opI0 {f : Value → Value → Sem Value} {g : Int → Int → Int}
  (rule : ∀ (i j : Int) (t u : Tok) (s : Shared) (Q : Value → Shared → Prop) (E : Value → Shared → Prop), Q (.int (g i j) s.toks) { s with toks := s.toks + 1 } → wpAny (model X.prog X.w) X.A (f (.int i t) (.int j u)) Q E s) :
  OpR X f (rI0 fun i j => .int (g i j)) := by
 intro pins s σ H x y v u Q I rx ry h
 obtain ⟨i, j, rfl, rfl, q⟩ := h
 obtain ⟨t, rfl⟩ := rx
 obtain ⟨t', rfl⟩ := ry
 exact rule i j t t' s _ _ ⟨.int (g i j), H, I.tok _, ⟨_, rfl⟩, q⟩
theorem opB0 {f : Value → Value → Sem Value} {g : Int → Int → Bool}
  (rule : ∀ (i j : Int) (t u : Tok) (s : Shared) (Q : Value → Shared → Prop) (E : Value → Shared → Prop), Q (.bool (g i j)) s → wpAny (model X.prog X.w) X.A (f (.int i t) (.int j u)) Q E s) :
  OpR X f (rI0 fun i j => .bl (g i j)) := by
 intro pins s σ H x y v u Q I rx ry h
 obtain ⟨i, j, rfl, rfl, q⟩ := h
 obtain ⟨t, rfl⟩ := rx
 obtain ⟨t', rfl⟩ := ry
 exact rule i j t t' s _ _ ⟨.bl (g i j), H, I, rfl, q⟩
def CDiv (i j : Int) : Prop := 0 < j ∧ j < 1073741824
def CPow (i j : Int) : Prop := 0 ≤ j ∧ j ≤ 1000000 ∧ i.natAbs < 2 ^ 64
def CMul (i j : Int) : Prop := (-(2 ^ 64) < i ∧ i < 2 ^ 64) ∨ (-(2 ^ 64) < j ∧ j < 2 ^ 64)
theorem CMul.ok {i j : Int} (h : CMul i j) : IntMulOk i j := by
 rcases h with ⟨h1, h2⟩ | ⟨h1, h2⟩
 ·exact .of_left (intBits_le_64 h1 h2)
 ·exact .of_right (intBits_le_64 h1 h2)
theorem op_add : OpR X (binaryOp .Add) (rI0 fun i j => .int (i + j)) := opI0 fun _ _ _ _ _ _ _ q => add_int q
theorem op_sub : OpR X (binaryOp .Sub) (rI0 fun i j => .int (i - j)) := opI0 fun _ _ _ _ _ _ _ q => sub_int q
theorem op_mul : OpR X (binaryOp .Mult) (rI CMul fun i j => .int (i * j)) := opI fun _ _ _ _ _ _ _ hc q => mul_int q hc.ok
theorem op_fdiv : OpR X (binaryOp .FloorDiv) (rI CDiv fun i j => .int (i / j)) := opI fun i j _ _ _ _ _ hc q => by
 have h1 : (0 : Int) < j := hc.1
 have h2 : j < 1073741824 := hc.2
 exact floordiv_int (by omega) (by rw [Int.fdiv_eq_ediv_of_nonneg i (by omega)]; exact q) (.inl (PyProof.noPylong_small (by omega)))
theorem op_mod : OpR X (binaryOp .Mod) (rI (fun _ j => 0 < j) fun i j => .int (i % j)) := opI fun i j _ _ _ _ _ hc q => by
 have h1 : (0 : Int) < j := hc
 exact mod_int' (by omega) (by rw [Int.fmod_eq_emod_of_nonneg i (by omega)]; exact q)
theorem op_pow : OpR X (binaryOp .Pow) (rI CPow fun i j => .int (i ^ j.toNat)) := opI fun _ _ _ _ _ _ _ hc q => pow_int_small hc.1 hc.2.1 hc.2.2 q
theorem op_shl : OpR X (binaryOp .LShift) (rI CPow fun i j => .int (i * 2 ^ j.toNat)) := opI fun _ _ _ _ _ _ _ hc q => lshift_int_small hc.1 hc.2.1 hc.2.2 q
theorem unI {f : Value → Sem Value} {g : Int → Int}
  (rule : ∀ (i : Int) (t : Tok) (s : Shared) (Q : Value → Shared → Prop) (E : Value → Shared → Prop), Q (.int (g i) s.toks) { s with toks := s.toks + 1 } → wpAny (model X.prog X.w) X.A (f (.int i t)) Q E s) :
  UnR X f (rU fun i => .int (g i)) := by
 intro pins s σ H x v Q I rx h
 obtain ⟨i, rfl, q⟩ := h
 obtain ⟨t, rfl⟩ := rx
 exact rule i t s _ _ ⟨.int (g i), H, I.tok _, ⟨_, rfl⟩, q⟩
theorem un_neg : UnR X (unaryOp .USub) (rU fun i => .int (-i)) := unI fun _ _ _ _ _ q => neg_int q
end
def scal : V → V → Bool
 | .non, .non => true | .non, .int _ => true | .int _, .non => true | .non, .bl _ => true | .bl _, .non => true | .non, .str _ => true | .str _, .non => true
 | .int _, .int _ => true | .bl _, .bl _ => true | .str _, .str _ => true | .byt _, .byt _ => true
 | .int _, .str _ => true | .str _, .int _ => true | .bl _, .str _ => true | .str _, .bl _ => true
 | _, _ => false
def rEq : R2 := fun x y H Q => scal x y = true ∧ Q (.bl (decide (x = y))) H
def rNe : R2 := fun x y H Q => scal x y = true ∧ Q (.bl (!decide (x = y))) H
theorem dec_int {i j : Int} : decide (V.int i = V.int j) = (i == j) := by
 rw [Bool.eq_iff_iff]
 simp
theorem dec_bl {i j : Bool} : decide (V.bl i = V.bl j) = (i == j) := by
 rw [Bool.eq_iff_iff]
 simp
theorem dec_str {i j : Str} : decide (V.str i = V.str j) = (i == j) := by
 rw [Bool.eq_iff_iff]
 simp
theorem dec_byt {i j : Array UInt8} : decide (V.byt i = V.byt j) = (i.toList == j.toList) := by
 rw [Bool.eq_iff_iff]
 cases i
 cases j
 simp
section
variable {X : Cx} {a b c : Expr} {ta tb tc : TE} {pos : Pos}
theorem fin_bl {pins : List (Addr × Obj)} {σ : St} {H : Hp} {s : Shared} {Q : VK} {k k' : Bool} (I : Inv X pins σ H s) (q : Q (.bl k) H) (e : k = k') : EP X pins σ Q (.bool k') s := by
 subst e
 exact ⟨.bl k, H, I, rfl, q⟩
theorem op_eq : OpR X (compareOp .Eq) rEq := by
 intro pins s σ H x y v u Q I rx ry h
 obtain ⟨hs, q⟩ := h
 cases x with
 | non =>
  cases rx
  cases y with
  | non => cases ry; exact PySem.EqNone.eq_none_none (fin_bl I q (by simp))
  | bl j => cases ry; exact PySem.EqNone.eq_none_bool (fin_bl I q (by simp))
  | int j => obtain ⟨t', rfl⟩ := ry; exact PySem.EqNone.eq_none_int (fin_bl I q (by simp))
  | str j => obtain ⟨t', rfl⟩ := ry; exact PySem.EqNone.eq_none_str (fin_bl I q (by simp))
  | _ => exact absurd (show false = true from hs) Bool.false_ne_true
 | bl i =>
  cases rx
  cases y with
  | non => cases ry; exact PySem.EqNone.eq_bool_none (fin_bl I q (by simp))
  | bl j => cases ry; exact eq_bool (fin_bl I q dec_bl)
  | str j => obtain ⟨t', rfl⟩ := ry; exact PySem.EqMixed.eq_bool_str (fin_bl I q (by simp))
  | _ => exact absurd (show false = true from hs) Bool.false_ne_true
 | int i =>
  obtain ⟨t, rfl⟩ := rx
  cases y with
  | non => cases ry; exact PySem.EqNone.eq_int_none (fin_bl I q (by simp))
  | int j => obtain ⟨t', rfl⟩ := ry; exact eq_int (fin_bl I q dec_int)
  | str j => obtain ⟨t', rfl⟩ := ry; exact PySem.EqMixed.eq_int_str (fin_bl I q (by simp))
  | _ => exact absurd (show false = true from hs) Bool.false_ne_true
 | str i =>
  obtain ⟨t, rfl⟩ := rx
  cases y with
  | non => cases ry; exact PySem.EqNone.eq_str_none (fin_bl I q (by simp))
  | bl j => cases ry; exact PySem.EqMixed.eq_str_bool (fin_bl I q (by simp))
  | int j => obtain ⟨t', rfl⟩ := ry; exact PySem.EqMixed.eq_str_int (fin_bl I q (by simp))
  | str j => obtain ⟨t', rfl⟩ := ry; exact eq_str (fin_bl I q dec_str)
  | _ => exact absurd (show false = true from hs) Bool.false_ne_true
 | byt i =>
  obtain ⟨t, rfl⟩ := rx
  cases y with
  | byt j => obtain ⟨t', rfl⟩ := ry; exact PySem.W.eq_bytes (fin_bl I q dec_byt)
  | _ => exact absurd (show false = true from hs) Bool.false_ne_true
 | _ => cases y <;> exact absurd (show false = true from hs) Bool.false_ne_true
theorem op_ne : OpR X (compareOp .NotEq) rNe := by
 intro pins s σ H x y v u Q I rx ry h
 obtain ⟨hs, q⟩ := h
 cases x with
 | non =>
  cases rx
  cases y with
  | non => cases ry; exact PySem.EqNone.ne_none_none (fin_bl I q (by simp))
  | bl j => cases ry; exact PySem.EqNone.ne_none_bool (fin_bl I q (by simp))
  | int j => obtain ⟨t', rfl⟩ := ry; exact PySem.EqNone.ne_none_int (fin_bl I q (by simp))
  | str j => obtain ⟨t', rfl⟩ := ry; exact PySem.EqNone.ne_none_str (fin_bl I q (by simp))
  | _ => exact absurd (show false = true from hs) Bool.false_ne_true
 | bl i =>
  cases rx
  cases y with
  | non => cases ry; exact PySem.EqNone.ne_bool_none (fin_bl I q (by simp))
  | bl j => cases ry; exact ne_bool (fin_bl I q (congrArg not dec_bl))
  | str j => obtain ⟨t', rfl⟩ := ry; exact PySem.EqMixed.ne_bool_str (fin_bl I q (by simp))
  | _ => exact absurd (show false = true from hs) Bool.false_ne_true
 | int i =>
  obtain ⟨t, rfl⟩ := rx
  cases y with
  | non => cases ry; exact PySem.EqNone.ne_int_none (fin_bl I q (by simp))
  | int j => obtain ⟨t', rfl⟩ := ry; exact ne_int (fin_bl I q (congrArg not dec_int))
  | str j => obtain ⟨t', rfl⟩ := ry; exact PySem.EqMixed.ne_int_str (fin_bl I q (by simp))
  | _ => exact absurd (show false = true from hs) Bool.false_ne_true
 | str i =>
  obtain ⟨t, rfl⟩ := rx
  cases y with
  | non => cases ry; exact PySem.EqNone.ne_str_none (fin_bl I q (by simp))
  | bl j => cases ry; exact PySem.EqMixed.ne_str_bool (fin_bl I q (by simp))
  | int j => obtain ⟨t', rfl⟩ := ry; exact PySem.EqMixed.ne_str_int (fin_bl I q (by simp))
  | str j => obtain ⟨t', rfl⟩ := ry; exact ne_str (fin_bl I q (congrArg not dec_str))
  | _ => exact absurd (show false = true from hs) Bool.false_ne_true
 | byt i =>
  obtain ⟨t, rfl⟩ := rx
  cases y with
  | byt j => obtain ⟨t', rfl⟩ := ry; exact PySem.W.ne_bytes (fin_bl I q (congrArg not dec_byt))
  | _ => exact absurd (show false = true from hs) Bool.false_ne_true
 | _ => cases y <;> exact absurd (show false = true from hs) Bool.false_ne_true
theorem op_lt : OpR X (compareOp .Lt) (rI0 fun i j => .bl (decide (i < j))) := opB0 fun _ _ _ _ _ _ _ q => lt_int q
theorem op_le : OpR X (compareOp .LtE) (rI0 fun i j => .bl (decide (i ≤ j))) := opB0 fun _ _ _ _ _ _ _ q => le_int q
theorem op_gt : OpR X (compareOp .Gt) (rI0 fun i j => .bl (decide (j < i))) := opB0 fun _ _ _ _ _ _ _ q => gt_int q
theorem op_ge : OpR X (compareOp .GtE) (rI0 fun i j => .bl (decide (j ≤ i))) := opB0 fun _ _ _ _ _ _ _ q => ge_int q
theorem op_notN : OpR X (compareOp .IsNot) (fun x y H Q => y = .non ∧ Q (.bl (!decide (x = .non))) H) := by
 intro pins s σ H x y v u Q I rx ry h
 obtain ⟨rfl, q⟩ := h
 cases ry
 refine isnot_none_gen (fin_bl I q ?_)
 cases x <;> first
  | (cases rx; rfl)
  | (obtain ⟨t, rfl⟩ := rx; rfl)
theorem OpR.or {f : Value → Value → Sem Value} {r r' : R2} (h : OpR X f r) (h' : OpR X f r') : OpR X f (fun x y H Q => r x y H Q ∨ r' x y H Q) := by
 intro pins s σ H x y v u Q I rx ry q
 rcases q with q | q
 ·exact h pins s σ H x y v u Q I rx ry q
 ·exact h' pins s σ H x y v u Q I rx ry q
theorem nomark (b : Expr) {op : CmpOp} (h : op ≠ .In := by decide) (h2 : op ≠ .NotIn := by decide) : behindInMarks op b = false := by
 have e1 : (op == CmpOp.In) = false := by cases op <;> first | rfl | exact absurd rfl h
 have e2 : (op == CmpOp.NotIn) = false := by cases op <;> first | rfl | exact absurd rfl h2
 cases b <;> simp [behindInMarks, e1, e2]
theorem pe_cmpR {op : CmpOp} {r : R2} (ho : OpR X (compareOp op) r) (ha : PE X a ta) (hb : PE X b tb) (hm : behindInMarks op b = false) : PE X (.Compare a [op] [b] pos) (tOp r ta tb) := by
 intro pins s σ H Q I h
 exact wpAny_Compare1 (binT ha hb I h fun v u s2 x y H2 I2 rx ry q => ho pins s2 σ H2 x y v u Q I2 rx ry q) hm
def TruV (K : PySem.W.Frag) (x : V) (H : Hp) (k : Bool) : Prop :=
 match x with
 | .non => k = false
 | .bl b => k = b
 | .int i => k = (i != 0)
 | .str y => y.length ≤ sizeLine ∧ k = ((y.length : Int) != 0)
 | .byt y => y.size ≤ sizeLine ∧ k = ((y.size : Int) != 0)
 | .ref p => (∃ xs, SqL K H p xs ∧ k = !xs.isEmpty) ∨ (∃ xs, SqT K H p xs ∧ k = !xs.isEmpty) ∨ ∃ kvs, H p = some (.dK kvs) ∧ k = !kvs.isEmpty
 | _ => False
theorem isEmpty_kv {κ : Type} {kvs : List (κ × V)} {vs : List (κ × Value)} (r : KV kvs vs) : (!vs.isEmpty) = !kvs.isEmpty := by
 cases r <;> rfl
theorem isEmpty_of {xs : List V} {its : List Value} (r : Vals xs its) : (!its.toArray.isEmpty) = !xs.isEmpty := by
 cases r <;> simp
theorem line63 : (sizeLine : Nat) < 2 ^ 63 := by rw [sizeLine_eq]; decide
theorem tru_ok : TruR X (fun x H Q => ∃ k, TruV X.K x H k ∧ Q k H) := by
 intro pins s σ H x v Q I rx h
 obtain ⟨k, e, q⟩ := h
 have hl := line63
 have hs : sizeLine = 16777216 := sizeLine_eq
 cases x with
 | non =>
  cases rx
  have e' : k = false := e
  subst e'
  exact truthy_none ⟨H, I, q⟩
 | bl b =>
  cases rx
  have e' : k = b := e
  subst e'
  exact wpAny_truthy_bool ⟨H, I, q⟩
 | int i =>
  obtain ⟨t, rfl⟩ := rx
  have e' : k = (i != 0) := e
  subst e'
  exact PySem.P.truthy_int ⟨H, I, q⟩
 | str y =>
  obtain ⟨t, rfl⟩ := rx
  obtain ⟨hy, e'⟩ : y.length ≤ sizeLine ∧ k = ((y.length : Int) != 0) := e
  subst e'
  exact PySem.P.truthy_str (by omega) ⟨H, I.tok _, q⟩
 | byt y =>
  obtain ⟨t, rfl⟩ := rx
  obtain ⟨hy, e'⟩ : y.size ≤ sizeLine ∧ k = ((y.size : Int) != 0) := e
  subst e'
  exact PySem.W.truthy_bytes (by omega) ⟨H, I.tok _, q⟩
 | ref p =>
  cases rx
  have e' : (∃ xs, SqL X.K H p xs ∧ k = !xs.isEmpty) ∨ (∃ xs, SqT X.K H p xs ∧ k = !xs.isEmpty) ∨ ∃ kvs, H p = some (.dK kvs) ∧ k = !kvs.isEmpty := e
  rcases e' with ⟨xs, hx, e'⟩ | ⟨xs, hx, e'⟩ | ⟨kvs, hx, e'⟩
  ·subst e'
   obtain ⟨its, r, pl, hz⟩ := I.list hx
   have hlen := r.length
   exact wpAny_truthy_list pl.isList (by simp only [List.size_toArray]; omega) ⟨H, I.tok _, by rw [isEmpty_of r]; exact q⟩
  ·subst e'
   obtain ⟨its, r, pl, hz⟩ := I.tuple hx
   have hlen := r.length
   exact truthy_tuple pl (by simp only [List.size_toArray]; omega) ⟨H, I.tok _, by rw [isEmpty_of r]; exact q⟩
  ·subst e'
   obtain ⟨hz, hS, vs, r, m⟩ : kvs.length ≤ sizeLine ∧ (p == sysModules) = false ∧ ∃ vs, KV kvs vs ∧ s.heap.DictOf (mixKind X.prog X.w) p vs := I.hok p _ hx
   have hlen : kvs.length = vs.length := Paired.length r
   exact wpAny_truthy_dict hS m (by omega) ⟨H, I.tok _, by rw [isEmpty_kv r]; exact q⟩
 | _ => exact (show False from e).elim
theorem op_add_str : OpR X (binaryOp .Add) (fun x y H Q => ∃ i j, x = .str i ∧ y = .str j ∧ i.length + j.length ≤ sizeLine ∧ Q (.str (i ++ j)) H) := by
 intro pins s σ H x y v u Q I rx ry h
 obtain ⟨i, j, rfl, rfl, hz, q⟩ := h
 obtain ⟨t, rfl⟩ := rx
 obtain ⟨t', rfl⟩ := ry
 exact add_str (fun t' tk => ⟨.str (i ++ j), H, I.tok _, ⟨_, rfl⟩, q⟩) hz
theorem vals1 {x : V} {us : List Value} (r : Vals [x] us) : ∃ u, us = [u] ∧ RelV x u := by
 cases r with
 | cons r1 r2 => cases r2; exact ⟨_, rfl, r1⟩
theorem vals2 {x y : V} {us : List Value} (r : Vals [x, y] us) : ∃ u w', us = [u, w'] ∧ RelV x u ∧ RelV y w' := by
 cases r with
 | cons r1 r2 =>
  cases r2 with
  | cons r3 r4 => cases r4; exact ⟨_, _, rfl, r1, r3⟩
theorem call_max2 (hc : X.calm = true) : CallR X (.builtin "max") (fun xs H Q => ∃ i j, xs = [.int i, .int j] ∧ Q (.int (if j > i then j else i)) H) := by
 intro pins s σ H xs us Q I r h
 obtain ⟨i, j, rfl, q⟩ := h
 obtain ⟨u, w', rfl, ⟨t, rfl⟩, ⟨t', rfl⟩⟩ := vals2 r
 refine max_two_ints (I.ok.hd hc) fun h' tk k => ⟨_, H, I.kept k, ?_, q⟩
 by_cases hj : j > i
 ·rw [if_pos hj, if_pos hj]; exact ⟨_, rfl⟩
 ·rw [if_neg hj, if_neg hj]; exact ⟨_, rfl⟩
theorem call_min2 (hc : X.calm = true) : CallR X (.builtin "min") (fun xs H Q => ∃ i j, xs = [.int i, .int j] ∧ Q (.int (if j < i then j else i)) H) := by
 intro pins s σ H xs us Q I r h
 obtain ⟨i, j, rfl, q⟩ := h
 obtain ⟨u, w', rfl, ⟨t, rfl⟩, ⟨t', rfl⟩⟩ := vals2 r
 refine min_two_ints (I.ok.hd hc) fun h' tk k => ⟨_, H, I.kept k, ?_, q⟩
 by_cases hj : j < i
 ·rw [if_pos hj, if_pos hj]; exact ⟨_, rfl⟩
 ·rw [if_neg hj, if_neg hj]; exact ⟨_, rfl⟩
theorem call_str_int : CallR X (.type "str") (fun xs H Q => ∃ i, xs = [.int i] ∧ i.natAbs.log2 < 1920 ∧ Q (.str (toString i)) H) := by
 intro pins s σ H xs us Q I r h
 obtain ⟨i, rfl, hz, q⟩ := h
 obtain ⟨u, rfl, t, rfl⟩ := vals1 r
 exact PySem.P.str_of_int hz ⟨.str _, H, I.tok _, ⟨_, rfl⟩, q⟩
end
end L2
namespace L2
open PySem PySem.Spec PyProof.Rows
section
variable {prog : Program} {w : World} {A : Around} {E : Value → Shared → Prop} {s : Shared} {K : PySem.W.Frag} {x dx C f : Addr} {mA : Str → Option Value} {name : Str} {v : Value}
end
theorem RelO.some_of {v : V} {o : Option Value} (r : RelO (some v) o) : ∃ u, o = some u ∧ RelV v u := by
 cases o with
 | none => exact (show False from r).elim
 | some u => exact ⟨u, rfl, r⟩
theorem handed_of {v : V} {u : Value} (r : RelV v u) : PySem.W.handedIn u = true := by
 cases v with
 | non => cases (show u = Value.none from r); rfl
 | bl b => cases (show u = Value.bool b from r); rfl
 | int i => obtain ⟨t, e⟩ := (show ∃ t, u = Value.int i t from r); cases e; rfl
 | str x => obtain ⟨t, e⟩ := (show ∃ t, u = Value.str x t from r); cases e; rfl
 | byt b => obtain ⟨t, e⟩ := (show ∃ t, u = Value.bytes b t from r); cases e; rfl
 | flt b => obtain ⟨t, e⟩ := (show ∃ t, u = Value.float b t from r); cases e; rfl
 | ref a => cases (show u = Value.ref a from r); rfl
 | ty n => cases (show u = Value.type n from r); rfl
section
variable {P : Program} {w : World} {H H' : Hp} {h h' : Heap} {a C dx : Addr} {fs fs' : List (Str × V)}
end
section
variable {X : Cx} {pins : List (Addr × Obj)} {σ : St} {H : Hp} {s : Shared} {a C dx : Addr} {fs : List (Str × V)} {f : Str} {v : V} {A : Around} {E : Value → Shared → Prop}
theorem attr_of {prog : Program} {w : World} {env : Env} {e : Expr} {f : Str} {pos : Pos} {s : Shared} {Q : Value → Shared → Prop} (hb : attributeBase e f env (eval e env) = eval e env)
  (h : wpAny (model prog w) A (eval e env) (fun o s₁ => wpAny (model prog w) A (getAttr o f true) Q E s₁) E s) : wpAny (model prog w) A (eval (.Attribute e f pos) env) Q E s :=
 Attribute_any_ h (by rw [arm_eval_Attribute, hb])
end
section
variable {X : Cx} {o e value : Expr} {f : Str} {pos pos' tpos : Pos} {ta tv : TE}
end
section
variable {X : Cx} {pins : List (Addr × Obj)} {σ : St} {H : Hp} {s : Shared} {A : Around} {E : Value → Shared → Prop} {Q : Value → Shared → Prop} {c : Value} {b : Bool}
end
end L2
namespace L2
open PySem PySem.Spec PyProof.Rows
structure Room (k : Nat) (A : Around) : Prop where
 hd : A.handled = none
 dp : A.depth + 3 * k + 5 < recursionLimit
 un : A.units + 16 * k + 200 < cLine
theorem Room.mono {j k : Nat} {A : Around} (r : Room k A) (h : j ≤ k) : Room j A := ⟨r.hd, by have := r.dp; omega, by have := r.un; omega⟩
theorem Room.deeper {k : Nat} {A : Around} (r : Room (k + 1) A) (env : Env) : Room k (A.deeper env) :=
 ⟨r.hd, by have := r.dp; show A.depth + 1 + 3 * k + 5 < _; omega, by have := r.un; show A.units + 3 + 16 * k + 200 < _; omega⟩
theorem Room.in1 {k : Nat} {A : Around} (r : Room (k + 1) A) : Room k A.in1 :=
 ⟨r.hd, by have := r.dp; show A.depth + 3 * k + 5 < _; omega, by have := r.un; show A.units + 1 + 16 * k + 200 < _; omega⟩
theorem make_depth {A : Around} {C : Addr} {us : List Value} {kw : List (Str × Value)} : (A.under (.builtin "type.__call__" ⟨.ref C :: us, kw⟩)).depth = A.depth + 1 := by
 first | rfl | simp [Around.under, Code.weight, Code.isCreation, Code.isGuard, Code.isCaller, Code.frames, Code.isFrame, guardIds]
theorem make_units {A : Around} {C : Addr} {us : List Value} {kw : List (Str × Value)} : (A.under (.builtin "type.__call__" ⟨.ref C :: us, kw⟩)).units = A.units + 1 := by
 first | rfl | simp [Around.under, Code.cUnits, Code.frames, Code.isFrame]
theorem Room.make {k : Nat} {A : Around} (r : Room (k + 1) A) (C : Addr) (us : List Value) (kw : List (Str × Value)) : Room k (A.under (.builtin "type.__call__" ⟨.ref C :: us, kw⟩)) :=
 ⟨r.hd, by have := r.dp; rw [make_depth]; omega, by have := r.un; rw [make_units]; omega⟩
theorem Room.depth {k : Nat} {A : Around} (r : Room k A) : A.depth < recursionLimit := by have := r.dp; omega
theorem Room.units {k : Nat} {A : Around} (r : Room k A) : A.units + 64 < cLine := by have := r.un; omega
def tNil : TA := fun _ H Q => Q [] H
def tCons (ta : TE) (tr : TA) : TA := fun σ H Q => ta σ H fun x H1 => tr σ H1 fun xs H2 => Q (x :: xs) H2
section
variable {X : Cx} {e : Expr} {es : List Expr} {te : TE} {t : TA} {pos : Pos}
theorem pa_nil : PA X [] tNil := fun _ _ _ _ H Q I h => Calls.spliced_nil ⟨[], H, I, .nil, h⟩
theorem pa_cons (ha : PE X e te) (hr : PA X es t) (hs : starEach (e :: es) X.env = (false, eval e X.env) :: starEach es X.env := by rfl) : PA X (e :: es) (tCons te t) := by
 intro pos pins s σ H Q I h
 rw [hs]
 show wpAny _ _ (spliced ((false, eval e X.env) :: backTo pos (starEach es X.env))) _ _ s
 refine Calls.spliced_cons (thn (ha pins s σ H _ I h) fun u s1 ⟨x, H1, I1, r1, q1⟩ => ?_)
 exact thn (hr pos pins s1 σ H1 _ I1 q1) fun us s2 ⟨xs, H2, I2, r2, q2⟩ => ⟨x :: xs, H2, I2, .cons r1 r2, q2⟩
def tTup (t : TA) : TE := fun σ H Q => t σ H fun xs H1 => xs.length ≤ sizeLine ∧ ∀ p, H1 p = none → Q (.ref p) (upd H1 p (.tup xs))
def tLst (t : TA) : TE := fun σ H Q => t σ H fun xs H1 => xs.length ≤ sizeLine ∧ ∀ p, H1 p = none → Q (.ref p) (upd H1 p (.lst xs))
theorem pe_tup {x1} (h : PA X es t) : PE X (.Tuple es x1 pos) (tTup t) := by
 intro pins s σ H Q I hq
 refine wpAny_Tuple_spliced (thn (h pos pins s σ H _ I hq) fun us s1 ⟨xs, H1, I1, r, z, q⟩ => ⟨by rw [← r.length]; exact z, ?_⟩)
 have hf : H1 s1.heap.objs.size = none := I1.hok.fresh (Nat.le_refl _)
 refine ⟨.ref s1.heap.objs.size, upd H1 s1.heap.objs.size (.tup xs), I1.laid (t' := s1.toks) (fun b u e => Heap.get?_push_of_some _ e) (Nat.le_refl _) ?_, rfl, q _ hf⟩
 exact ⟨z, us, r, ⟨_, Heap.get?_push_size _ rfl, rfl, _, rfl⟩⟩
theorem pe_lst (h : PA X es t) : PE X (.List es pos) (tLst t) := by
 intro pins s σ H Q I hq
 refine wpAny_List_spliced (thn (h pos pins s σ H _ I hq) fun us s1 ⟨xs, H1, I1, r, z, q⟩ => ⟨by rw [← r.length]; exact z, ?_⟩)
 have hf : H1 s1.heap.objs.size = none := I1.hok.fresh (Nat.le_refl _)
 refine ⟨.ref s1.heap.objs.size, upd H1 s1.heap.objs.size (.lst xs), I1.laid (t' := s1.toks) (fun b u e => Heap.get?_push_of_some _ e) (Nat.le_refl _) ?_, rfl, q _ hf⟩
 exact ⟨z, us, 0, r, Heap.get?_push_size _ rfl⟩
end
abbrev Sp := List V → Hp → VK → XK → Prop
abbrev CXT := List Env → Hp → Shared → XK → Value → Shared → Prop
structure Env0 (P : Program) (w : World) (K : PySem.W.Frag) (mg : Str → Option Value) (base : Heap) (A : Around) (outer : List Env) (s : Shared) (H : Hp) : Prop where
 frames : A.frames = some outer
 mod : Mod K mg base
 bs : ∀ b o, base.get? b = some o → s.heap.get? b = some o ∧ H b = none
 bsz : base.objs.size ≤ s.heap.objs.size
 funs : s.heap.FunFrames base outer
 frf : ∀ b ∈ frs outer, H b = none
 hok : HOk P w H s.heap
 bare : AllBare s.gens
def CE (outer : List Env) (P : Program) (w : World) (H : Hp) (s : Shared) (Q : VK) (u : Value) (s' : Shared) : Prop :=
 ∃ v H', s'.os = s.os ∧ AllBare s'.gens ∧ Un (frs outer) [] H H' s.heap s'.heap ∧ HOk P w H' s'.heap ∧ RelV v u ∧ Q v H'
def CR (CX : CXT) (outer : List Env) (P : Program) (w : World) (H : Hp) (s : Shared) (Q : VK) (E : XK) (r : Result) (s' : Shared) : Prop :=
 match r with
 | .ok (.ret u) => CE outer P w H s Q u s'
 | .ok _ => False
 | .error e => CX outer H s E e s'
structure FnOk (P : Program) (w : World) (K : PySem.W.Frag) (mg : Str → Option Value) (base : Heap) (CX : CXT) (k : Nat) (f : Addr) (fd : FuncData) (ps : List Str) (sp : Sp) : Prop where
 len : ∀ vs H Q E, sp vs H Q E → vs.length = ps.length
 run : ∀ (A : Around) (outer : List Env) (s : Shared) (H : Hp) (args : Args) (us : List Value) (vs : List V) (Q : VK) (E : XK), Room k A → Env0 P w K mg base A outer s H → BindsTo s fd args (ps.zip us) → Vals vs us → sp vs H Q E →
  codeAny (model P w) A (.call (.ref f) args) (CR CX outer P w H s Q E) s
theorem FnOk.mono {P : Program} {w : World} {K : PySem.W.Frag} {mg : Str → Option Value} {base : Heap} {CX : CXT} {j k : Nat} {f : Addr} {fd : FuncData} {ps : List Str} {sp : Sp} (F : FnOk P w K mg base CX j f fd ps sp) (h : j ≤ k) :
  FnOk P w K mg base CX k f fd ps sp := ⟨F.len, fun A outer s H args us vs Q E hr => F.run A outer s H args us vs Q E (hr.mono h)⟩
theorem FnOk.imp {P : Program} {w : World} {K : PySem.W.Frag} {mg : Str → Option Value} {base : Heap} {CX : CXT} {k : Nat} {f : Addr} {fd : FuncData} {ps : List Str} {sp sp' : Sp} (F : FnOk P w K mg base CX k f fd ps sp)
  (h : ∀ vs H Q E, sp' vs H Q E → sp vs H Q E) : FnOk P w K mg base CX k f fd ps sp' :=
 ⟨fun vs H Q E q => F.len vs H Q E (h _ _ _ _ q), fun A outer s H args us vs Q E hr he hb hv hs => F.run A outer s H args us vs Q E hr he hb hv (h _ _ _ _ hs)⟩
theorem Env0.make {P : Program} {w : World} {K : PySem.W.Frag} {mg : Str → Option Value} {base : Heap} {A : Around} {outer : List Env} {s : Shared} {H : Hp} (e : Env0 P w K mg base A outer s H) (C : Addr) (us : List Value) (kw : List (Str × Value)) :
  Env0 P w K mg base (A.under (.builtin "type.__call__" ⟨.ref C :: us, kw⟩)) outer s H := ⟨by first | exact e.frames | (simpa [Around.under, Code.envs, Code.isFrame, pushEnvs] using e.frames), e.mod, e.bs, e.bsz, e.funs, e.frf, e.hok, e.bare⟩
theorem Env0.in1 {P : Program} {w : World} {K : PySem.W.Frag} {mg : Str → Option Value} {base : Heap} {A : Around} {outer : List Env} {s : Shared} {H : Hp} (e : Env0 P w K mg base A outer s H) :
  Env0 P w K mg base A.in1 outer s H := ⟨e.frames, e.mod, e.bs, e.bsz, e.funs, e.frf, e.hok, e.bare⟩
section
variable {X : Cx} {pins : List (Addr × Obj)} {σ : St} {H : Hp} {s s' : Shared}
theorem Inv.env0 (I : Inv X pins σ H s) : Env0 X.prog X.w X.K X.mg X.base X.A X.stack s H :=
 ⟨I.ok.frames, I.ok.mod, I.bs, Nat.le_trans I.ok.bsz I.sz, I.stack, I.stkFree, I.hok, I.bare⟩
theorem Inv.after {Q : VK} {u : Value} (I : Inv X pins σ H s) (h : CE X.stack X.prog X.w H s Q u s') : EP X pins σ Q u s' := by
 obtain ⟨v, H', os, bare, un, hok, r, q⟩ := h
 obtain ⟨hh, g, d, t, os'⟩ := s'
 obtain rfl : os' = s.os := os
 exact ⟨v, H', I.call (h' := hh) (g' := g) (d' := d) (t' := t) (ch := []) un hok bare (fun b z => absurd z (by simp)), r, q⟩
end
def tCall (sp : Sp) (dvs : List V) (E : XK) (t : TA) : TE := fun σ H Q => t σ H fun vs H1 => sp (vs ++ dvs) H1 Q E
def Binds (K : PySem.W.Frag) (fd : FuncData) (ps : List Str) (ds : List Value) : Prop :=
 ∀ (s : Shared) (us : List Value), K.In s.heap → (us ++ ds).length = ps.length → BindsTo s fd ⟨us, []⟩ (ps.zip (us ++ ds))
theorem Binds.all {K : PySem.W.Frag} {fd : FuncData} {ps : List Str} (h : ∀ us : List Value, us.length = ps.length → bindArgs fd ⟨us, []⟩ = pure (ps.zip us)) : Binds K fd ps [] := fun s us _ hl => by
 rw [List.append_nil] at hl ⊢
 exact .of_eq (h us hl)
def Passes (CX : CXT) (X : Cx) (E : XK) : Prop := ∀ (pins : List (Addr × Obj)) (σ : St) (H : Hp) (s : Shared) (e : Value) (s' : Shared), Inv X pins σ H s → CX X.stack H s E e s' → X.xe e s'
section
variable {X : Cx} {CX : CXT} {k : Nat} {f C : Addr} {fd : FuncData} {ps : List Str} {sp : Sp} {dvs : List V} {ds : List Value} {E : XK} {x m : Str} {p pos apos : Pos} {e o : Expr} {es : List Expr} {ta : TE} {t : TA}
theorem run_fn {pins : List (Addr × Obj)} {σ : St} {H : Hp} {s : Shared} {Q : VK} {us : List Value} {vs : List V} (F : FnOk X.prog X.w X.K X.mg X.base CX k f fd ps sp) (hr : Room k X.A) (hb : Binds X.K fd ps ds) (hd : Vals dvs ds) (hx : Passes CX X E)
  (I : Inv X pins σ H s) (r : Vals vs us) (h : sp (vs ++ dvs) H Q E) : wpAny (model X.prog X.w) X.A (call (.ref f) us) (EP X pins σ Q) X.xe s := by
 have r2 : Vals (vs ++ dvs) (us ++ ds) := r.append hd
 have hl : (us ++ ds).length = ps.length := by rw [← r2.length]; exact F.len _ _ _ _ h
 refine wpAny_call (codeAny_mono (F.run X.A X.stack s H ⟨us, []⟩ (us ++ ds) (vs ++ dvs) Q E hr I.env0 (hb s us I.kIn hl) r2 h) fun r s' hq => ?_)
 cases r with
 | error e => exact hx pins σ H s e s' I hq
 | ok fl =>
  cases fl with
  | ret u => exact I.after hq
  | next => exact False.elim hq
  | brk => exact False.elim hq
  | cont => exact False.elim hq
theorem pe_call (F : FnOk X.prog X.w X.K X.mg X.base CX k f fd ps sp) (hr : Room k X.A) (hg : Gl X x) (hm : X.mg x = some (.ref f)) (hk : PySem.W.keepIn X.K (.ref f) = true) (hb : Binds X.K fd ps ds) (hd : Vals dvs ds) (hx : Passes CX X E)
  (ha : PA X (e :: es) t) (hdb : (x == ("__debug__" : Str)) = false := by decide) (he : starEach (e :: es) X.env = (false, eval e X.env) :: starEach es X.env := by rfl) (hpl : (backTo pos (starEach es X.env)).any (·.1) = false := by rfl) :
  PE X (.Call (.Name x p) (e :: es) [] pos) (tCall sp dvs E t) := by
 intro pins s σ H Q I h
 refine wpAny_Call_Name_kw (ld_glob I hg hm ?_ hdb)
 refine PySem.W.callWith_K (h₀ := X.base) I.ok.mod.kin hk (thn (ha pos pins s σ H _ I h) fun us s1 ⟨vs, H1, I1, r, q⟩ => ⟨I1.kIn, ?_⟩) he hpl
 exact run_fn F hr hb hd hx I1 r q
end
section
variable {X : Cx} {CX : CXT} {k : Nat} {f C : Addr} {fd : FuncData} {ps ks : List Str} {sp : Sp} {E : XK} {x m : Str} {p pos apos kpos : Pos} {e o : Expr} {es : List Expr} {kws : List Keyword} {te ta : TE} {t tk : TA} {nm : Option Str}
variable {g : List Value → List Value → List Value} {gV : List V → List V → List V}
end
structure FnScope (N P : List Str) (sc : Scope) : Prop where
 kind : sc.kind = .function
 co : sc.isCoroutine = false
 gen : sc.isGenerator = false
 nd : N.Nodup
 pre : N.take P.length = P
 par : ∀ x ∈ P, sc.names.lookup x = some .local ∨ sc.names.lookup x = some .cell
 nofree : ∀ y ∈ sc.names, y.2 ≠ .free
theorem bindL_out {kindOf : Str → Option NameKind} {x : Str} : ∀ {binds : List (Str × Value)} {m : Str → Option Value}, (∀ v, (x, v) ∉ binds) → bindL kindOf binds m x = m x
 | [], _, _ => rfl
 | (n, v) :: r, m, h => by
  unfold bindL
  rw [bindL_out fun w hw => h w (List.mem_cons_of_mem _ hw)]
  split
  ·have : x ≠ n := by rintro rfl; exact h v List.mem_cons_self
   simp [this]
  ·rfl
theorem bindC_out {kindOf : Str → Option NameKind} {x : Str} : ∀ {binds : List (Str × Value)} {m : Str → Option Value}, (∀ v, (x, v) ∉ binds) → bindC kindOf binds m x = m x
 | [], _, _ => rfl
 | (n, v) :: r, m, h => by
  unfold bindC
  rw [bindC_out fun w hw => h w (List.mem_cons_of_mem _ hw)]
  split
  ·rfl
  ·have : x ≠ n := by rintro rfl; exact h v List.mem_cons_self
   simp [this]
theorem bindL_get {kindOf : Str → Option NameKind} {x : Str} {v : Value} : ∀ {P : List Str} {vs : List Value} {i : Nat} {m : Str → Option Value}, P.Nodup → P[i]? = some x → vs[i]? = some v → kindOf x = some .local →
  bindL kindOf (P.zip vs) m x = some v
 | [], _, _, _, _, h, _, _ => by simp at h
 | _ :: _, [], _, _, _, _, h, _ => by simp at h
 | p :: P, w :: vs, 0, m, nd, h1, h2, hk => by
  simp at h1 h2; subst h1; subst h2
  show bindL kindOf ((p, w) :: P.zip vs) m p = _
  unfold bindL
  rw [bindL_out fun v hv => (List.nodup_cons.mp nd).1 (List.of_mem_zip hv).1, if_pos hk]
  simp
 | p :: P, w :: vs, i + 1, m, nd, h1, h2, hk => by
  show bindL kindOf ((p, w) :: P.zip vs) m x = _
  unfold bindL
  exact bindL_get (i := i) (List.nodup_cons.mp nd).2 (by simpa using h1) (by simpa using h2) hk
theorem bindC_get {kindOf : Str → Option NameKind} {x : Str} {v : Value} : ∀ {P : List Str} {vs : List Value} {i : Nat} {m : Str → Option Value}, P.Nodup → P[i]? = some x → vs[i]? = some v → kindOf x ≠ some .local →
  bindC kindOf (P.zip vs) m x = some v
 | [], _, _, _, _, h, _, _ => by simp at h
 | _ :: _, [], _, _, _, _, h, _ => by simp at h
 | p :: P, w :: vs, 0, m, nd, h1, h2, hk => by
  simp at h1 h2; subst h1; subst h2
  show bindC kindOf ((p, w) :: P.zip vs) m p = _
  unfold bindC
  rw [bindC_out fun v hv => (List.nodup_cons.mp nd).1 (List.of_mem_zip hv).1, if_neg hk]
  simp
 | p :: P, w :: vs, i + 1, m, nd, h1, h2, hk => by
  show bindC kindOf ((p, w) :: P.zip vs) m x = _
  unfold bindC
  exact bindC_get (i := i) (List.nodup_cons.mp nd).2 (by simpa using h1) (by simpa using h2) hk
def start (N : List Str) (vs : List V) : St := vs.map some ++ List.replicate (N.length - vs.length) none
def cxOf (CX : CXT) (P : Program) (w : World) (K : PySem.W.Frag) (mg : Str → Option Value) (base : Heap) (N : List Str) (qual : Str) (scope : Scope) (f : Addr) (cd : Value) (A : Around) (outer : List Env) (s : Shared) (H : Hp) (E : XK) : Cx where
 prog := P
 w := w
 K := K
 mg := mg
 base := base
 A := A.deeper (envOfC qual scope s.heap.objs.size f cd)
 N := N
 s₀ := s
 H₀ := H
 env := envOfC qual scope s.heap.objs.size f cd
 outer := outer
 stack := envOfC qual scope s.heap.objs.size f cd :: outer
 ex := []
 calm := true
 fn := fun _ => true
 pn := []
 xe := fun e s' => wpAny (model P w) (A.deeper (envOfC qual scope s.heap.objs.size f cd)) (leaving (envOfC qual scope s.heap.objs.size f cd) e) (fun _ s'' => CX outer H s E e s'') (fun e' s'' => CX outer H s E e' s'') s'
theorem cell_has {sc : Scope} {n : Nat} {x : Str} (h : sc.names.lookup x = some .cell) : ∃ c, (cellsFrom n sc.names []).lookup x = some c := by
 have q := PySem.W.cellsFrom_some sc.names n [] (.inl h)
 exact Option.isSome_iff_exists.mp q
theorem inv_start {CX : CXT} {P : Program} {w : World} {K : PySem.W.Frag} {mg : Str → Option Value} {base : Heap} {N ps : List Str} {qual : Str} {scope : Scope} {f : Addr} {cd : Value} {A : Around} {outer : List Env} {s s1 : Shared} {H : Hp} {E : XK} {us : List Value} {vs : List V}
  (S : FnScope N ps scope) (hd : A.handled = none) (e0 : Env0 P w K mg base A outer s H) (hl : vs.length = ps.length) (r : Vals vs us)
  (x : InCallC s s.heap.objs.size (bindL (envOfC qual scope s.heap.objs.size f cd).kindOf (ps.zip us) fun _ => none) (cellsFrom (s.heap.objs.size + 1) scope.names []) (bindC (envOfC qual scope s.heap.objs.size f cd).kindOf (ps.zip us) fun _ => none) s1) :
  Inv (cxOf CX P w K mg base N qual scope f cd A outer s H E) [] (start N vs) H s1 := by
 have hpl : ps.length ≤ N.length := by have := congrArg List.length S.pre; rw [List.length_take] at this; omega
 obtain ⟨h1, tk, rfl, hk⟩ := x.done
 have noA : ∀ b : Addr, b ∉ (cxOf CX P w K mg base N qual scope f cd A outer s H E).ex := fun b z => absurd (show b ∈ ([] : List Addr) from z) (by simp)
 refine ⟨⟨e0.mod, S.kind, rfl, rfl, Nat.le_refl _, fun y z c h1 h2 => ?_, fun y hy => ?_, fun y c _ h => ?_, fun _ => hd, Around.frames_deeper e0.frames, .inr ⟨rfl, rfl⟩, fun b z => absurd z (noA b), e0.bs, e0.bsz, fun b _ _ => noA b, fun b z => absurd z (noA b), e0.funs, e0.frf⟩,
  rfl, e0.bare, Un.kept hk, ⟨_, x.toInCall.ns, fun i y v h1 h2 h3 => ?_⟩, fun y c h => ⟨_, x.cell y c h⟩, e0.hok.fresh (Nat.le_refl _), fun y c h => ?_, fun p hp => absurd (show p ∈ ([] : List (Addr × Obj)) from hp) (by simp), e0.hok.kept hk, ?_⟩
 ·exact name_of_addr x.apart (PySem.mem_of_lookup h1) (PySem.mem_of_lookup h2)
 ·have hy : scope.names.lookup y = some .cell ∨ scope.names.lookup y = some .free := hy
  rcases hy with hy | hy
  ·exact cell_has hy
  ·exact absurd rfl (S.nofree _ (PySem.mem_of_lookup hy))
 ·exact Nat.le_of_lt (x.above y c (PySem.mem_of_lookup h))
 ·have hi : i < vs.length := by
   unfold start at h2
   by_cases hi : i < vs.length
   ·exact hi
   ·rw [List.getElem?_append_right (by simpa using hi)] at h2
    rw [List.getElem?_replicate] at h2
    split at h2 <;> cases h2
  have ha : vs[i]? = some v := by
   unfold start at h2
   rw [List.getElem?_append_left (by simpa using hi), List.getElem?_map] at h2
   cases e : vs[i]? with
   | none => rw [e] at h2; cases h2
   | some a => rw [e] at h2; cases h2; rfl
  obtain ⟨u, hu, rv⟩ := r.get ha
  have hp : ps[i]? = some y := by
   rw [← S.pre, List.getElem?_take_of_lt (by omega)]; exact h1
  have ndP : ps.Nodup := by rw [← S.pre]; exact S.nd.sublist (List.take_sublist _ _)
  refine ⟨u, rv, ?_⟩
  rcases S.par y (List.mem_of_getElem? hp) with k | k
  ·exact .inl ⟨k, bindL_get ndP hp hu k⟩
  ·obtain ⟨c, e⟩ := cell_has (n := s.heap.objs.size + 1) k
   refine .inr ⟨.inl k, c, e, ?_⟩
   have q := x.cell y c e
   rw [bindC_get ndP hp hu (by show scope.names.lookup y ≠ _; rw [k]; decide)] at q
   exact q
 ·exact e0.hok.fresh (Nat.le_of_lt (x.above y c (PySem.mem_of_lookup h)))
 ·unfold start
  show _ = N.length
  rw [List.length_append, List.length_map, List.length_replicate]
  omega
theorem fn_of {CX : CXT} {P : Program} {w : World} {K : PySem.W.Frag} {mg : Str → Option Value} {base : Heap} {k : Nat} {f : Addr} {name qual : Str} {params : Arguments} {body : List Stmt} {scope : Scope} {dV kV doc pm cdv ct oc : Value} {an od : Option Addr}
  {osl : Array (Option Value)} {N ps : List Str} {sp : Sp} (lk : K.lookup f = some ⟨oc, od, .func (PySem.W.fnOf name qual params body scope dV kV doc pm an cdv ct), osl⟩) (hcd : PySem.W.codeIn K cdv qual = true) (S : FnScope N ps scope)
  (len : ∀ vs H Q E, sp vs H Q E → vs.length = ps.length)
  (hbody : ∀ (A : Around) (outer : List Env) (s : Shared) (H : Hp) (vs : List V) (Q : VK) (E : XK), Room k (A.deeper (envOfC qual scope s.heap.objs.size f cdv)) → sp vs H Q E →
   ∃ t, PSs (cxOf CX P w K mg base N qual scope f cdv A outer s H E) body t ∧ t { nx := fun _ H' => Q .non H', rt := Q } (start N vs) H) :
  FnOk P w K mg base CX (k + 1) f (PySem.W.fnOf name qual params body scope dV kV doc pm an cdv ct) ps sp := by
 refine ⟨len, fun A outer s H args us vs Q E hr e0 hb r hsp => ?_⟩
 have hl := len _ _ _ _ hsp
 have KX : K.In s.heap := e0.mod.kin.keeps fun b o e => (e0.bs b o e).1
 have lim : s.heap.NoLimit := e0.mod.nolimit.keeps fun b o e => (e0.bs b o e).1
 have hkind : ∀ y ∈ ps.zip us, scope.names.lookup y.1 = some .local ∨ (scope.names.lookup y.1 = some .cell ∧ ((cellsFrom (s.heap.objs.size + 1) scope.names []).lookup y.1).isSome = true) := fun ⟨n, v⟩ hy => by
  rcases S.par n (List.of_mem_zip hy).1 with q | q
  ·exact .inl q
  ·exact .inr ⟨q, PySem.W.cellsFrom_some _ _ _ (.inl q)⟩
 refine codeAny_call_function hr.depth (KX _ _ lk) rfl S.co S.gen rfl (PySem.W.codeRec_of KX hcd) (hb _ _ _ _ ?_)
 refine wpAny_newFunctionEnv_cells S.kind hkind fun env he s1 x => ?_
 subst he
 refine ⟨lim.keeps x.toInCall.keep, codeAny_func ?_⟩
 obtain ⟨t, ht, hq⟩ := hbody A outer s H vs Q E (hr.deeper _) hsp
 have I : Inv (cxOf CX P w K mg base N qual scope f cdv A outer s H E) [] (start N vs) H s1 := inv_start S hr.hd e0 hl r x
 refine wpAny_mono (ht [] s1 (start N vs) H _ I hq) (fun fl s' hs => ?_) fun e s' hs => hs
 have fin : ∀ {σ' : St} {H' : Hp} {v : V} {u : Value}, Inv (cxOf CX P w K mg base N qual scope f cdv A outer s H E) [] σ' H' s' → RelV v u → Q v H' → CE outer P w H s Q u s' :=
  fun {σ' H' v u} J rv q => ⟨v, H', J.os, J.bare, J.base, J.hok, rv, q⟩
 cases fl with
 | ret u =>
  obtain ⟨v, σ', H', J, rv, q⟩ := hs
  exact fin J rv q
 | next =>
  obtain ⟨σ', H', J, q⟩ := hs
  exact fin (v := V.non) (u := Value.none) J rfl q
 | brk =>
  obtain ⟨_, _, _, q⟩ := hs
  exact False.elim q
 | cont =>
  obtain ⟨_, _, _, q⟩ := hs
  exact False.elim q
end L2
namespace L2
open PySem PySem.Spec PyProof.Rows
section
variable {X : Cx} {x : Str} {p pos : Pos} {e : Expr} {es : List Expr} {t : TA} {id T : String} {r : List V → Hp → VK → Prop}
def tCB (r : List V → Hp → VK → Prop) (t : TA) : TE := fun σ H Q => t σ H fun vs H1 => r vs H1 Q
theorem pe_callB (hc : CallR X (.builtin id) r) (hg : Gl X x) (hm : X.mg x = none) (hv : bootBuiltins x = some (.builtin id)) (ha : PA X (e :: es) t) (hn : x ≠ "__name__" := by decide) (hdb : (x == ("__debug__" : Str)) = false := by decide)
  (he : starEach (e :: es) X.env = (false, eval e X.env) :: starEach es X.env := by rfl) (hpl : (backTo pos (starEach es X.env)).any (·.1) = false := by rfl) : PE X (.Call (.Name x p) (e :: es) [] pos) (tCB r t) := by
 intro pins s σ H Q I h
 refine wpAny_Call_Name_kw (ld_blt I hg hm hv ?_ hn hdb)
 exact PyProof.Rows.callWith_builtin1 (thn (ha pos pins s σ H _ I h) fun us s1 ⟨vs, H1, I1, r1, q1⟩ => hc pins s1 σ H1 vs us Q I1 r1 q1) he hpl
theorem pe_callTy (hc : CallR X (.type T) r) (hg : Gl X x) (hm : X.mg x = none) (hv : bootBuiltins x = some (.type T)) (ha : PA X (e :: es) t) (hn : x ≠ "__name__" := by decide) (hdb : (x == ("__debug__" : Str)) = false := by decide)
  (he : starEach (e :: es) X.env = (false, eval e X.env) :: starEach es X.env := by rfl) (hpl : (backTo pos (starEach es X.env)).any (·.1) = false := by rfl) : PE X (.Call (.Name x p) (e :: es) [] pos) (tCB r t) := by
 intro pins s σ H Q I h
 refine wpAny_Call_Name_kw (ld_blt I hg hm hv ?_ hn hdb)
 exact PyProof.Rows.callWith_type1 (thn (ha pos pins s σ H _ I h) fun us s1 ⟨vs, H1, I1, r1, q1⟩ => hc pins s1 σ H1 vs us Q I1 r1 q1) he hpl
end
end L2
namespace HT
open PySem PyProof.Rows
section
open PySem.SeqAt
open PySem.AutoSeq1 (wpAny_loadPart')
open PySem.MeetsSeq PySem.MeetsSeq2 PySem.MeetsSeq3
end
section
variable {prog : Program} {w : World} {A : Around} {E : Value → Shared → Prop} {s : Shared}
def sIx (n d : Nat) : Option Int → Nat
 | none => d
 | some v => if v < 0 then (v + (n : Int)).toNat else min v.toNat n
theorem sIx_nat (n d k : Nat) : sIx n d (some (k : Int)) = min k n := by
 show (if (k : Int) < 0 then ((k : Int) + (n : Int)).toNat else min (k : Int).toNat n) = min k n
 rw [if_neg (by omega), Int.toNat_natCast]
end
end HT
namespace L2
open PySem PySem.Spec PyProof.Rows
abbrev TO := St → Hp → (Option Int → Hp → Prop) → Prop
def PO (X : Cx) (e : Option Expr) (t : TO) : Prop :=
 ∀ (pins : List (Addr × Obj)) (s : Shared) (σ : St) (H : Hp) (Q : Option Int → Hp → Prop), Inv X pins σ H s → t σ H Q →
  wpAny (model X.prog X.w) X.A (evalPart e X.env) (fun u s' => ∃ o H', Inv X pins σ H' s' ∧ IsPart u o ∧ Q o H') X.xe s
def tNoPart : TO := fun _ H Q => Q none H
section
variable {X : Cx} {e : Expr} {te : TE} {lo hi : Option Expr} {tl th : TO} {pos p2 : Pos}
theorem po_none : PO X none tNoPart := by
 intro pins s σ H Q I h
 rw [evalPart_none]
 exact wpAny_pure ⟨none, H, I, .none, h⟩
def SlR (X : Cx) (r : V → Option Int → Option Int → Hp → VK → Prop) : Prop :=
 ∀ (pins : List (Addr × Obj)) (s : Shared) (σ : St) (H : Hp) (x : V) (v vl vu : Value) (lo hi : Option Int) (sl : Addr) (Q : VK), Inv X pins σ H s → RelV x v → s.heap.IsSliceOf sl vl vu .none → IsPart vl lo → IsPart vu hi → r x lo hi H Q →
  ∃ T id, typeLookup (.type T) "__getitem__" = pure (some (.builtin id)) ∧ s.TypeIs v T ∧ wpAny (model X.prog X.w) X.A (getItem v (.ref sl)) (EP X pins σ Q) X.xe s
theorem SlR.or {r r' : V → Option Int → Option Int → Hp → VK → Prop} (h : SlR X r) (h' : SlR X r') : SlR X (fun x lo hi H Q => r x lo hi H Q ∨ r' x lo hi H Q) := by
 intro pins s σ H x v vl vu lo hi sl Q I rx hs pl pu q
 rcases q with q | q
 ·exact h pins s σ H x v vl vu lo hi sl Q I rx hs pl pu q
 ·exact h' pins s σ H x v vl vu lo hi sl Q I rx hs pl pu q
def tSl (r : V → Option Int → Option Int → Hp → VK → Prop) (te : TE) (tl th : TO) : TE := fun σ H Q => te σ H fun x H1 => tl σ H1 fun l H2 => th σ H2 fun u H3 => r x l u H3 Q
theorem pe_slice {r : V → Option Int → Option Int → Hp → VK → Prop} (hr : SlR X r) (he : PE X e te) (hl : PO X lo tl) (hu : PO X hi th) : PE X (.Subscript e (.Slice lo hi none p2) pos) (tSl r te tl th) := by
 intro pins s σ H Q I h
 refine Subscript_ (thn (he pins s σ H _ I h) fun v s1 ⟨x, H1, I1, r1, q1⟩ => ?_)
 refine wpAny_Slice (thn (hl pins s1 σ H1 _ I1 q1) fun vl s2 ⟨l, H2, I2, pl, q2⟩ => thn (hu pins s2 σ H2 _ I2 q2) fun vu s3 ⟨u, H3, I3, pu, q3⟩ => ?_)
 rw [evalPart_none]
 refine wpAny_pure ?_
 have I4 : Inv X pins σ H3 { s3 with heap := s3.heap.push { cls := .type "slice", data := .fields #[vl, vu, .none] } } := I3.kept (t' := s3.toks) fun b ob q => Heap.get?_push_of_some _ q
 obtain ⟨T, id, hT, ht, hg⟩ := hr pins { s3 with heap := s3.heap.push { cls := .type "slice", data := .fields #[vl, vu, .none] } } σ H3 x v vl vu l u s3.heap.objs.size Q I4 r1 (Heap.IsSliceOf.new ..) pl pu q3
 show wpAny (model X.prog X.w) X.A (subscriptTail e (.Slice lo hi none p2) v (.ref s3.heap.objs.size)) (EP X pins σ Q) X.xe { s3 with heap := s3.heap.push { cls := .type "slice", data := .fields #[vl, vu, .none] } }
 exact tail_any (ops := [.ref s3.heap.objs.size, v]) ht hT hg (by with_unfolding_all rfl)
def cutV (xs : List V) (lo hi : Option Int) : List V := (xs.drop (HT.sIx xs.length 0 lo)).take (HT.sIx xs.length xs.length hi - HT.sIx xs.length 0 lo)
theorem cutV_length (xs : List V) (lo hi : Option Int) : (cutV xs lo hi).length ≤ xs.length := by
 unfold cutV
 rw [List.length_take, List.length_drop]
 omega
end
end L2
namespace L2
open PySem PySem.Spec PyProof.Rows
def ixN (n : Nat) (i : Int) : Option Nat := if 0 ≤ i then (if i < n then some i.toNat else none) else if -(n : Int) ≤ i then some (i + n).toNat else none
def atI {α : Type} (xs : List α) (i : Int) : Option α := (ixN xs.length i).bind fun j => xs[j]?
theorem ixN_seq {n : Nat} {i : Int} {j : Nat} (h : ixN n i = some j) : seqIndex? i n = some j ∧ j < n ∧ -(n : Int) ≤ i ∧ i < n := by
 unfold ixN at h
 by_cases h0 : 0 ≤ i
 ·rw [if_pos h0] at h
  by_cases h1 : i < n
  ·rw [if_pos h1] at h
   have e : i.toNat = j := Option.some.inj h
   exact ⟨by rw [seqIndex_of h0 h1, e], by omega, by omega, h1⟩
  ·rw [if_neg h1] at h; cases h
 ·rw [if_neg h0] at h
  by_cases h1 : -(n : Int) ≤ i
  ·rw [if_pos h1] at h
   have e : (i + n).toNat = j := Option.some.inj h
   exact ⟨by rw [seqIndex_neg (by omega) h1, e], by omega, h1, by omega⟩
  ·rw [if_neg h1] at h; cases h
theorem atI_get {α : Type} {xs : List α} {i : Int} {v : α} (h : atI xs i = some v) : ∃ j, seqIndex? i xs.length = some j ∧ xs[j]? = some v ∧ j < xs.length ∧ -(xs.length : Int) ≤ i ∧ i < xs.length := by
 unfold atI at h
 cases e : ixN xs.length i with
 | none => rw [e] at h; cases h
 | some j =>
  rw [e] at h
  obtain ⟨h1, h2, h3, h4⟩ := ixN_seq e
  exact ⟨j, h1, h, h2, h3, h4⟩
theorem atI_nat {α : Type} {xs : List α} {j : Nat} {v : α} (h : xs[j]? = some v) : atI xs (j : Int) = some v := by
 have hj : j < xs.length := (List.getElem?_eq_some_iff.mp h).1
 have e : ixN xs.length (j : Int) = some j := by
  unfold ixN
  rw [if_pos (by omega), if_pos (by omega)]; simp
 unfold atI; rw [e]; exact h
theorem atI_last {α : Type} (xs : List α) (v : α) : atI (xs ++ [v]) (-1) = some v := by
 have hl : (xs ++ [v]).length = xs.length + 1 := by simp
 have e : ixN (xs ++ [v]).length (-1) = some xs.length := by
  unfold ixN
  rw [hl, if_neg (by decide), if_pos (by omega)]
  congr 1
  omega
 unfold atI
 rw [e]
 show (xs ++ [v])[xs.length]? = some v
 simp
def PlainIx (b : Expr) : Prop := ∀ o i, subscripted b false o i = operate [o, i] (getItem o i)
def IxR (X : Cx) (r : R2) : Prop :=
 ∀ (value slice : Expr) (pins : List (Addr × Obj)) (s : Shared) (σ : St) (H : Hp) (x y : V) (v u : Value) (Q : VK), Inv X pins σ H s → RelV x v → RelV y u → r x y H Q →
  subscripted slice false v u = operate [v, u] (getItem v u) → wpAny (model X.prog X.w) X.A (subscriptTail value slice v u) (EP X pins σ Q) X.xe s
section
variable {X : Cx} {a b : Expr} {ta tb : TE} {pos : Pos}
theorem IxR.or {r r' : R2} (h : IxR X r) (h' : IxR X r') : IxR X (fun x y H Q => r x y H Q ∨ r' x y H Q) := by
 intro value slice pins s σ H x y v u Q I rx ry q hs
 rcases q with q | q
 ·exact h value slice pins s σ H x y v u Q I rx ry q hs
 ·exact h' value slice pins s σ H x y v u Q I rx ry q hs
theorem pe_ix {r : R2} (hr : IxR X r) (ha : PE X a ta) (hb : PE X b tb) (hs : PlainIx b) : PE X (.Subscript a b pos) (tOp r ta tb) := by
 intro pins s σ H Q I h
 exact Subscript_ (binT ha hb I h fun v u s2 x y H2 I2 rx ry q => hr a b pins s2 σ H2 x y v u Q I2 rx ry q (hs _ _))
def rIxL (K : PySem.W.Frag) : R2 := fun x y H Q => ∃ p xs i v, x = .ref p ∧ y = .int i ∧ SqL K H p xs ∧ atI xs i = some v ∧ Q v H
def rIxT (K : PySem.W.Frag) : R2 := fun x y H Q => ∃ p xs i v, x = .ref p ∧ y = .int i ∧ SqT K H p xs ∧ atI xs i = some v ∧ Q v H
def rIxS : R2 := fun x y H Q => ∃ z i c, x = .str z ∧ y = .int i ∧ z.length ≤ sizeLine ∧ atI z.cps.toList i = some c ∧ Q (.str ⟨#[c]⟩) H
theorem ix_list : IxR X (rIxL X.K) := by
 intro value slice pins s σ H x y v u Q I rx ry h hs
 obtain ⟨p, xs, i, z, rfl, rfl, hq, he, q⟩ := h
 cases rx
 obtain ⟨t, rfl⟩ := ry
 obtain ⟨its, r, pl, hz⟩ := I.list hq
 obtain ⟨j, h1, h2, h3, h4, h5⟩ := atI_get he
 obtain ⟨w, ew, rw'⟩ := r.get h2
 have hl := r.length
 have hn := line63
 have fin : EP X pins σ Q w s := ⟨z, H, I, rw', q⟩
 by_cases h0 : 0 ≤ i
 ·have hj : i.toNat = j := by
   rw [seqIndex_of h0 h5] at h1
   exact Option.some.inj h1
  exact item_listR pl.isList h0 (by omega) (by rw [hj]; simpa using ew) fin hs
 ·have hj : (i + (its.toArray.size : Int)).toNat = j := by
   rw [seqIndex_neg (by omega) h4] at h1
   rw [List.size_toArray, ← hl]
   exact Option.some.inj h1
  exact subscriptTail_builtinR (x := w) pl.isList.typeIs slot_list_getitem.lookup
   (wpAny_getItem_list_neg (Q := fun r s' => r = w ∧ EP X pins σ Q r s') pl.isList (by omega) (by rw [List.size_toArray] <;> omega) (by omega) (by rw [hj]; simpa using ew) ⟨rfl, fin⟩) hs
theorem ix_tup : IxR X (rIxT X.K) := by
 intro value slice pins s σ H x y v u Q I rx ry h hs
 obtain ⟨p, xs, i, z, rfl, rfl, hq, he, q⟩ := h
 cases rx
 obtain ⟨t, rfl⟩ := ry
 obtain ⟨its, r, pl, hz⟩ := I.tuple hq
 obtain ⟨j, h1, h2, h3, h4, h5⟩ := atI_get he
 obtain ⟨w, ew, rw'⟩ := r.get h2
 have hl := r.length
 have hn := line63
 have fin : EP X pins σ Q w s := ⟨z, H, I, rw', q⟩
 exact subscriptTail_builtinR (x := w) pl.typeIs slot_tuple_getitem.lookup
  (getItem_tuple (j := j) (Q := fun r s' => r = w ∧ EP X pins σ Q r s') pl (by omega) (by omega) (by rw [List.size_toArray, ← hl]; exact h1) (by simpa using ew) ⟨rfl, fin⟩) hs
theorem ix_str : IxR X rIxS := by
 intro value slice pins s σ H x y v u Q I rx ry h hs
 obtain ⟨z, i, c, rfl, rfl, hz, he, q⟩ := h
 obtain ⟨t, rfl⟩ := rx
 obtain ⟨t', rfl⟩ := ry
 obtain ⟨j, h1, h2, h3, h4, h5⟩ := atI_get he
 have hl : z.cps.toList.length = z.length := by simp [Str.length]
 rw [hl] at h1 h4 h5
 have hn := line63
 exact tail_any (typeIs_str s z t) slot_str_getitem.lookup (getItem_str (c := c) (by
  have e1 : decide (i < -(2 ^ 63 : Int)) = false := decide_eq_false (by omega)
  have e2 : decide (i ≥ 2 ^ 63) = false := decide_eq_false (by omega)
  rw [e1, e2, Bool.or_false]) (by rw [h1]; simpa using h2) ⟨.str ⟨#[c]⟩, H, I.tok _, ⟨_, rfl⟩, q⟩) hs
def rIx (K : PySem.W.Frag) : R2 := fun x y H Q => rIxL K x y H Q ∨ rIxT K x y H Q ∨ rIxS x y H Q
theorem ix_seq : IxR X (rIx X.K) := ix_list.or (ix_tup.or ix_str)
theorem mapSeq_set (its : List Value) (n j : Nat) (u : Value) : Obj.mapSeq (·.setIfInBounds j u) { cls := .type "list", data := .seq its.toArray n } = { cls := .type "list", data := .seq (its.set j u).toArray n } := by
 simp [Obj.mapSeq]
theorem Inv.lst {pins : List (Addr × Obj)} {σ : St} {H : Hp} {s : Shared} {p : Addr} {xs : List V} (I : Inv X pins σ H s) (h : H p = some (.lst xs)) :
  ∃ (its : List Value) (n : Nat), Vals xs its ∧ s.heap.get? p = some { cls := .type "list", data := .seq its.toArray n } ∧ xs.length ≤ sizeLine := by
 obtain ⟨z, its, n, r, e⟩ := I.hok p _ h
 exact ⟨its, n, r, e, z⟩
theorem Inv.lstUpd {pins : List (Addr × Obj)} {σ : St} {H : Hp} {s : Shared} {p : Addr} {xs ys : List V} {its its' : List Value} {n n' : Nat} {f : Obj → Obj} (I : Inv X pins σ H s) (h : H p = some (.lst xs))
  (ho : s.heap.get? p = some { cls := .type "list", data := .seq its.toArray n }) (hf : f { cls := .type "list", data := .seq its.toArray n } = { cls := .type "list", data := .seq its'.toArray n' }) (r : Vals ys its') (hz : ys.length ≤ sizeLine) (t : Nat) :
  Inv X pins σ (upd H p (.lst ys)) { s with heap := s.heap.update p f, toks := t } := by
 have e : (s.heap.update p f).get? p = some { cls := .type "list", data := .seq its'.toArray n' } := by
  rw [Heap.get?_update_self f ho (by rw [hf] <;> rfl), hf]
 refine I.write (x := p) (e := p) (by rw [h]; trivial) (.inl rfl) (fun b u hb q => (Heap.get?_update_other _ _ (Ne.symm hb)).trans q) ⟨_, e⟩ ?_
 exact ⟨hz, its', n', r, e⟩
def rSetL : V → V → V → Hp → (Hp → Prop) → Prop := fun o i v H Q => ∃ p xs k j, o = .ref p ∧ i = .int k ∧ H p = some (.lst xs) ∧ ixN xs.length k = some j ∧ Q (upd H p (.lst (xs.set j v)))
theorem set_list : PSet X rSetL := by
 intro pins s σ H o i v ov iv u Q I ro ri rv h
 obtain ⟨p, xs, k, j, rfl, rfl, hp, hj, q⟩ := h
 cases ro
 obtain ⟨t, rfl⟩ := ri
 obtain ⟨its, n, r, ho, hz⟩ := I.lst hp
 obtain ⟨h1, h2, h3, h4⟩ := ixN_seq hj
 have hl := r.length
 have hn := line63
 have I' : Inv X pins σ (upd H p (.lst (xs.set j v))) { s with heap := s.heap.update p (Obj.mapSeq (·.setIfInBounds j u)) } :=
  I.lstUpd hp ho (mapSeq_set its n j u) (r.set rv j) (by rw [List.length_set]; exact hz) s.toks
 by_cases h0 : 0 ≤ k
 ·have hk : k.toNat = j := by
   rw [seqIndex_of h0 h4] at h1
   exact Option.some.inj h1
  exact PySem.W.ki_setAt ho h0 (by omega) (by rw [List.size_toArray, ← hl]; exact h4) (by rw [hk]; exact ⟨_, I', q⟩)
 ·have hk : (k + (its.toArray.size : Int)).toNat = j := by
   rw [seqIndex_neg (by omega) h3] at h1
   rw [List.size_toArray, ← hl]
   exact Option.some.inj h1
  exact PySem.W.ki_setBack ho (by omega) (by rw [List.size_toArray, ← hl]; exact h3) (by omega) (by rw [hk]; exact ⟨_, I', q⟩)
theorem slice_bounds (lo hi : Option Int) (n : Nat) : (sliceBounds lo hi none n).1 = ((HT.sIx n 0 lo : Nat) : Int) ∧ (sliceBounds lo hi none n).2.1 = ((HT.sIx n n hi : Nat) : Int) ∧ (sliceBounds lo hi none n).2.2 = 1 := by
 refine ⟨?_, ?_, rfl⟩
 ·cases lo with
  | none => simp [sliceBounds, HT.sIx]
  | some i =>
   simp only [sliceBounds, HT.sIx, Option.getD_none, show (1 : Int) > 0 by decide, if_true]
   by_cases h : i < 0
   ·simp only [h, if_true] <;> omega
   ·simp only [h, if_false] <;> omega
 ·cases hi with
  | none => simp [sliceBounds, HT.sIx]
  | some i =>
   simp only [sliceBounds, HT.sIx, Option.getD_none, show (1 : Int) > 0 by decide, if_true]
   by_cases h : i < 0
   ·simp only [h, if_true] <;> omega
   ·simp only [h, if_false] <;> omega
theorem slicePick_cut (its : List Value) (lo hi : Option Int) : slicePick its.toArray lo hi none = ((its.drop (HT.sIx its.length 0 lo)).take (HT.sIx its.length its.length hi - HT.sIx its.length 0 lo)).toArray := by
 obtain ⟨h1, h2, h3⟩ := slice_bounds lo hi its.toArray.size
 unfold slicePick
 rw [h1, h2, h3]
 simp only [sliceRange_one, pick_run, List.size_toArray] <;> rfl
def rSlL (K : PySem.W.Frag) : V → Option Int → Option Int → Hp → VK → Prop := fun x lo hi H Q => ∃ a xs, x = .ref a ∧ SqL K H a xs ∧ ∀ p, H p = none → Q (.ref p) (upd H p (.lst (cutV xs lo hi)))
theorem sl_list : SlR X (rSlL X.K) := by
 intro pins s σ H x v vl vu lo hi sl Q I rx hs pl pu h
 obtain ⟨a, xs, rfl, hx, q⟩ := h
 cases rx
 obtain ⟨its, r, ht, hz⟩ := I.list hx
 have hlen := r.length
 refine ⟨"list", _, slot_list_getitem.lookup, ht.isList.typeIs, ?_⟩
 refine wpAny_getItem_list_slice ht.isList hs pl pu .none (by simp) ?_ (by rw [List.size_toArray] <;> omega)
 rw [slicePick_cut, ← hlen]
 refine ⟨.ref s.heap.objs.size, _, I.laid (t' := s.toks) (o := .lst (cutV xs lo hi)) (fun b ob q => Heap.get?_push_of_some _ q) (Nat.le_refl _) ?_, rfl, q _ (I.hok.fresh (Nat.le_refl _))⟩
 exact ⟨Nat.le_trans (cutV_length xs lo hi) hz, _, 0, (r.drop (HT.sIx xs.length 0 lo)).take (HT.sIx xs.length xs.length hi - HT.sIx xs.length 0 lo), Heap.get?_push_size _ rfl⟩
theorem call_len_seq : CallR X (.builtin "len") (fun xs H Q => ∃ p ys, xs = [.ref p] ∧ (SqL X.K H p ys ∨ SqT X.K H p ys) ∧ Q (.int ys.length) H) := by
 intro pins s σ H xs us Q I r h
 obtain ⟨p, ys, rfl, hq, q⟩ := h
 obtain ⟨u, rfl, rx⟩ := vals1 r
 cases rx
 have hn := line63
 rcases hq with hq | hq
 ·obtain ⟨its, r', pl, hz⟩ := I.list hq
  have hlen := r'.length
  exact Calls.call_len_list pl.isList (by simp only [List.size_toArray] <;> omega) ⟨.int ys.length, H, I.tok _, ⟨s.toks + 1, by rw [List.size_toArray, hlen]⟩, q⟩
 ·obtain ⟨its, r', pl, hz⟩ := I.tuple hq
  have hlen := r'.length
  exact len_tuple pl (by simp only [List.size_toArray] <;> omega) ⟨.int ys.length, H, I.tok _, ⟨s.toks + 1, by rw [List.size_toArray, hlen]⟩, q⟩
theorem call_len_str : CallR X (.builtin "len") (fun xs H Q => ∃ z, xs = [.str z] ∧ z.length ≤ sizeLine ∧ Q (.int z.length) H) := by
 intro pins s σ H xs us Q I r h
 obtain ⟨z, rfl, hz, q⟩ := h
 obtain ⟨u, rfl, t, rfl⟩ := vals1 r
 have hn := line63
 exact len_str (by omega) ⟨.int z.length, H, I.tok _, ⟨_, rfl⟩, q⟩
theorem CallR.or {f : Value} {r r' : List V → Hp → VK → Prop} (h : CallR X f r) (h' : CallR X f r') : CallR X f (fun xs H Q => r xs H Q ∨ r' xs H Q) := by
 intro pins s σ H xs us Q I rs q
 rcases q with q | q
 ·exact h pins s σ H xs us Q I rs q
 ·exact h' pins s σ H xs us Q I rs q
theorem call_list_of : CallR X (.type "list") (fun xs H Q => ∃ p ys, xs = [.ref p] ∧ (SqL X.K H p ys ∨ SqT X.K H p ys) ∧ ∀ l, H l = none → Q (.ref l) (upd H l (.lst ys))) := by
 intro pins s σ H xs us Q I r h
 obtain ⟨p, ys, rfl, hq, q⟩ := h
 obtain ⟨u, rfl, rx⟩ := vals1 r
 cases rx
 have fin : ∀ (its : List Value), Vals ys its → ys.length ≤ sizeLine → ∀ (h' : Heap) (c' : Nat), (∀ b o', s.heap.get? b = some o' → h'.get? b = some o') →
   h'.get? s.heap.objs.size = some { cls := .type "list", dict := none, data := .seq its.toArray c', slots := #[] } → EP X pins σ Q (.ref s.heap.objs.size) { s with heap := h' } := fun its r' hz h' c' kp e =>
  ⟨.ref s.heap.objs.size, _, I.laid (t' := s.toks) kp (Nat.le_refl _) (show ObjOk X.prog X.w _ h' _ (.lst ys) from ⟨hz, its, c', r', e⟩), rfl, q _ (I.hok.fresh (Nat.le_refl _))⟩
 rcases hq with hq | hq
 ·obtain ⟨its, r', pl, hz⟩ := I.list hq
  have hlen := r'.length
  obtain ⟨o, ho, hc, n, hd⟩ := pl.isList
  exact call_list_seq p (.inl rfl) ho hc hd (fun h' c' kp e => fin its r' hz h' c' kp e) (by simp only [List.size_toArray] <;> omega)
 ·obtain ⟨its, r', pl, hz⟩ := I.tuple hq
  have hlen := r'.length
  obtain ⟨o, ho, hc, n, hd⟩ := pl
  exact call_list_seq p (.inr rfl) ho hc hd (fun h' c' kp e => fin its r' hz h' c' kp e) (by simp only [List.size_toArray] <;> omega)
def tyV (K : PySem.W.Frag) (T : String) (x : V) (H : Hp) : Prop := match x with
 | .str _ => T = "str"
 | .int _ => T = "int"
 | .ref p => (T = "list" ∧ ∃ xs, SqL K H p xs) ∨ (T = "tuple" ∧ ∃ o, K.lookup p = some o ∧ o.cls = .type "tuple" ∧ o.dict = none) ∨
   (T = "dict" ∧ ((∃ kvs, H p = some (.dK kvs)) ∨ ∃ kvs, H p = some (.dT kvs))) ∨ (T = "set" ∧ ∃ S n, H p = some (.set S n))
 | _ => False
theorem tyV_is {pins : List (Addr × Obj)} {σ : St} {H : Hp} {s : Shared} {T : String} {x : V} {v : Value} (I : Inv X pins σ H s) (r : RelV x v) (ty : tyV X.K T x H) :
  s.TypeIs v T ∧ ∀ a, v = .ref a → ∃ ob, s.heap.get? a = some ob ∧ ob.dict = none := by
 cases x with
 | str z =>
  obtain ⟨t, rfl⟩ := r
  cases (show T = "str" from ty)
  exact ⟨typeIs_str s z t, fun _ e => nomatch e⟩
 | int i =>
  obtain ⟨t, rfl⟩ := r
  cases (show T = "int" from ty)
  exact ⟨typeIs_int s i t, fun _ e => nomatch e⟩
 | ref p =>
  cases r
  rcases ty with ⟨rfl, xs, hq⟩ | ⟨rfl, o, hk, hc, hd⟩ | ⟨rfl, hk⟩ | ⟨rfl, S, n, hk⟩
  ·obtain ⟨its, _, pl, _⟩ := I.list hq
   refine ⟨pl.isList.typeIs, fun a e => ?_⟩
   cases e
   obtain ⟨o, n, e, c, hd, _⟩ := pl
   exact ⟨o, e, hd⟩
  ·refine ⟨⟨o, I.kIn p o hk, hc⟩, fun a e => ?_⟩
   cases e
   exact ⟨o, I.kIn _ o hk, hd⟩
  ·have z : ∃ o, s.heap.get? p = some o ∧ o.ExactDict := by
    rcases hk with ⟨kvs, hk⟩ | ⟨kvs, hk⟩
    ·obtain ⟨_, _, _, _, o, _, _, e, ex, _⟩ := I.hok p _ hk
     exact ⟨o, e, ex⟩
    ·obtain ⟨_, _, _, _, o, _, _, e, ex, _⟩ := I.hok p _ hk
     exact ⟨o, e, ex⟩
   obtain ⟨o, e, ex⟩ := z
   refine ⟨⟨o, e, ex.1⟩, fun a e2 => ?_⟩
   cases e2
   exact ⟨o, e, ex.2.1⟩
  ·obtain ⟨o, _, _, _, e, ex, _⟩ := I.hok p _ hk
   refine ⟨⟨o, e, ex.1⟩, fun a e2 => ?_⟩
   cases e2
   exact ⟨o, e, ex.2.1⟩
 | _ => exact False.elim ty
variable {o e : Expr} {es : List Expr} {to : TE} {t : TA} {name : Str} {apos cpos : Pos} {T id : String} {r : V → List V → Hp → VK → Prop}
/- xs.append(e), list.index on a module's tuple .. are MtR facts of 06m -/
end
end L2
namespace L2
open PySem PySem.Spec PyProof.Rows
def MtM (X : Cx) (id : String) (r : V → List V → Hp → VK → Prop) : Prop :=
 ∀ (pins : List (Addr × Obj)) (s : Shared) (σ : St) (H : Hp) (x : V) (xs : List V) (v : Value) (us : List Value) (Q : VK), Inv X pins σ H s → RelV x v → Vals xs us → r x xs H Q →
  wpAny (model X.prog X.w) X.A (call (.builtin id) (v :: us)) (EP X pins σ Q) X.xe s
theorem Vals.one : ∀ {x : V} {us : List Value}, Vals [x] us → ∃ u, us = [u] ∧ RelV x u
 | _, _, .cons r .nil => ⟨_, rfl, r⟩
theorem Vals.zero : ∀ {us : List Value}, Vals [] us → us = []
 | _, .nil => rfl
theorem Vals.reverse {xs : List V} {us : List Value} (h : Vals xs us) : Vals xs.reverse us.reverse := by
 induction h with
 | nil => exact .nil
 | cons r t ih => rw [List.reverse_cons, List.reverse_cons]; exact Vals.append ih (.cons r .nil)
theorem Vals.rep {xs : List V} {us : List Value} (h : Vals xs us) : ∀ k : Nat, Vals (List.replicate k xs).flatten (List.replicate k us).flatten
 | 0 => .nil
 | k + 1 => by
  rw [List.replicate_succ, List.replicate_succ, List.flatten_cons, List.flatten_cons]
  exact Vals.append h (Vals.rep h k)
theorem foldl_rep (its : List Value) : ∀ (k : Nat) (acc : List Value),
  List.foldl (fun x1 x2 => x1 ++ x2) acc.toArray (List.replicate k its.toArray) = (acc ++ (List.replicate k its).flatten).toArray
 | 0, acc => by simp
 | k + 1, acc => by
  have e : acc.toArray ++ its.toArray = (acc ++ its).toArray := by simp
  have e2 : (acc ++ its) ++ (List.replicate k its).flatten = acc ++ (List.replicate (k + 1) its).flatten := by
   rw [List.replicate_succ, List.flatten_cons, List.append_assoc]
  rw [← e2, ← foldl_rep its k (acc ++ its), ← e, List.replicate_succ, List.foldl_cons]
section
variable {X : Cx} {pins : List (Addr × Obj)} {σ : St} {H : Hp} {s : Shared} {l b : Addr} {xs ys zs : List V}
theorem Inv.lset {its its' : List Value} {n : Nat} {f : Array Value → Array Value} {t' : Nat} (I : Inv X pins σ H s) (hH : H l = some (.lst xs))
  (e : s.heap.get? l = some { cls := .type "list", data := .seq its.toArray n }) (hf : f its.toArray = its'.toArray) (hv : Vals ys its') (hz : ys.length ≤ sizeLine) :
  Inv X pins σ (upd H l (.lst ys)) { s with heap := s.heap.update l (Obj.mapSeq f), toks := t' } := by
 have q := PySem.IsL.update e f
 rw [hf] at q
 refine I.write (x := l) (e := l) (by rw [hH]; exact trivial) (.inl rfl) (fun b' u hb hu => (Heap.get?_update_other s.heap (Obj.mapSeq f) (Ne.symm hb)).trans hu) ⟨_, q⟩ ?_
 exact ⟨hz, its', _, hv, q⟩
theorem Inv.lnew {its : List Value} {t' : Nat} (I : Inv X pins σ H s) (hv : Vals ys its) (hz : ys.length ≤ sizeLine) :
  Inv X pins σ (upd H s.heap.objs.size (.lst ys)) { s with heap := s.heap.push { cls := .type "list", data := .seq its.toArray }, toks := t' } :=
 I.laid (fun _ _ q => Heap.get?_push_of_some _ q) (Nat.le_refl _) ⟨hz, its, 0, hv, Heap.get?_push_size _ rfl⟩
theorem Inv.fresh (I : Inv X pins σ H s) : H s.heap.objs.size = none := I.hok.fresh (Nat.le_refl _)
theorem Inv.lstM (I : Inv X pins σ H s) (hH : H l = some (.lst xs)) : xs.length ≤ sizeLine ∧ ∃ (its : List Value) (n : Nat), Vals xs its ∧ xs.length = its.length ∧ s.heap.get? l = some { cls := .type "list", data := .seq its.toArray n } := by
 obtain ⟨z, its, n, r, e⟩ := I.hok l _ hH
 exact ⟨z, its, n, r, r.length, e⟩
theorem notLongL {n : Nat} (h : n ≤ sizeLine) : Builtin.List.listTooLong n = false := by
 unfold Builtin.List.listTooLong
 exact decide_eq_false (by omega)
end
section
variable {X : Cx}
def rAppend : V → List V → Hp → VK → Prop := fun x vs H Q => ∃ l xs y, x = .ref l ∧ vs = [y] ∧ H l = some (.lst xs) ∧ xs.length < sizeLine ∧ Q .non (upd H l (.lst (xs ++ [y])))
theorem mt_append : MtM X "list.append" rAppend := by
 intro pins s σ H x vs v us Q I rx rv h
 obtain ⟨l, xs, y, rfl, rfl, hH, hz, q⟩ := h
 cases rx
 obtain ⟨u, rfl, ru⟩ := rv.one
 obtain ⟨z, its, n, r, hl, e⟩ := I.lstM hH
 refine call_meets F.slot_list_append ⟨_, e, rfl⟩ F.entry_list_append (F.args_list_append_2 _ _) (PySem.list_append l its.toArray n u (by rw [List.size_toArray]; omega)) ⟨e, ?_⟩
 refine ⟨.non, _, I.lset (its' := its ++ [u]) hH e (by simp) (r.append (.cons ru .nil)) ?_, rfl, q⟩
 rw [List.length_append, List.length_singleton]
 omega
def rCat : R2 := fun x y H Q => ∃ l b xs zs, x = .ref l ∧ y = .ref b ∧ H l = some (.lst xs) ∧ H b = some (.lst zs) ∧ xs.length + zs.length ≤ sizeLine ∧ ∀ p, H p = none → Q (.ref p) (upd H p (.lst (xs ++ zs)))
theorem op_cat : OpR X (binaryOp .Add) rCat := by
 intro pins s σ H x y v u Q I rx ry h
 obtain ⟨l, b, xs, zs, rfl, rfl, hH, hB, hz, q⟩ := h
 cases rx
 cases ry
 obtain ⟨z, its, n, r, hl, e⟩ := I.lstM hH
 obtain ⟨z2, its2, n2, r2, hl2, e2⟩ := I.lstM hB
 refine PySem.P.add_list e e2 ?_ (by rw [List.size_toArray, List.size_toArray]; omega)
 have ea : its.toArray ++ its2.toArray = (its ++ its2).toArray := by simp
 rw [ea]
 exact ⟨.ref _, _, I.lnew (t' := s.toks) (r.append r2) (by rw [List.length_append]; omega), rfl, q _ I.fresh⟩
def rRep : R2 := fun x y H Q => ∃ l k xs, x = .ref l ∧ y = .int k ∧ H l = some (.lst xs) ∧ -(2 ^ 63) ≤ k ∧ k < 2 ^ 63 ∧ xs.length * k.toNat ≤ sizeLine ∧
 ∀ p, H p = none → Q (.ref p) (upd H p (.lst (List.replicate k.toNat xs).flatten))
theorem len_rep {α : Type} (xs : List α) (k : Nat) : (List.replicate k xs).flatten.length = k * xs.length := by
 induction k with
 | zero => simp
 | succ k ih => rw [List.replicate_succ, List.flatten_cons, List.length_append, ih, Nat.succ_mul, Nat.add_comm]
theorem op_rep : OpR X (binaryOp .Mult) rRep := by
 intro pins s σ H x y v u Q I rx ry h
 obtain ⟨l, k, xs, rfl, rfl, hH, h1, h2, hz, q⟩ := h
 cases rx
 obtain ⟨t, rfl⟩ := ry
 obtain ⟨z, its, n, r, hl, e⟩ := I.lstM hH
 have hlen : its.toArray.size * k.toNat ≤ sizeLine := by rw [List.size_toArray, ← hl]; exact hz
 have hcap : ¬ its.toArray.size * k.toNat > (2 ^ 63 - 1) / 8 := by
  have : (sizeLine : Nat) ≤ (2 ^ 63 - 1) / 8 := by decide
  omega
 have hfit : ¬ (!Builtin.List.listFitsIndex k) = true := by
  rw [fitsIndex_both h1 h2]
  exact Bool.false_ne_true
 have hlong : ¬ Builtin.List.listTooLong (its.toArray.size * k.toNat) = true := by
  rw [notLongL hlen]
  exact Bool.false_ne_true
 have hnew : List.foldl (fun x1 x2 => x1 ++ x2) #[] (List.replicate (if its.toArray.isEmpty = true then 0 else k.toNat) its.toArray) = (List.replicate k.toNat its).flatten.toArray := by
  have f0 : ∀ m : Nat, List.foldl (fun x1 x2 => x1 ++ x2) #[] (List.replicate m its.toArray) = (List.replicate m its).flatten.toArray := fun m => by
   have := foldl_rep its m []
   rw [List.nil_append] at this
   exact this
  rw [f0]
  cases its with
  | nil => simp
  | cons a r' => rw [if_neg (by simp)]
 refine wpAny_binaryOp_repeat_ref (T := "list") (U := "int") (by decide) ⟨_, e, rfl⟩ (fun s' => typeIs_int s' k t) noFill_list_mul F.fills_int_mul F.slot_int_rmul repeat_list F.slot_int_index.lookup
  (call_meets F.slot_int_rmul (typeIs_int s k t) F.entry_int_rmul (F.args_int_rmul_2 _ _) (int___rmul___int_list k t l its.toArray n)
   ⟨e, rfl, ⟨_, e, rfl⟩, call_meets F.slot_list_mul ⟨_, e, rfl⟩ F.entry_list_mul (F.args_list_mul_2 _ _) (AutoListH.list___mul___list_int_3 l its.toArray n k t hfit hcap hlong) ⟨e, ?_⟩⟩)
 rw [hnew]
 exact ⟨.ref _, _, I.lnew (t' := s.toks) (r.rep k.toNat) (by rw [len_rep, Nat.mul_comm]; exact hz), rfl, q _ I.fresh⟩
end
section
variable {prog : Program} {w : World} {A : Around} {E : Value → Shared → Prop} {s : Shared}
set_option maxRecDepth 100000 in
end
section
variable {X : Cx}
end
end L2
namespace Att
open PySem PySem.W PySem.Calls PyProof.Rows
theorem ints_of_wellAll {P : Params} {h : Heap} : ∀ (ns : List Int) (vs : List Value), WellAll P h vs (ns.map WData.int) → IntsAre vs ns := by
 intro ns
 induction ns with
 | nil =>
  intro vs w
  rw [List.map_nil] at w
  cases w
  exact .nil
 | cons n ns ih =>
  intro vs w
  rw [List.map_cons] at w
  cases w with
  | cons a b =>
   cases a
   exact .cons _ _ (ih _ b)
theorem script_of {l : OpenLaw} {n : Nat} (hn : l.most = some n) {P : Params} {h : Heap} {args : List WData} {vals : List Value}
  (hpre : l.row.toRowW.claim.pre args = true) (hwl : WellAll P h vals args) :
  ∃ a vs ns, vals = [Value.ref a] ∧ args = [WData.list (ns.map WData.int)] ∧ h.get? a = some { cls := .type "list", data := .seq vs.toArray } ∧ IntsAre vs ns ∧ ns.length ≤ n := by
 have hsh : WShape.hasAll [] args [.list .int] = true := (pre_splitW hpre).1
 have hc : l.pre.holds [] { args := args } = true := (pre_splitW hpre).2
 obtain ⟨d, r, rfl, h1, h2⟩ := hasAllW_cons hsh
 obtain rfl := hasAllW_nil h2
 obtain ⟨xs, rfl, h3⟩ := hasW_list h1
 obtain ⟨ns, rfl⟩ := items_int h3
 have hlen : ns.length ≤ n := by
  unfold OpenLaw.pre at hc
  have h4 : (WTm.not (.lt (.lit (.int (n : Int))) (.len (.arg 0)))).holds [] { args := [.list (ns.map .int)] } = true := by
   have h4 := (holds_andW hc).1
   rw [hn] at h4
   exact h4
  have h5 := condW_of h4 (w_not (w_lt w_lit (w_len_list (w_arg rfl))))
  rw [List.length_map] at h5
  refine Nat.le_of_not_lt fun q => ?_
  have q' : (n : Int) < ((ns.length : Nat) : Int) := by omega
  first
   | (rw [decide_eq_true q'] at h5; exact absurd h5 (by decide))
   | (simp at h5; omega)
 cases hwl with
 | cons w1 w2 =>
  cases w2
  cases w1 with
  | list ho hall => exact ⟨_, _, ns, rfl, rfl, ho, ints_of_wellAll ns _ hall, hlen⟩
theorem post_true (l : OpenLaw) (args : List WData) : l.row.toRowW.claim.post args (.bool true) args = true :=
 postW_of (r := l.row.toRowW) (X := (true == true))
  (show WShape.has [] (.bool true) .bool = true by first | rfl | decide | simp [WShape.has, WShape.arms, WShape.armsAll])
  (show (WTm.eq .res (.lit (.bool true))).value [] { args := args, res := some (.bool true), after := args } = some (.bool (true == true)) from w_eq_bool (w_res rfl) w_lit) rfl
theorem attach_call {l : OpenLaw} {n : Nat} {q : Program} {loose : List Str} {XP : (Str → Option Value) → Heap → Prop} {YP : World → Heap → Prop} {d : DefRec}
  (hn : l.most = some n) (hdf : d.params.defaults = [])
  (call : ∀ (w : World) (s₀ s₁ : Shared) (mg mb : Str → Option Value) (fa : Addr) (o : Obj) (pm cd doc : Value) (a : Addr) (vs : List Value) (ns : List Int),
   Ground q loose [] XP w s₀ mg mb s₁.heap → YP w s₁.heap →
   s₁.heap.get? fa = some o → o.data = .func (docDef d.name d.params d.body d.scope pm cd doc) → s₁.heap.CodeRec cd d.name → mg d.name = some (.ref fa) →
   s₁.heap.get? a = some { cls := .type "list", data := .seq vs.toArray } → IntsAre vs ns → ns.length ≤ n → s₁.gens = #[] →
   codeAny (model l.prog w) callerA (.call (.ref fa) ⟨[.ref a], []⟩) (fun r s' => r = .ok (.ret (.bool true)) ∧ OldK s₁.heap s'.heap ∧ s'.os = s₁.os ∧ AllBare s'.gens) s₁) :
  WalkO q loose XP YP l.row.toRowW d [] (fun f vs => PySem.call f vs) := by
 intro w s₀ s₁ mg mb G Y fa o pm cd doc dV kV ho hd hcd hD hmg hg args vals as hpre hlay hrd hwl hlo
 obtain rfl : dV = .none := Dflts.none hD hdf
 obtain rfl : kV = .none := Dflts.noKw hD
 obtain ⟨a, vs, ns, rfl, rfl, hobj, hints, hlen⟩ := script_of hn hpre hwl
 refine enter_call (codeAny_mono (call w s₀ s₁ mg mb fa o pm cd doc a vs ns G Y ho (fd_plain hd) hcd hmg hobj hints hlen hg) fun r s' hq => ?_)
 obtain ⟨rfl, h2, h3, h4⟩ := hq
 exact ⟨.inl ⟨.bool true, .bool true, [], rfl, fun _ => rfl, .bool true, post_true l _, fun _ => ⟨List.Pairwise.nil, fun _ hm => (nomatch hm)⟩⟩, h2, h3, h4⟩
section
variable {prog : Program} {w : World} {A : Around} {E : Value → Shared → Prop} {s : Shared} {K : Frag}
end
end Att
namespace L2
open PySem PySem.Spec PyProof.Rows
theorem vals_ints : ∀ {vs : List Value} {ns : List Int}, IntsAre vs ns → Vals (ns.map V.int) vs
 | _, _, .nil => .nil
 | _, _, .cons n t h => .cons ⟨t, rfl⟩ (vals_ints h)
def Only (H : Hp) : Prop := ∀ b, H b = none ∨ ∃ o xs, H b = some (.frz o (.lst xs))
theorem law_call {P : Program} {w : World} {K : PySem.W.Frag} {mg mb : Str → Option Value} {CX : CXT} {k : Nat} {fa a : Addr} {fd : FuncData} {x : Str} {sp : Sp} {s₁ : Shared} {vs : List Value} {ns : List Int}
  (KX : K.In s₁.heap) (hns : s₁.heap.Ns mainGlobals mg) (hb : s₁.heap.Ns builtinsNs mb) (hbb : ∀ x : Str, x ≠ "__name__" → mb x = bootBuiltins x) (hlim : s₁.heap.NoLimit) (hg : s₁.gens = #[])
  (ha : s₁.heap.get? a = some { cls := .type "list", data := .seq vs.toArray }) (hi : IntsAre vs ns) (hl : ns.length ≤ sizeLine) (hr : Room k callerA)
  (F : ∀ base : Heap, K.In base → base.Ns mainGlobals mg → FnOk P w K mg base CX k fa fd [x] sp) (hbind : ∀ (s : Shared) (u : Value), BindsTo s fd ⟨[u], []⟩ [(x, u)])
  (hsp : ∀ H : Hp, Only H → SqL K H a (ns.map V.int) → sp [.ref a] H (fun v _ => v = .bl true) fun _ _ _ => False)
  (hCX : ∀ H e s', CX [] H s₁ (fun _ _ _ => False) e s' → False) :
  codeAny (model P w) callerA (.call (.ref fa) ⟨[.ref a], []⟩) (fun r s' => r = .ok (.ret (.bool true)) ∧ OldK s₁.heap s'.heap ∧ s'.os = s₁.os ∧ AllBare s'.gens) s₁ := by
 have rv := vals_ints hi
 have lenV := hi.length
 have core : ∀ H : Hp, Only H → SqL K H a (ns.map V.int) → HOk P w H s₁.heap → (∀ b, H b ≠ none → b = a) → (H a ≠ none → K.lookup a = none) →
   codeAny (model P w) callerA (.call (.ref fa) ⟨[.ref a], []⟩) (fun r s' => r = .ok (.ret (.bool true)) ∧ OldK s₁.heap s'.heap ∧ s'.os = s₁.os ∧ AllBare s'.gens) s₁ := by
  intro H hO hS hok hA hK
  have base_of : ∀ {b : Addr} {o : Obj}, s₁.heap.get? b = some o → H b = none → (hidT s₁.heap H).get? b = some o := fun e n => hidT_get e n
  have noA : ∀ {b : Addr} {o : Obj} {es : Array DictEntry} {ep : Nat}, s₁.heap.get? b = some o → o.data = .dict es ep → H b = none := fun {b o es ep} e d => by
   cases q : H b with
   | none => rfl
   | some u =>
    have e' : b = a := hA b (by rw [q]; simp)
    subst e'
    rw [ha] at e; cases e
    have d' : Data.seq vs.toArray _ = Data.dict es ep := d
    cases d'
  have nsK : ∀ {b : Addr} {m : Str → Option Value}, s₁.heap.Ns b m → (hidT s₁.heap H).Ns b m := fun {b m} ⟨o, es, ep, e, d, r⟩ => ⟨o, es, ep, base_of e (noA e d), d, r⟩
  have hKb : K.In (hidT s₁.heap H) := fun b o e => base_of (KX b o e) (by
   cases q : H b with
   | none => rfl
   | some u =>
    have e' : b = a := hA b (by rw [q]; simp)
    subst e'
    rw [hK (by rw [q]; simp)] at e; cases e)
  have hM : Mod K mg (hidT s₁.heap H) := ⟨hKb, nsK hns, ⟨mb, nsK hb, hbb⟩, let ⟨mc, h1, h2⟩ := hlim; ⟨mc, nsK h1, h2⟩⟩
  have e0 : Env0 P w K mg (hidT s₁.heap H) callerA [] s₁ H := ⟨rfl, hM, fun b o e => of_hidT e, Nat.le_of_eq (hidT_size _ _), trivial, fun b hb => absurd (show b ∈ ([] : List Addr) from hb) (by simp), hok, .of_eq hg⟩
  refine codeAny_mono ((F _ hKb (nsK hns)).run callerA [] s₁ H ⟨[.ref a], []⟩ [.ref a] [.ref a] _ _ hr e0 (hbind s₁ (.ref a)) (.cons rfl .nil) (hsp H hO hS)) fun r s' h => ?_
  cases r with
  | error e => exact (hCX H e s' h).elim
  | ok fl =>
   cases fl with
   | next => exact False.elim h
   | brk => exact False.elim h
   | cont => exact False.elim h
   | ret u =>
    obtain ⟨v, H', os, bare, un, hok', r', q⟩ := h
    have q' : v = .bl true := q
    subst q'
    obtain rfl : u = Value.bool true := r'
    refine ⟨rfl, OldK.of_keep fun b o e => ?_, os, bare⟩
    cases q : H b with
    | none => exact un.keep b o e q (by intro z; exact absurd (show b ∈ ([] : List Addr) from z) (by simp)) (by simp)
    | some u =>
     rcases hO b with z | ⟨ob, xs, z⟩
     ·rw [q] at z; cases z
     ·have z2 := un.frzs b ob _ z
      obtain ⟨e1, _⟩ := hok b _ z
      obtain ⟨e2, _⟩ := hok' b _ z2
      rw [e] at e1; cases e1
      exact e2
 cases hk : K.lookup a with
 | some o =>
  have e := KX a o hk
  rw [ha] at e
  cases e
  refine core (fun _ => none) (fun _ => .inl rfl) (.inr ⟨_, vs.toArray, _, hk, rfl, rfl, rfl, by rw [List.size_toArray, lenV]; exact hl, by simpa using rv⟩) (fun b u z => by have z' : (none : Option HO) = some u := z; cases z') (fun b z => absurd rfl z) fun z => absurd rfl z
 | none =>
  refine core (fun b => if b = a then some (.frz { cls := .type "list", data := .seq vs.toArray } (.lst (ns.map V.int))) else none) (fun b => ?_) (.inl (.inr ⟨{ cls := .type "list", data := .seq vs.toArray }, if_pos rfl⟩)) (fun b u z => ?_) (fun b z => ?_) fun _ => hk
  ·by_cases hb : b = a
   ·exact .inr ⟨_, _, if_pos hb⟩
   ·exact .inl (if_neg hb)
  ·by_cases hb : b = a
   ·have z' := (if_pos hb).symm.trans z
    cases z'
    subst hb
    exact ⟨ha, by rw [List.length_map]; exact hl, vs, _, rv, ha⟩
   ·have z' := (if_neg hb).symm.trans z
    cases z'
  ·by_cases hb : b = a
   ·exact hb
   ·exact absurd (if_neg hb) z
end L2
namespace L2
open PySem PySem.Spec PyProof.Rows
abbrev KOf {K : PySem.W.Frag} {h : Heap} (_ : K.In h) : PySem.W.Frag := K
theorem walk_of {l : PySem.W.OpenLaw} {n k : Nat} {q : Program} {loose : List Str} {XP : (Str → Option Value) → Heap → Prop} {YP : World → Heap → Prop} {d : DefRec} {K : Params → PySem.W.Frag} {CX : World → CXT} {sp : World → Sp} {x : Str}
  (hn : l.most = some n) (hn2 : n ≤ sizeLine) (hdf : d.params.defaults = []) (hr : Room k callerA)
  (hY : ∀ (w : World) (h : Heap), YP w h → (K w.params).In h)
  (F : ∀ (w : World) (mg : Str → Option Value) (fa : Addr) (h : Heap), (K w.params).In h → h.Ns mainGlobals mg → mg d.name = some (.ref fa) →
   ∃ fd : FuncData, (∀ (s : Shared) (u : Value), BindsTo s fd ⟨[u], []⟩ [(x, u)]) ∧
    ∀ base : Heap, (K w.params).In base → base.Ns mainGlobals mg → FnOk l.prog w (K w.params) mg base (CX w) k fa fd [x] (sp w))
  (hsp : ∀ (w : World) (H : Hp) (a : Addr) (ns : List Int), ns.length ≤ n → Only H → SqL (K w.params) H a (ns.map V.int) → sp w [.ref a] H (fun v _ => v = .bl true) fun _ _ _ => False)
  (hCX : ∀ (w : World) (H : Hp) (s : Shared) (e : Value) (s' : Shared), CX w [] H s (fun _ _ _ => False) e s' → False) :
  PySem.W.WalkO q loose XP YP l.row.toRowW d [] (fun f vs => PySem.call f vs) := by
 refine Att.attach_call hn hdf fun w s₀ s₁ mg mb fa o pm cd doc a vs ns G Y ho hd hcd hmg hobj hints hlen hg => ?_
 have KX := hY w _ Y
 obtain ⟨fd, hb, hF⟩ := F w mg fa _ KX G.T.g hmg
 exact law_call KX G.T.g G.T.b G.T.builtins G.T.nolimit hg hobj hints (Nat.le_trans hlen hn2) hr hF hb (fun H hO hS => hsp w H a ns hlen hO hS) fun H e s' => hCX w H s₁ e s'
end L2
/- THE LAST THEOREM (shape; LID, My.* are yours):
   My.Adr: a structure of the addresses that your layer names (classes, functions); My.Txt K t: a structure (Prop) of the equations over K;
   My.txt_mk : {K} {implicit addresses ..} (e1 : nsIn K mainGlobals "law" = some (some (.ref f))) (e2 : K.lookup f = some ⟨oc, od, .func (fnOf "law" "law" params body scope dV kV doc pm an cdv ct), sl⟩) (e3 : codeIn K cdv "law" = true) .. : ∃ t, My.Txt K t
set_option maxRecDepth 100000 in
set_option maxHeartbeats 0 in
theorem PySem.Challenge.cw_LID_holds : PySem.Challenge.rw_LID.Holds := by
 w_on; o_law; k_head; (case hw => w_witness2)
 k_fill
 refine L2.walk_of (l := PySem.Challenge.rw_LID) (n := 63) (k := 40) (x := "script") (CX := fun w => ..) (sp := fun _ => My.sp_law) rfl (by decide) rfl ⟨rfl, by decide, by decide⟩ (fun w h Y => PySem.W.kIn_of Y) ?F ?S ?C
 case F =>
  intro w mg fa h KX G hmg
  have T : ∃ t, My.Txt (L2.KOf KX) t := by
   dsimp only [L2.KOf]                          -- K must stand as «<heap const> w.params» for k_is
   refine' My.txt_mk ?e1 ?e2 ?e3 ..
   (case e1 => PySem.W.k_is)                    -- in the order: a name -> its address -> its object -> its parts
   (case e2 => PySem.W.k_is)
   ..
  obtain ⟨t, T⟩ := T
  have e0 := hmg.symm.trans (PySem.W.mg_of KX G T.law)
  cases e0                                       -- fa is the law's own address
  exact ⟨_, fun s u => .of_eq rfl, fun base kb nb => My.law_fn T kb nb⟩     -- if «.of_eq rfl» comes too early: refine' ⟨_, ?b, fun base kb nb => My.law_fn T kb nb⟩; exact fun s u => .of_eq rfl
 case S => exact fun w H a ns hl hO hS => ..
 case C => exact ..
(the tactic k_is has no namespace: write k_is) -/
namespace L2
open PySem PySem.Spec PyProof.Rows
def defArgs (s : Stmt) : Arguments := match s with
 | .FunctionDef _ a _ _ _ _ _ _ _ _ => a
 | _ => { posonlyargs := [], args := [], vararg := none, kwonlyargs := [], kw_defaults := [], kwarg := none, defaults := [] }
def defBody (s : Stmt) : List Stmt := match s with
 | .FunctionDef _ _ b _ _ _ _ _ _ _ => b
 | _ => []
def defScope (s : Stmt) : Scope := match s with
 | .FunctionDef _ _ _ _ _ _ sc _ _ _ => sc
 | _ => { kind := .function, names := [], isGenerator := false, isCoroutine := false }
abbrev CX0 : CXT := fun _ _ _ _ _ _ => False
abbrev E0 : XK := fun _ _ _ => False
theorem pass0 {X : Cx} : Passes CX0 X E0 := fun _ _ _ _ _ _ _ h => h.elim
structure Fun (K : PySem.W.Frag) (x qual : Str) (st : Stmt) (f : Addr) (fd : FuncData) : Prop where
 ex : ∃ (oc : Value) (od : Option Addr) (kV doc pm : Value) (an : Option Addr) (cdv ct : Value) (osl : Array (Option Value)),
  fd = PySem.W.fnOf x qual (defArgs st) (defBody st) (defScope st) .none kV doc pm an cdv ct ∧ K.lookup f = some ⟨oc, od, .func fd, osl⟩ ∧ PySem.W.codeIn K cdv qual = true
 kp : PySem.W.keepIn K (.ref f) = true
section
variable {P : Program} {w : World} {K : PySem.W.Frag} {mg : Str → Option Value} {base : Heap}
theorem Fun.ok {x qual : Str} {st : Stmt} {f : Addr} {fd : FuncData} {N ps : List Str} {k : Nat} {sp : Sp} (F : Fun K x qual st f fd) (S : FnScope N ps (defScope st)) (len : ∀ vs H Q E, sp vs H Q E → vs.length = ps.length)
  (hbody : ∀ (cdv : Value) (A : Around) (outer : List Env) (s : Shared) (H : Hp) (vs : List V) (Q : VK) (E : XK), Room k (A.deeper (envOfC qual (defScope st) s.heap.objs.size f cdv)) → sp vs H Q E →
   ∃ t, PSs (cxOf CX0 P w K mg base N qual (defScope st) f cdv A outer s H E).nox (defBody st) t ∧ t { nx := fun _ H' => Q .non H', rt := Q } (start N vs) H) : FnOk P w K mg base CX0 (k + 1) f fd ps sp := by
 obtain ⟨oc, od, kV, doc, pm, an, cdv, ct, osl, rfl, lk, hcd⟩ := F.ex
 refine fn_of lk hcd S len fun A outer s H vs Q E hr hsp => ?_
 obtain ⟨t, h, q⟩ := hbody cdv A outer s H vs Q E hr hsp
 exact ⟨t, h.nox, q⟩
theorem Fun.binds {x qual : Str} {st : Stmt} {f : Addr} {fd : FuncData} {ps : List Str} (F : Fun K x qual st f fd)
  (h : ∀ (kV doc pm : Value) (an : Option Addr) (cdv ct : Value) (us : List Value), us.length = ps.length → bindArgs (PySem.W.fnOf x qual (defArgs st) (defBody st) (defScope st) .none kV doc pm an cdv ct) ⟨us, []⟩ = pure (ps.zip us)) : Binds K fd ps [] := by
 obtain ⟨oc, od, kV, doc, pm, an, cdv, ct, osl, rfl, lk, hcd⟩ := F.ex
 exact .all (h kV doc pm an cdv ct)
theorem fun_mk {x qual : Str} {st : Stmt} {f : Addr} {oc : Value} {od an : Option Addr} {osl : Array (Option Value)} {kV doc pm cdv ct : Value} (l : K.lookup f = some ⟨oc, od, .func (PySem.W.fnOf x qual (defArgs st) (defBody st) (defScope st) .none kV doc pm an cdv ct), osl⟩)
  (c : PySem.W.codeIn K cdv qual = true) (k : PySem.W.keepIn K (.ref f) = true) : Fun K x qual st f (PySem.W.fnOf x qual (defArgs st) (defBody st) (defScope st) .none kV doc pm an cdv ct) := ⟨⟨oc, od, kV, doc, pm, an, cdv, ct, osl, rfl, l, c⟩, k⟩
end
section
variable {X : Cx}
end
theorem iteF {A B : Prop} (h : B) : if false = true then A else B := by
 rw [if_neg Bool.false_ne_true]
 exact h
theorem ite2 {c A B : Prop} [Decidable c] (h1 : c → A) (h2 : ¬ c → B) : if c then A else B := by
 by_cases h : c
 ·rw [if_pos h]
  exact h1 h
 ·rw [if_neg h]
  exact h2 h
def Same (H H' : Hp) : Prop := ∀ b o, H b = some o → H' b = some o
theorem Same.refl (H : Hp) : Same H H := fun _ _ h => h
theorem Same.trans {H H1 H2 : Hp} (a : Same H H1) (b : Same H1 H2) : Same H H2 := fun c o h => b c o (a c o h)
theorem Same.free {H H' : Hp} (e : Same H H') {l : Addr} (h : H' l = Option.none) : H l = Option.none := by
 cases q : H l with
 | none => rfl
 | some o =>
  rw [e l o q] at h
  cases h
theorem Same.seq {K : PySem.W.Frag} {H H' : Hp} {a : Addr} {xs : List V} (e : Same H H') (h : SqL K H a xs) : SqL K H' a xs := by
 rcases h with (h | ⟨o, h⟩) | h
 ·exact .inl (.inl (e _ _ h))
 ·exact .inl (.inr ⟨o, e _ _ h⟩)
 ·exact .inr h
end L2
section
namespace L2
open PySem
section
variable {prog : Program} {w : World} {A : Around} {R : Result → Shared → Prop} {s : Shared}
theorem compLoop_any {elt target iter : Expr} {ifs : List Expr} {scope : Scope} {pos : Pos} {it acc : Value} {env : Env} (I : Nat → Shared → Prop)
  (turn : ∀ n s, I n s → wpAny (model prog w) A (pyNext it) (fun r s₁ => match r with
   | none => R (.ok .next) s₁
   | some v => wpAny (model prog w) A (letOwnedTupleGo target it v) (fun _ s₁' => wpAny (model prog w) A (assign target env v) (fun _ s₂ =>
     wpAny (model prog w) A (forIn ifs true fun c r => if r = true then do let ok ← isTrue c env (eval c env); pure (ForInStep.yield ok) else pure (ForInStep.yield r)) (fun ok s₃ =>
      if ok = true then wpAny (model prog w) A (eval elt env) (fun x s₄ =>
       wpAny (model prog w) A (call (.builtin "list.append") [acc, x]) (fun _ s₅ => ∃ m, m < n ∧ I m s₅) (fun _ _ => False) s₄) (fun _ _ => False) s₃
      else ∃ m, m < n ∧ I m s₃) (fun _ _ => False) s₂) (fun _ _ => False) s₁') (fun _ _ => False) s₁) (fun _ _ => False) s)
  (n : Nat) (h : I n s) :
  codeAny (model prog w) A (.compLoop (.ListComp elt [⟨target, iter, ifs, 0⟩] scope pos) 0 it acc env) R s := by
 refine codeAny_loop rfl I (fun n s hI => ?_) n h
 show wpAny _ A ((compTurn (.ListComp elt [⟨target, iter, ifs, 0⟩] scope pos) 0 it acc env).onRaise (fun x => do noteFrame x env; theTreesLotGoes x)) _ _ s
 refine wpAny_noted ?_
 rw [compTurn_list]
 refine wpAny_bind (wpAny_standAt (wpAny_bind (wpAny_mono (turn n s hI) (fun r s₁ h₁ => ?_) fun _ _ h' => h'.elim)))
 cases r with
 | none => exact wpAny_pure h₁
 | some v =>
  refine wpAny_bind (wpAny_mono h₁ (fun _ s₁' h₁' => ?_) fun _ _ h' => h'.elim)
  refine wpAny_bind (wpAny_mono h₁' (fun _ s₂ h₂ => wpAny_bind (wpAny_mono h₂ (fun ok s₃ h₃ => ?_) fun _ _ h' => h'.elim)) fun _ _ h' => h'.elim)
  cases ok with
  | false => exact wpAny_pure ⟨rfl, h₃⟩
  | true =>
   exact wpAny_bind (wpAny_bind (wpAny_mono h₃ (fun x s₄ h₄ => wpAny_bind (wpAny_mono h₄ (fun _ s₅ h₅ => wpAny_pure (wpAny_pure ⟨rfl, h₅⟩)) fun _ _ h' => h'.elim)) fun _ _ h' => h'.elim))
end
theorem closure_from {env : Env} : ∀ (names : List (Str × NameKind)) (acc : List (Str × Addr)), (∀ y ∈ names, y.2 = .free → ∃ c, env.cells.lookup y.1 = some c) → (∀ x c, acc.lookup x = some c → env.cells.lookup x = some c) →
  ∃ cl : List (Str × Addr), (forIn names acc fun (x : Str × NameKind) (r : List (Str × Addr)) => (match x with | (name, kind) => if (kind == NameKind.free) = true then do let a ← cellOf env name; pure (ForInStep.yield ((name, a) :: r)) else pure (ForInStep.yield r) : Sem (ForInStep (List (Str × Addr))))) = pure cl ∧
   (∀ x c, cl.lookup x = some c → env.cells.lookup x = some c) ∧ (∀ y ∈ names, y.2 = .free → ∃ c, cl.lookup y.1 = some c) ∧ ∀ x c, acc.lookup x = some c → ∃ c', cl.lookup x = some c'
 | [], acc, _, h => ⟨acc, rfl, h, (fun y z => by cases z), fun _ c e => ⟨c, e⟩⟩
 | (name, kind) :: r, acc, hf, h => by
  by_cases hk : kind = .free
  ·subst hk
   obtain ⟨c, hc⟩ := hf (name, .free) List.mem_cons_self rfl
   have h2 : ∀ x d, ((name, c) :: acc).lookup x = some d → env.cells.lookup x = some d := fun x d e => by
    rw [List.lookup_cons] at e
    cases hx : x == name with
    | true => rw [hx] at e; cases e; rw [eq_of_beq hx]; exact hc
    | false => rw [hx] at e; exact h x d e
   obtain ⟨cl, e, h3, h4, h5⟩ := closure_from r ((name, c) :: acc) (fun y hy => hf y (List.mem_cons_of_mem _ hy)) h2
   refine ⟨cl, ?_, h3, fun y hy hyf => ?_, fun x d hx => ?_⟩
   ·rw [List.forIn_cons]
    simp only [beq_self_eq_true, if_true, cellOf, hc, pure_bind]
    exact e
   ·rcases List.mem_cons.mp hy with rfl | hy
    ·exact h5 name c (by simp [List.lookup_cons])
    ·exact h4 y hy hyf
   ·cases hxn : x == name with
    | true => exact h5 x c (by rw [List.lookup_cons, hxn])
    | false => exact h5 x d (by rw [List.lookup_cons, hxn]; exact hx)
  ·obtain ⟨cl, e, h3, h4, h5⟩ := closure_from r acc (fun y hy => hf y (List.mem_cons_of_mem _ hy)) h
   have hb : (kind == NameKind.free) = false := by simpa using hk
   refine ⟨cl, ?_, h3, fun y hy hyf => ?_, h5⟩
   ·rw [List.forIn_cons]
    simp only [hb, Bool.false_eq_true, if_false, pure_bind]
    exact e
   ·rcases List.mem_cons.mp hy with rfl | hy
    ·exact absurd hyf hk
    ·exact h4 y hy hyf
theorem closure_ok {env : Env} {scope : Scope} (hf : ∀ y ∈ scope.names, y.2 = .free → ∃ c, env.cells.lookup y.1 = some c) :
  ∃ cl, closureFor scope env = pure cl ∧ (∀ x c, cl.lookup x = some c → env.cells.lookup x = some c) ∧ ∀ y ∈ scope.names, y.2 = .free → ∃ c, cl.lookup y.1 = some c := by
 obtain ⟨cl, e, h1, h2, _⟩ := closure_from (env := env) scope.names [] hf (fun x c e => by simp at e)
 refine ⟨cl, ?_, h1, h2⟩
 unfold closureFor
 exact (congrArg (· >>= pure) e).trans (pure_bind _ _)
end L2
end
section
namespace L2
open PySem PySem.Spec PyProof.Rows
abbrev Cx.block (X : Cx) (scope : Scope) (cl : List (Str × Addr)) (C : Addr) (N : List Str) (s : Shared) (H : Hp) (fp : List Addr) : Cx :=
 { X with N := N, s₀ := s, H₀ := H, env := compEnvC scope cl C X.env, outer := X.stack, ex := fp, fn := fun _ => false, pn := [], xe := fun _ _ => False }
def compOk (osc : Scope) (oN : List Str) (sc : Scope) (N : List Str) (js : List Nat) : Bool :=
 sc.names.all (fun y => y.2 != .cell) && (sc.names.all (fun y => y.2 != .local || sc.names.lookup y.1 == some .local) && (decide (js.length ≤ N.length) &&
  (sc.names.all (fun y => y.2 != .free || (osc.names.lookup y.1 == some .cell || osc.names.lookup y.1 == some .free)) &&
   (List.range js.length).all (fun i => match N[N.length - js.length + i]?, oN[js.getD i 0]? with | some x, some y => x == y && sc.names.lookup x == some .free | _, _ => false))))
structure CompSc (osc : Scope) (oN : List Str) (sc : Scope) (N : List Str) (js : List Nat) : Prop where
 nocell : ∀ y ∈ sc.names, y.2 ≠ .cell
 names : ∀ y ∈ sc.names, y.2 = .local → sc.names.lookup y.1 = some .local
 len : js.length ≤ N.length
 tk : ∀ y ∈ sc.names, y.2 = .free → osc.names.lookup y.1 = some .cell ∨ osc.names.lookup y.1 = some .free
 fr : ∀ (i j : Nat), js[i]? = some j → ∃ x, N[N.length - js.length + i]? = some x ∧ oN[j]? = some x ∧ sc.names.lookup x = some .free
theorem compOk_sc {osc : Scope} {oN : List Str} {sc : Scope} {N : List Str} {js : List Nat} (h : compOk osc oN sc N js = true) : CompSc osc oN sc N js := by
 unfold compOk at h
 simp only [Bool.and_eq_true] at h
 obtain ⟨h1, h2, h3, h4, h5⟩ := h
 refine ⟨fun y hy => ?_, fun y hy hl => ?_, of_decide_eq_true h3, fun y hy hf => ?_, fun i j hj => ?_⟩
 ·have := List.all_eq_true.mp h1 y hy
  simpa using this
 ·have := List.all_eq_true.mp h2 y hy
  rw [hl] at this
  simpa using this
 ·have := List.all_eq_true.mp h4 y hy
  rw [hf] at this
  simpa using this
 ·have hi : i < js.length := (List.getElem?_eq_some_iff.mp hj).1
  have := List.all_eq_true.mp h5 i (List.mem_range.mpr hi)
  have e : js.getD i 0 = j := by rw [List.getD_eq_getElem?_getD, hj]; rfl
  rw [e] at this
  split at this
  ·rename_i x y e1 e2
   simp only [Bool.and_eq_true, beq_iff_eq] at this
   obtain ⟨rfl, h⟩ := this
   exact ⟨x, e1, e2, h⟩
  ·cases this
def blk (n : Nat) (js : List Nat) (σ : St) : St := List.replicate n none ++ js.map fun j => (σ[j]?).join
theorem blk_get {n : Nat} {js : List Nat} {σ : St} {i : Nat} {v : V} (h : (blk n js σ)[i]? = some (some v)) : ∃ k j, i = n + k ∧ js[k]? = some j ∧ σ[j]? = some (some v) := by
 unfold blk at h
 by_cases hi : i < n
 ·rw [List.getElem?_append_left (by simpa using hi), List.getElem?_replicate] at h
  split at h <;> cases h
 ·rw [List.getElem?_append_right (by simpa using hi), List.length_replicate, List.getElem?_map] at h
  cases e : js[i - n]? with
  | none => rw [e] at h; cases h
  | some j =>
   rw [e] at h
   refine ⟨i - n, j, by omega, e, ?_⟩
   have h' : (σ[j]?).join = some v := by simpa using h
   cases q : σ[j]? with
   | none => rw [q] at h'; cases h'
   | some o =>
    rw [q] at h'
    have : o = some v := h'
    rw [this]
theorem relabel_lookup {env : Env} : ∀ {names : List (Str × NameKind)} {x : Str} {k : NameKind},
  (names.map fun (n, k) => if (k == NameKind.free && env.scope.kind == .function && env.kindOf n == some .cell) then (n, NameKind.cell) else (n, k)).lookup x = some k → k = .cell ∨ k = .free → (∀ y ∈ names, y.2 ≠ .cell) → (x, NameKind.free) ∈ names
 | [], _, _, h, _, _ => by simp at h
 | (n, k1) :: r, x, k, h, hk, hc => by
  have ih := @relabel_lookup env r x k
  have hc' : ∀ y ∈ r, y.2 ≠ .cell := fun y hy => hc y (List.mem_cons_of_mem _ hy)
  have h1 : k1 ≠ .cell := hc (n, k1) List.mem_cons_self
  have h : List.lookup x ((if (k1 == NameKind.free && env.scope.kind == .function && env.kindOf n == some .cell) = true then (n, NameKind.cell) else (n, k1)) :: _) = some k := h
  by_cases c : (k1 == NameKind.free && env.scope.kind == .function && env.kindOf n == some .cell) = true
  ·rw [if_pos c, List.lookup_cons] at h
   cases hx : x == n with
   | true =>
    have e : k1 = .free := by simp only [Bool.and_eq_true, beq_iff_eq] at c; exact c.1.1
    rw [eq_of_beq hx, e]
    exact List.mem_cons_self
   | false => rw [hx] at h; exact List.mem_cons_of_mem _ (ih h hk hc')
  ·rw [if_neg c, List.lookup_cons] at h
   cases hx : x == n with
   | true =>
    rw [hx] at h
    have e : k1 = k := Option.some.inj h
    have e2 : k1 = .free := by
     rcases hk with z | z
     ·exact absurd (e.trans z) h1
     ·exact e.trans z
    rw [eq_of_beq hx, e2]
    exact List.mem_cons_self
   | false => rw [hx] at h; exact List.mem_cons_of_mem _ (ih h hk hc')
theorem relabel_free {env : Env} : ∀ {names : List (Str × NameKind)} {x : Str}, names.lookup x = some .free →
  (names.map fun (n, k) => if (k == NameKind.free && env.scope.kind == .function && env.kindOf n == some .cell) then (n, NameKind.cell) else (n, k)).lookup x = some .cell ∨
  (names.map fun (n, k) => if (k == NameKind.free && env.scope.kind == .function && env.kindOf n == some .cell) then (n, NameKind.cell) else (n, k)).lookup x = some .free
 | [], _, h => by simp at h
 | (n, k1) :: r, x, h => by
  have ih := @relabel_free env r x
  show List.lookup x ((if (k1 == NameKind.free && env.scope.kind == .function && env.kindOf n == some .cell) = true then (n, NameKind.cell) else (n, k1)) :: _) = _ ∨ List.lookup x ((if (k1 == NameKind.free && env.scope.kind == .function && env.kindOf n == some .cell) = true then (n, NameKind.cell) else (n, k1)) :: _) = _
  rw [List.lookup_cons] at h
  by_cases c : (k1 == NameKind.free && env.scope.kind == .function && env.kindOf n == some .cell) = true
  ·rw [if_pos c, List.lookup_cons]
   cases hx : x == n with
   | true => exact .inl rfl
   | false => rw [hx] at h; exact ih h
  ·rw [if_neg c, List.lookup_cons]
   cases hx : x == n with
   | true => rw [hx] at h; exact .inr h
   | false => rw [hx] at h; exact ih h
def PF (X : Cx) (ifs : List Expr) (t : TT) : Prop :=
 ∀ (pins : List (Addr × Obj)) (s : Shared) (σ : St) (H : Hp) (Q : Bool → Hp → Prop), Inv X pins σ H s → t σ H Q →
  wpAny (model X.prog X.w) X.A (forIn ifs true fun c r => if r = true then do let ok ← isTrue c X.env (eval c X.env); pure (ForInStep.yield ok) else pure (ForInStep.yield r)) (TP X pins σ Q) X.xe s
def tYes : TT := fun _ H Q => Q true H
theorem pf_nil {X : Cx} : PF X [] tYes := fun _ _ _ H _ I h => wpAny_tests_nil ⟨H, I, h⟩
theorem pf_one {X : Cx} {c : Expr} {t : TT} (h : PT X c t) : PF X [c] t := fun pins s σ H Q I hw => wpAny_tests_one (h pins s σ H Q I hw)
def tComp (n : Nat) (js : List Nat) (wi : TI) (g : TG) (tt : TT) (te : TE) : TE := fun σ H Q => wi σ H fun J H1 => ∀ D, H1 D = none → ∃ W : Nat → Nat → St → Hp → List V → Prop,
 (∃ m, W 0 m (blk n js σ) (upd H1 D (.lst [])) []) ∧ ∀ i m τ H2 ys, W i m τ H2 ys → H2 D = some (.lst ys) ∧
  ((J.stop i H2 ∧ Q (.ref D) H2) ∨ (J.go i H2 ∧ ys.length < sizeLine ∧ ∃ N : St → Hp → List V → Prop, (∀ τ' H' ys', N τ' H' ys' → ∃ m', m' < m ∧ W (i + 1) m' τ' H' ys') ∧ ∀ x H3, J.yld i H2 x H3 → g x τ H3 fun τ4 H4 => tt τ4 H4 fun b H5 =>
   if b = true then te τ4 H5 fun y H6 => H6 D = some (.lst ys) ∧ N τ4 (upd H6 D (.lst (ys ++ [y]))) (ys ++ [y])
   else N τ4 H5 ys))
section
variable {X : Cx}
theorem block_inv {pins : List (Addr × Obj)} {σ : St} {H : Hp} {s : Shared} {h₁ : Heap} {tk : Nat} {scope : Scope} {N : List Str} {js : List Nat} {cl : List (Str × Addr)} {fp : List Addr}
  (I : Inv X pins σ H s) (hk : scope.kind = .function) (hN : N.Nodup) (S : CompSc X.env.scope X.N scope N js) (hcl : ∀ x c, cl.lookup x = some c → X.env.cells.lookup x = some c) (hcl2 : ∀ y ∈ scope.names, y.2 = .free → ∃ c, cl.lookup y.1 = some c)
  (hf : ∀ b ∈ fp, b < s.heap.objs.size ∧ b ≠ X.env.locals ∧ b ∉ X.fs ∧ (b ∈ X.ex ∨ X.s₀.heap.objs.size ≤ b) ∧ (∀ x c, X.env.cells.lookup x = some c → c ≠ b))
  (hns : h₁.Ns s.heap.objs.size fun _ => none) (old : ∀ b o, s.heap.get? b = some o → h₁.get? b = some o) :
  Inv (X.block scope cl s.heap.objs.size N s H fp) [] (blk (N.length - js.length) js σ) H { s with heap := h₁, toks := tk } := by
 have look : ∀ x, ((relabel scope X.env).names.lookup x = some .cell ∨ (relabel scope X.env).names.lookup x = some .free) → ∃ c, cl.lookup x = some c := fun x hx => by
  have hm : (x, NameKind.free) ∈ scope.names := by
   rcases hx with z | z
   ·exact relabel_lookup z (.inl rfl) S.nocell
   ·exact relabel_lookup z (.inr rfl) S.nocell
  exact hcl2 _ hm rfl
 refine ⟨⟨I.ok.mod, hk, I.ok.glob, I.ok.blt, Nat.le_refl _, fun x y c h1 h2 => I.ok.inj x y c (hcl x c h1) (hcl y c h2), look, fun x c h => (by cases h), I.ok.hd, I.ok.frames, .inl rfl, fun b hb => ?_, I.bs, Nat.le_trans I.ok.bsz I.sz, fun b o e hb => ?_, fun b hb z => ?_, I.stack, I.stkFree⟩,
  rfl, I.bare, Un.kept old, ⟨_, hns, fun i x v h1 h2 h3 => ?_⟩, fun x c h => ?_, I.hok.fresh (Nat.le_refl _), fun x c h => I.freeC x c (hcl x c h), fun p hp => absurd (show p ∈ ([] : List (Addr × Obj)) from hp) (by simp), I.hok.kept old, ?_⟩
 ·exact ⟨Nat.ne_of_lt (hf b hb).1, fun x c h => (hf b hb).2.2.2.2 x c (hcl x c h)⟩
 ·rcases (hf b hb).2.2.2.1 with z | z
  ·exact I.ok.noex b o e z
  ·exact absurd (Nat.lt_of_lt_of_le (Heap.lt_size e) (Nat.le_trans I.ok.bsz z)) (Nat.lt_irrefl _)
 ·rcases List.mem_cons.mp (I.stkSub b z) with q | q
  ·exact (hf b hb).2.1 q
  ·exact (hf b hb).2.2.1 q
 ·obtain ⟨k, j, rfl, hj, hσ⟩ := blk_get h2
  obtain ⟨x', e1, e2, e3⟩ := S.fr k j hj
  rw [e1] at h1
  have ex : x' = x := Option.some.inj h1
  subst ex
  have ok := S.tk _ (PySem.mem_of_lookup e3) rfl
  obtain ⟨m, _, hl⟩ := I.loc
  obtain ⟨u, r, l⟩ := hl j x' v e2 hσ (.inr ok)
  refine ⟨u, r, ?_⟩
  rcases l with ⟨hk', _⟩ | ⟨_, c, hc, hcell⟩
  ·have hk2 : X.env.scope.names.lookup x' = some .local := hk'
   rcases ok with z | z <;> (rw [hk2] at z; cases z)
  ·obtain ⟨c', hc'⟩ := hcl2 _ (PySem.mem_of_lookup e3) rfl
   have : c' = c := Option.some.inj ((hcl _ _ hc').symm.trans hc)
   subst this
   obtain ⟨o, ho, hd⟩ := hcell
   exact .inr ⟨relabel_free e3, c', hc', ⟨o, old _ _ ho, hd⟩⟩
 ·obtain ⟨v, o, ho, hd⟩ := I.cell x c (hcl x c h)
  exact ⟨v, o, old _ _ ho, hd⟩
 ·show (blk (N.length - js.length) js σ).length = N.length
  unfold blk
  rw [List.length_append, List.length_replicate, List.length_map]
  have := S.len
  omega
theorem comp_block {pins : List (Addr × Obj)} {σ : St} {H : Hp} {s : Shared} {elt target iter : Expr} {ifs : List Expr} {scope : Scope} {pos : Pos} {N : List Str} {js : List Nat} {cl : List (Str × Addr)} {J : It} {fp : List Addr} {it : Addr} {tn : Nat → Heap → Prop}
  {g : TG} {tt : TT} {te : TE} {E : Value → Shared → Prop} {RR : Value → Addr → Result → Shared → Prop} {Q : VK}
  (hc : X.calm = true) (I : Inv X pins σ H s) (T : Turn X.prog X.w X.K target J fp it tn) (st : tn 0 s.heap) (hf : ∀ b ∈ fp, FpOk X pins H b)
  (hk : scope.kind = .function) (hN : N.Nodup) (S : CompSc X.env.scope X.N scope N js) (hcl : ∀ x c, cl.lookup x = some c → X.env.cells.lookup x = some c) (hcl2 : ∀ y ∈ scope.names, y.2 = .free → ∃ c, cl.lookup y.1 = some c)
  (hg : ∀ cl C s H fp, PG (X.block scope cl C N s H fp) target g) (ht : ∀ cl C s H fp, PF (X.block scope cl C N s H fp) ifs tt) (he : ∀ cl C s H fp, PE (X.block scope cl C N s H fp) elt te)
  (h : ∀ D, H D = none → ∃ W : Nat → Nat → St → Hp → List V → Prop, (∃ m, W 0 m (blk (N.length - js.length) js σ) (upd H D (.lst [])) []) ∧ ∀ i m τ H2 ys, W i m τ H2 ys → H2 D = some (.lst ys) ∧
   ((J.stop i H2 ∧ Q (.ref D) H2) ∨ (J.go i H2 ∧ ys.length < sizeLine ∧ ∃ N : St → Hp → List V → Prop, (∀ τ' H' ys', N τ' H' ys' → ∃ m', m' < m ∧ W (i + 1) m' τ' H' ys') ∧ ∀ x H3, J.yld i H2 x H3 → g x τ H3 fun τ4 H4 => tt τ4 H4 fun b H5 =>
    if b = true then te τ4 H5 fun y H6 => H6 D = some (.lst ys) ∧ N τ4 (upd H6 D (.lst (ys ++ [y]))) (ys ++ [y])
    else N τ4 H5 ys)))
  (hend : ∀ D C H' s', (∃ m, s'.heap.Ns C m) → FpOk X pins H' C → Inv X pins σ H' s' → Q (.ref D) H' → RR (.ref D) C (.ok .next) s') :
  wpAny (model X.prog X.w) X.A (newList []) (fun acc s₃ => wpAny (model X.prog X.w) X.A (newFunctionEnv scope X.env.globals cl [] X.env.qual none .none (some X.env)) (fun cenv s₄ =>
   codeAny (model X.prog X.w) X.A (.compStart (.ListComp elt [⟨target, iter, ifs, 0⟩] scope pos) 0 (.ref it) acc { cenv with scope := relabel scope X.env }) (RR acc cenv.locals) s₄) E s₃) E s := by
 obtain ⟨W, ⟨m0, w0⟩, turn⟩ := h s.heap.objs.size I.fresh
 refine wpAny_newObj_type (wpAny_newFunctionEnv S.nocell (by intro y hy; simp at hy) (fun h₁ hns₁ hsb₁ => ?_) hk)
 have I3 : Inv X pins σ (upd H s.heap.objs.size (.lst [])) { s with heap := s.heap.push { cls := .type "list", dict := none, data := .seq ([] : List Value).toArray } } := I.lnew (its := []) (ys := []) (t' := s.toks) .nil (Nat.zero_le _)
 have hF3 : ∀ b ∈ fp, b < s.heap.objs.size := fun b hb => by
  obtain ⟨o, e, _⟩ := T.obj 0 s.heap st b hb
  exact Heap.lt_size e
 have st3 : tn 0 (s.heap.push { cls := .type "list", dict := none, data := .seq ([] : List Value).toArray }) := T.keep 0 _ _ st fun b hb o e => Heap.get?_push_of_some _ e
 generalize hs3 : ({ s with heap := s.heap.push { cls := .type "list", dict := none, data := .seq ([] : List Value).toArray } } : Shared) = s3 at I3 hns₁ hsb₁ ⊢
 have e3 : s3.heap = s.heap.push { cls := .type "list", dict := none, data := .seq ([] : List Value).toArray } := by rw [← hs3]
 rw [← e3] at st3
 have z3 : s.heap.objs.size ≤ s3.heap.objs.size := by rw [e3, Heap.size_push]; exact Nat.le_succ _
 have old : ∀ b o, s3.heap.get? b = some o → h₁.get? b = some o := fun b o e => hsb₁.extBut b o (Nat.ne_of_lt (Heap.lt_size e)) (Heap.get?_push_of_some _ e)
 have hf3 : ∀ b ∈ fp, b < s3.heap.objs.size ∧ b ≠ X.env.locals ∧ b ∉ X.fs ∧ (b ∈ X.ex ∨ X.s₀.heap.objs.size ≤ b) ∧ (∀ x c, X.env.cells.lookup x = some c → c ≠ b) := fun b hb =>
  let ⟨_, q1, q2, q3, q4, _⟩ := hf b hb
  ⟨Nat.lt_of_lt_of_le (hF3 b hb) z3, q1, q2, q3, q4⟩
 have nD : ∀ b ∈ fp, upd H s.heap.objs.size (.lst []) b = none := fun b hb => by
  rw [upd_ne (Nat.ne_of_lt (hF3 b hb))]
  exact (hf b hb).1
 have I4 : Inv (X.block scope cl s3.heap.objs.size N s3 (upd H s.heap.objs.size (.lst [])) fp) [] (blk (N.length - js.length) js σ) (upd H s.heap.objs.size (.lst [])) { s3 with heap := h₁, toks := s3.toks + ([] : List (Str × Value)).length } :=
  block_inv I3 hk hN S hcl hcl2 hf3 hns₁ old
 have st4 : tn 0 h₁ := T.keep 0 _ _ st3 fun b hb o e => old b o e
 have hg' := hg cl s3.heap.objs.size s3 (upd H s.heap.objs.size (.lst [])) fp
 have ht' := ht cl s3.heap.objs.size s3 (upd H s.heap.objs.size (.lst [])) fp
 have he' := he cl s3.heap.objs.size s3 (upd H s.heap.objs.size (.lst [])) fp
 have stat : ∀ {H' : Hp}, (∀ b ∈ fp, H' b = none) → ∀ b ∈ fp, FpOk (X.block scope cl s3.heap.objs.size N s3 (upd H s.heap.objs.size (.lst [])) fp) [] H' b := fun hn b hb =>
  ⟨hn b hb, (I4.ok.exf b hb).1, I4.ok.exfs b hb, .inl hb, (I4.ok.exf b hb).2, fun p hp => absurd (show p ∈ ([] : List (Addr × Obj)) from hp) (by simp)⟩
 have loop : codeAny (model X.prog X.w) X.A (.compLoop (.ListComp elt [⟨target, iter, ifs, 0⟩] scope pos) 0 (.ref it) (.ref s.heap.objs.size) (compEnvC scope cl s3.heap.objs.size X.env)) (RR (.ref s.heap.objs.size) s3.heap.objs.size) { s3 with heap := h₁, toks := s3.toks + ([] : List (Str × Value)).length } := by
  refine compLoop_any (fun n s' => ∃ i τ H' ys, Inv (X.block scope cl s3.heap.objs.size N s3 (upd H s.heap.objs.size (.lst [])) fp) [] τ H' s' ∧ tn i s'.heap ∧ (∀ b ∈ fp, H' b = none) ∧ W i n τ H' ys) ?_ m0 ⟨0, _, _, [], I4, st4, nD, w0⟩
  rintro n s5 ⟨i, τ, H5, ys, I5, st5, fr5, w5⟩
  obtain ⟨hD, hw⟩ := turn i n τ H5 ys w5
  rcases hw with ⟨stop, qn⟩ | ⟨go, hz, M, hM, step⟩
  ·refine thn (T.done (X.block scope cl s3.heap.objs.size N s3 (upd H s.heap.objs.size (.lst [])) fp) rfl rfl rfl hc i [] s5 τ H5 (fun _ _ => False) I5 (stat fr5) st5 stop) fun r s6 ⟨hr, I6⟩ => ?_
   subst hr
   refine hend _ _ H5 s6 (let ⟨m, hn, _⟩ := I6.loc; ⟨m, hn⟩) (I3.fpOk (Nat.le_refl _) I6.free) ?_ qn
   exact I3.call' (ch := fp) I6.os I6.base I6.hok I6.bare fun b hb => ⟨(hf b hb).2.2.2.1, (hf b hb).2.1, (hf b hb).2.2.2.2.1, (hf b hb).2.2.2.2.2⟩
  ·refine thn (T.item (X.block scope cl s3.heap.objs.size N s3 (upd H s.heap.objs.size (.lst [])) fp) rfl rfl rfl hc i [] s5 τ H5 (fun _ _ => False) I5 (stat fr5) st5 go) fun r s6 ⟨u, hr, h6⟩ => ?_
   subst hr
   refine thn h6 fun _ s7 ⟨x, H7, I7, r7, y7, st7, fr7⟩ => ?_
   have I7' := I7.pinned (stat fr7) (T.obj _ _ st7)
   refine thn (hg' _ s7 τ H7 x u _ I7' r7 (step x H7 y7)) fun _ s8 ⟨τ8, H8, I8, q8⟩ => ?_
   refine thn (ht' _ s8 τ8 H8 _ I8 q8) fun b s9 ⟨H9, I9, q9⟩ => ?_
   have again : ∀ {τ' : St} {H' : Hp} {s' : Shared} {ys' : List V}, Inv (X.block scope cl s3.heap.objs.size N s3 (upd H s.heap.objs.size (.lst [])) fp) ([] ++ pinsAt fp s7.heap) τ' H' s' → M τ' H' ys' →
     ∃ m, m < n ∧ ∃ i τ H' ys, Inv (X.block scope cl s3.heap.objs.size N s3 (upd H s.heap.objs.size (.lst [])) fp) [] τ H' s' ∧ tn i s'.heap ∧ (∀ b ∈ fp, H' b = none) ∧ W i m τ H' ys := fun {τ' H' s' ys'} I' hm' => by
    obtain ⟨m', hm, w'⟩ := hM _ _ _ hm'
    refine ⟨m', hm, i + 1, τ', H', ys', I'.unpinned, T.keep _ _ _ st7 fun b hb o e => (I'.pin (b, o) (List.mem_append_right _ (List.mem_append_right _ (mem_pinsAt hb e)))).1, fun b hb => ?_, w'⟩
    obtain ⟨o, e, d⟩ := T.obj _ _ st7 b hb
    exact (I'.pin (b, o) (List.mem_append_right _ (List.mem_append_right _ (mem_pinsAt hb e)))).2.1
   cases b with
   | false => exact again I9 q9
   | true =>
    refine thn (he' _ s9 τ8 H9 _ I9 q9) fun y s10 ⟨v10, H10, I10, r10, hD10, q10⟩ => ?_
    refine thn (mt_append (X := X.block scope cl s3.heap.objs.size N s3 (upd H s.heap.objs.size (.lst [])) fp) _ s10 τ8 H10 (.ref s.heap.objs.size) [v10] (.ref s.heap.objs.size) [y] (fun _ H' => M τ8 H' (ys ++ [v10])) I10 rfl (.cons r10 .nil) ⟨_, ys, v10, rfl, rfl, hD10, hz, q10⟩) fun _ s11 ⟨_, H11, I11, _, q11⟩ => ?_
    exact again I11 q11
 exact codeAny_compStart_list loop (T.self X.A 0 _ _ _ st4 loop)
variable {elt target iter : Expr} {ifs : List Expr} {scope : Scope} {pos spos : Pos} {wi : TI} {g : TG} {tt : TT} {te : TE}
theorem pe_comp (N : List Str) (js : List Nat) (hok : compOk X.env.scope X.N scope N js = true) (hN : N.Nodup) (hc : X.calm = true) (hi : PI X target iter wi)
  (hg : ∀ cl C s H fp, PG (X.block scope cl C N s H fp) target g) (ht : ∀ cl C s H fp, PF (X.block scope cl C N s H fp) ifs tt) (he : ∀ cl C s H fp, PE (X.block scope cl C N s H fp) elt te)
  (hk : scope.kind = .function := by rfl) (hs : ∀ x, foldedSetIterable iter X.env x = pure x := by intro _; rfl) :
  PE X (.ListComp elt [⟨target, iter, ifs, 0⟩] scope pos) (tComp (N.length - js.length) js wi g tt te) := by
 intro pins s σ H Q I h
 have S := compOk_sc hok
 obtain ⟨cl, hclos, hcl, hcl2⟩ := closure_ok (env := X.env) (scope := scope) fun y hy hf => I.ok.has _ (S.tk y hy hf)
 rw [eval_ListComp]
 refine wpAny_comprehension_free (use := none) rfl hs hclos hk S.names (thn (hi pins s σ H _ I h) fun v s1 h1 => thn h1 fun itv s2 h2 => ?_)
 obtain ⟨it, fp, tn, J, H2, e, I2, T, st2, f2, hw⟩ := h2
 subst e
 refine comp_block (RR := fun acc C => compPost (model X.prog X.w) X.A X.xe none (EP X pins σ Q) acc C) (Q := Q) hc I2 T st2 f2 hk hN S hcl hcl2 hg ht he hw ?_
 rintro D C H' s' ⟨m, hn⟩ ⟨c0, c1, c2, c3, c4, c5⟩ I' q
 exact ⟨m, hn, fun h' hs' => ⟨.ref D, H', I'.turned (t' := s'.toks) (fun b o hb e => (hs'.2 b hb).trans e) c0 c1 c3 c4 c5, rfl, q⟩⟩
theorem ps_setComp {i : Nat} {y : Str} {py : Pos} (N : List Str) (js : List Nat) (hok : compOk X.env.scope X.N scope N js = true) (hN : N.Nodup) (hc : X.calm = true) (hXN : X.N.Nodup) (hyi : X.N[i]? = some y) (hy : Loc X.env.scope y) (hi : PI X target iter wi)
  (hg : ∀ cl C s H fp, PG (X.block scope cl C N s H fp) target g) (ht : ∀ cl C s H fp, PF (X.block scope cl C N s H fp) ifs tt) (he : ∀ cl C s H fp, PE (X.block scope cl C N s H fp) elt te)
  (hsw : swapsWith (.ListComp elt [⟨target, iter, ifs, 0⟩] scope pos) (some (.Name y py)) spos.line X.env = pure true := by rfl)
  (hk : scope.kind = .function := by rfl) (hs : ∀ x, foldedSetIterable iter X.env x = pure x := by intro _; rfl) (hf : X.fn y = true ∨ X.env.scope.names.lookup y = some .local := by first | exact .inl rfl | exact .inr rfl | assumption) :
  PS X (.Assign [.Name y py] (.ListComp elt [⟨target, iter, ifs, 0⟩] scope pos) spos) (tAsg (tComp (N.length - js.length) js wi g tt te) (gName i)) := by
 intro pins s σ H D I h
 have S := compOk_sc hok
 obtain ⟨cl, hclos, hcl, hcl2⟩ := closure_ok (env := X.env) (scope := scope) fun y hy hf => I.ok.has _ (S.tk y hy hf)
 rw [exec_Assign_Name_used _ _ _ _ hsw]
 refine wpAny_bind (wpAny_standAt (wpAny_bind ?_))
 show wpAny _ X.A (do let _ ← comprehension (.ListComp elt [⟨target, iter, ifs, 0⟩] scope pos) scope X.env _ (newList []) false (eval iter X.env) (some (assign (.Name y py) X.env))) _ _ s
 refine wpAny_bind (wpAny_mono (wpAny_comprehension_free (use := some (assign (.Name y py) X.env)) (Q := fun _ s' => SP X pins D .next s') rfl hs hclos hk S.names
  (thn (hi pins s σ H _ I h) fun v s1 h1 => thn h1 fun itv s2 h2 => ?_)) (fun _ s' hq => wpAny_pure (wpAny_pure hq)) fun _ _ e => e)
 obtain ⟨it, fp, tn, J, H2, e, I2, T, st2, f2, hw⟩ := h2
 subst e
 refine comp_block (RR := fun acc C => compPost (model X.prog X.w) X.A X.xe (some (assign (.Name y py) X.env)) (fun _ s' => SP X pins D .next s') acc C) (Q := fun v H' => D.nx (σ.set i (some v)) H') hc I2 T st2 f2 hk hN S hcl hcl2 hg ht he hw ?_
 rintro E C H' s' ⟨m, hn⟩ ⟨c0, c1, c2, c3, c4, c5⟩ I' q
 show wpAny _ X.A (assign (.Name y py) X.env (.ref E)) _ _ _
 obtain ⟨oC, es, ep, hoC, hdC, hrC⟩ := id hn
 have I2' : Inv X (pins ++ [(C, oC)]) σ H' s' := I'.pins_of fun p hp => (List.mem_append.mp hp).elim (fun z => I'.pin p (List.mem_append_right _ z)) fun z => by
  have e : p = (C, oC) := by simpa using z
  subst e
  exact ⟨hoC, c0, c1, c2, fun v z => by rw [hdC] at z; cases z⟩
 refine wpAny_assign_Name (store_ok I2' hXN hyi hy (v := .ref E) rfl (fun s'' I'' => ?_) hf)
 have hC2 := (I''.pin (C, oC) (List.mem_append_right _ (List.mem_append_right _ (by simp)))).1
 have I3 : Inv X pins (σ.set i (some (.ref E))) H' s'' := I''.unpinned
 exact ⟨m, ⟨oC, es, ep, hC2, hdC, hrC⟩, fun h' hs' => ⟨_, H', I3.turned (t' := s''.toks) (fun b o hb e => (hs'.2 b hb).trans e) c0 c1 c3 c4 c5, q⟩⟩
end
structure ItOk (J : It) (xs : List V) (ok : Hp → Prop) : Prop where
 stop : ∀ H, ok H → J.stop xs.length H
 go : ∀ i H, ok H → i < xs.length → J.go i H
 yld : ∀ i H x H', ok H → i < xs.length → J.yld i H x H' → H' = H ∧ xs[i]? = some x
theorem it_list (K : PySem.W.Frag) (a : Addr) (xs : List V) : ItOk (Itl K a) xs fun H => SqL K H a xs :=
 ⟨fun H h => ⟨xs, h, Nat.le_refl _⟩, fun i H h hi => ⟨xs, xs[i], h, by simp [hi]⟩, fun i H x H' h hi y => ⟨y.1, y.2 xs h⟩⟩
theorem it_range (lo : Int) (n : Nat) : ItOk (Itr lo n) ((List.range n).map fun i => V.int (lo + (i : Nat))) fun _ => True :=
 ⟨fun H _ => by show n ≤ _; simp, fun i H _ hi => (by show i < n; simpa using hi), fun i H x H' _ hi y => ⟨y.1, by
  have hi' : i < n := by simpa using hi
  obtain ⟨_, rfl⟩ := y
  simp [hi']⟩⟩
theorem comp_by {J : It} {D : Addr} {xs : List V} {ok : Hp → Prop} {g : TG} {tt : TT} {te : TE} {Q : Hp → Prop} {τ : St} {H : Hp} (IO : ItOk J xs ok) (Pv : Nat → St → Hp → List V → Prop) (hz : xs.length ≤ sizeLine) (h0 : Pv 0 τ H [])
  (hl : ∀ i τ H ys, i ≤ xs.length → Pv i τ H ys → ok H ∧ H D = some (.lst ys) ∧ ys.length ≤ i)
  (hs : ∀ i x τ H ys, i < xs.length → xs[i]? = some x → Pv i τ H ys → g x τ H fun τ4 H4 => tt τ4 H4 fun b H5 =>
   if b = true then te τ4 H5 fun y H6 => H6 D = some (.lst ys) ∧ Pv (i + 1) τ4 (upd H6 D (.lst (ys ++ [y]))) (ys ++ [y]) else Pv (i + 1) τ4 H5 ys)
  (hd : ∀ τ H ys, Pv xs.length τ H ys → Q H) :
  ∃ W : Nat → Nat → St → Hp → List V → Prop, (∃ m, W 0 m τ H []) ∧ ∀ i m τ H2 ys, W i m τ H2 ys → H2 D = some (.lst ys) ∧
   ((J.stop i H2 ∧ Q H2) ∨ (J.go i H2 ∧ ys.length < sizeLine ∧ ∃ N : St → Hp → List V → Prop, (∀ τ' H' ys', N τ' H' ys' → ∃ m', m' < m ∧ W (i + 1) m' τ' H' ys') ∧ ∀ x H3, J.yld i H2 x H3 → g x τ H3 fun τ4 H4 => tt τ4 H4 fun b H5 =>
    if b = true then te τ4 H5 fun y H6 => H6 D = some (.lst ys) ∧ N τ4 (upd H6 D (.lst (ys ++ [y]))) (ys ++ [y])
    else N τ4 H5 ys)) := by
 refine ⟨fun i m τ H ys => m = xs.length - i ∧ i ≤ xs.length ∧ Pv i τ H ys, ⟨xs.length, by simp, Nat.zero_le _, h0⟩, ?_⟩
 rintro i m τ H ys ⟨rfl, hi, p⟩
 obtain ⟨q, hD, hy⟩ := hl i τ H ys hi p
 refine ⟨hD, ?_⟩
 by_cases hlt : i < xs.length
 ·refine .inr ⟨IO.go i H q hlt, by omega, Pv (i + 1), fun τ' H' ys' p' => ⟨xs.length - (i + 1), by omega, rfl, hlt, p'⟩, fun x H' y => ?_⟩
  obtain ⟨e, hx⟩ := IO.yld i H x H' q hlt y
  subst e
  exact hs i x τ _ ys hlt hx p
 ·have e : i = xs.length := by omega
  subst e
  exact .inl ⟨IO.stop H q, hd τ H ys p⟩
theorem for_by {J : It} {xs : List V} {ok : Hp → Prop} {g : TG} {tb : TS} {D : Ends} {σ : St} {H : Hp} (IO : ItOk J xs ok) (Pv : Nat → St → Hp → Prop) (h0 : Pv 0 σ H) (hl : ∀ i σ H, i ≤ xs.length → Pv i σ H → ok H)
  (hs : ∀ i x σ H, i < xs.length → xs[i]? = some x → Pv i σ H → g x σ H fun σ2 H2 => tb { D with nx := Pv (i + 1), ct := Pv (i + 1), bk := D.nx } σ2 H2) (hd : ∀ σ H, Pv xs.length σ H → D.nx σ H) :
  ∃ W : Nat → Nat → St → Hp → Prop, (∃ m, W 0 m σ H) ∧ ∀ i m σ H, W i m σ H →
   (J.stop i H ∧ D.nx σ H) ∨ (J.go i H ∧ ∃ N : St → Hp → Prop, (∀ σ' H', N σ' H' → ∃ m', m' < m ∧ W (i + 1) m' σ' H') ∧ ∀ x H', J.yld i H x H' → g x σ H' fun σ2 H2 => tb { D with nx := N, ct := N, bk := D.nx } σ2 H2) := by
 refine ⟨fun i m σ H => m = xs.length - i ∧ i ≤ xs.length ∧ Pv i σ H, ⟨xs.length, by simp, Nat.zero_le _, h0⟩, ?_⟩
 rintro i m σ H ⟨rfl, hi, p⟩
 have q := hl i σ H hi p
 by_cases hlt : i < xs.length
 ·refine .inr ⟨IO.go i H q hlt, Pv (i + 1), fun σ' H' p' => ⟨xs.length - (i + 1), by omega, rfl, hlt, p'⟩, fun x H' y => ?_⟩
  obtain ⟨e, hx⟩ := IO.yld i H x H' q hlt y
  subst e
  exact hs i x σ _ hlt hx p
 ·have e : i = xs.length := by omega
  subst e
  exact .inl ⟨IO.stop H q, hd σ H p⟩
end L2
end
section
namespace L2
open PySem PySem.Spec PyProof.Rows
section
variable {X : Cx}
def tyN (H : Hp) : V → Option String
 | .non => some "NoneType"
 | .bl _ => some "bool"
 | .int _ => some "int"
 | .str _ => some "str"
 | .ref a => match H a with
  | some (.lst _) => some "list"
  | some (.tup _) => some "tuple"
  | some (.dK _) => some "dict"
  | _ => none
 | _ => none
theorem call_isinst : CallR X (.builtin "isinstance") (fun xs H Q => ∃ x T Tx, xs = [x, .ty T] ∧ tyN H x = some Tx ∧ T ∈ ["int", "bool", "list", "tuple", "str"] ∧ Q (.bl (Tx == T || (Tx == "bool" && T == "int"))) H) := by
 intro pins s σ H xs us Q I r h
 obtain ⟨x, T, Tx, rfl, hT, hm, q⟩ := h
 obtain ⟨u, w', rfl, r1, r2⟩ := vals2 r
 obtain rfl : w' = .type T := r2
 have no : ∀ {b : Bool}, b = (Tx == T || (Tx == "bool" && T == "int")) → ∀ tk, EP X pins σ Q (.bool b) { s with toks := tk } := fun {b} hb tk => ⟨.bl b, H, I.tok _, rfl, by rw [hb]; exact q⟩
 have ye : ∀ {b : Bool}, b = (Tx == T || (Tx == "bool" && T == "int")) → EP X pins σ Q (.bool b) s := fun {b} hb => ⟨.bl b, H, I, rfl, by rw [hb]; exact q⟩
 simp only [List.mem_cons, List.not_mem_nil, or_false] at hm
 cases x with
 | int i =>
  obtain ⟨t, rfl⟩ := r1
  cases hT
  rcases hm with rfl | rfl | rfl | rfl | rfl
  ·exact IsiPair.int_int (ye (by decide))
  ·exact IsiPair.int_bool (no (by decide) _)
  ·exact IsiPair.int_list (no (by decide) _)
  ·exact IsiPair.int_tuple (no (by decide) _)
  ·exact IsiPair.int_str (no (by decide) _)
 | str i =>
  obtain ⟨t, rfl⟩ := r1
  cases hT
  rcases hm with rfl | rfl | rfl | rfl | rfl
  ·exact IsiPair.str_int (no (by decide) _)
  ·exact IsiPair.str_bool (no (by decide) _)
  ·exact IsiPair.str_list (no (by decide) _)
  ·exact IsiPair.str_tuple (no (by decide) _)
  ·exact IsiPair.str_str (ye (by decide))
 | bl i =>
  cases r1
  cases hT
  rcases hm with rfl | rfl | rfl | rfl | rfl
  ·exact IsiPair.bool_int (ye (by decide))
  ·exact IsiPair.bool_bool (ye (by decide))
  ·exact IsiPair.bool_list (no (by decide) _)
  ·exact IsiPair.bool_tuple (no (by decide) _)
  ·exact IsiPair.bool_str (no (by decide) _)
 | ref a =>
  cases r1
  cases hH : H a with
  | none => simp [tyN, hH] at hT
  | some o =>
   cases o with
   | lst ys =>
    simp [tyN, hH] at hT
    subst hT
    obtain ⟨_, its, n, _, e⟩ := I.hok a _ hH
    have hx : ∃ o, s.heap.get? a = some o ∧ o.cls = .type "list" := ⟨_, e, rfl⟩
    rcases hm with rfl | rfl | rfl | rfl | rfl
    ·exact call_isinstance (isinstance_false_list (by decide +kernel) F.isi_meta_int F.sub_list_int) ⟨hx, no (by decide) _⟩
    ·exact call_isinstance (isinstance_false_list (by decide +kernel) F.isi_meta_bool F.sub_list_bool) ⟨hx, no (by decide) _⟩
    ·exact call_isinstance (isinstance_true (Tx := "list") F.isi_meta_list F.sub_list_list) ⟨⟨_, e, rfl⟩, ye (by decide)⟩
    ·exact call_isinstance (isinstance_false_list (by decide +kernel) F.isi_meta_tuple F.sub_list_tuple) ⟨hx, no (by decide) _⟩
    ·exact call_isinstance (isinstance_false_list (by decide +kernel) F.isi_meta_str F.sub_list_str) ⟨hx, no (by decide) _⟩
   | tup ys =>
    simp [tyN, hH] at hT
    subst hT
    obtain ⟨_, its, _, o, e, hc, _⟩ := I.hok a _ hH
    have hx : ∃ o, s.heap.get? a = some o ∧ o.cls = .type "tuple" := ⟨_, e, hc⟩
    rcases hm with rfl | rfl | rfl | rfl | rfl
    ·exact call_isinstance (isinstance_false_tuple (by decide +kernel) F.isi_meta_int F.sub_tuple_int) ⟨hx, no (by decide) _⟩
    ·exact call_isinstance (isinstance_false_tuple (by decide +kernel) F.isi_meta_bool F.sub_tuple_bool) ⟨hx, no (by decide) _⟩
    ·exact call_isinstance (isinstance_false_tuple (by decide +kernel) F.isi_meta_list F.sub_tuple_list) ⟨hx, no (by decide) _⟩
    ·exact call_isinstance (isinstance_true (Tx := "tuple") F.isi_meta_tuple F.sub_tuple_tuple) ⟨⟨_, e, hc⟩, ye (by decide)⟩
    ·exact call_isinstance (isinstance_false_tuple (by decide +kernel) F.isi_meta_str F.sub_tuple_str) ⟨hx, no (by decide) _⟩
   | dK ys =>
    simp [tyN, hH] at hT
    subst hT
    obtain ⟨_, _, vs, _, dd⟩ := I.hok a _ hH
    obtain ⟨o, es, ep, e, hc, _⟩ := dd
    have hx : ∃ o, s.heap.get? a = some o ∧ o.cls = .type "dict" := ⟨o, e, hc.1⟩
    rcases hm with rfl | rfl | rfl | rfl | rfl
    ·exact call_isinstance (isinstance_false_dict (by decide +kernel) F.isi_meta_int F.sub_dict_int) ⟨hx, no (by decide) _⟩
    ·exact call_isinstance (isinstance_false_dict (by decide +kernel) F.isi_meta_bool F.sub_dict_bool) ⟨hx, no (by decide) _⟩
    ·exact call_isinstance (isinstance_false_dict (by decide +kernel) F.isi_meta_list F.sub_dict_list) ⟨hx, no (by decide) _⟩
    ·exact call_isinstance (isinstance_false_dict (by decide +kernel) F.isi_meta_tuple F.sub_dict_tuple) ⟨hx, no (by decide) _⟩
    ·exact call_isinstance (isinstance_false_dict (by decide +kernel) F.isi_meta_str F.sub_dict_str) ⟨hx, no (by decide) _⟩
   | _ => simp [tyN, hH] at hT
 | non =>
  cases r1
  cases hT
  rcases hm with rfl | rfl | rfl | rfl | rfl
  ·exact IsiPair.NoneType_int (no (by decide) _)
  ·exact IsiPair.NoneType_bool (no (by decide) _)
  ·exact IsiPair.NoneType_list (no (by decide) _)
  ·exact IsiPair.NoneType_tuple (no (by decide) _)
  ·exact IsiPair.NoneType_str (no (by decide) _)
 | _ => cases hT
theorem mt_strip : MtM X "str.strip" (fun x vs H Q => ∃ z y, x = .str z ∧ vs = [.str y] ∧ z.length ≤ sizeLine ∧ Q (.str (Txt.stripChars z y)) H) := by
 intro pins s σ H x vs v us Q I rx rv h
 obtain ⟨z, y, rfl, rfl, hz, q⟩ := h
 obtain ⟨t, rfl⟩ := rx
 obtain ⟨u, rfl, t', rfl⟩ := rv.one
 exact SC.stripChars (fun t' k => ⟨.str _, H, I.tok _, ⟨_, rfl⟩, q⟩) hz
theorem sl_str : SlR X (fun x lo hi H Q => ∃ z, x = .str z ∧ z.length ≤ sizeLine ∧ Q (.str (Txt.slice z lo hi)) H) := by
 intro pins s σ H x v vl vu lo hi sl Q I rx hs pl pu h
 obtain ⟨z, rfl, hz, q⟩ := h
 obtain ⟨t, rfl⟩ := rx
 have fin : ∀ t' k, EP X pins σ Q (.str (Txt.slice z lo hi) t') { s with toks := k } := fun t' k => ⟨.str _, H, I.tok _, ⟨_, rfl⟩, q⟩
 refine ⟨"str", _, F.slot_str_getitem.lookup, typeIs_str _ _ _, ?_⟩
 cases pl with
 | none =>
  cases pu with
  | none => exact wpAny_getItem_str_slice (l := none) (u := none) (st := none) hs rfl (post_val_or_str ⟨Nat.le_trans (Txt.slice_le z _ _) hz, fin⟩)
  | int j uj => exact wpAny_getItem_str_slice (l := none) (u := some (j, uj)) (st := none) hs rfl (post_val_or_str ⟨Nat.le_trans (Txt.slice_le z _ _) hz, fin⟩)
 | int i ui =>
  cases pu with
  | none => exact wpAny_getItem_str_slice (l := some (i, ui)) (u := none) (st := none) hs rfl (post_val_or_str ⟨Nat.le_trans (Txt.slice_le z _ _) hz, fin⟩)
  | int j uj => exact wpAny_getItem_str_slice (l := some (i, ui)) (u := some (j, uj)) (st := none) hs rfl (post_val_or_str ⟨Nat.le_trans (Txt.slice_le z _ _) hz, fin⟩)
end
end L2
end
section
namespace L2
open PySem PySem.Spec PyProof.Rows
mutual
inductive DV (H : Hp) : V → PyData → Prop
 | non : DV H .non .none
 | bl (b : Bool) : DV H (.bl b) (.bool b)
 | int (i : Int) : DV H (.int i) (.int i)
 | str (x : Str) : DV H (.str x) (.str x)
 | lst {a : Addr} {xs : List V} {ds : List PyData} : H a = some (.lst xs) → DVs H xs ds → DV H (.ref a) (.list ds)
 | tup {a : Addr} {xs : List V} {ds : List PyData} : H a = some (.tup xs) → DVs H xs ds → DV H (.ref a) (.tuple ds)
 | dic {a : Addr} : H a = some (.dK []) → DV H (.ref a) (.dict [])
inductive DVs (H : Hp) : List V → List PyData → Prop
 | nil : DVs H [] []
 | cons {x : V} {d : PyData} {xs : List V} {ds : List PyData} : DV H x d → DVs H xs ds → DVs H (x :: xs) (d :: ds)
end
mutual
theorem DV.mono {H H' : Hp} (k : Same H H') : ∀ {v : V} {d : PyData}, DV H v d → DV H' v d
 | _, _, .non => .non
 | _, _, .bl b => .bl b
 | _, _, .int i => .int i
 | _, _, .str x => .str x
 | _, _, .lst h r => .lst (k _ _ h) (DVs.mono k r)
 | _, _, .tup h r => .tup (k _ _ h) (DVs.mono k r)
 | _, _, .dic h => .dic (k _ _ h)
theorem DVs.mono {H H' : Hp} (k : Same H H') : ∀ {vs : List V} {ds : List PyData}, DVs H vs ds → DVs H' vs ds
 | _, _, .nil => .nil
 | _, _, .cons h r => .cons (DV.mono k h) (DVs.mono k r)
end
section
variable {X : Cx} {pins : List (Addr × Obj)} {σ : St} {H : Hp} {s : Shared}
mutual
theorem DV.reads (I : Inv X pins σ H s) : ∀ {v : V} {d : PyData} {u : Value}, DV H v d → d.canLay0 = true → RelV v u → ∃ as, Reads s.heap u d as
 | _, _, _, .non, _, r => by cases r; exact ⟨_, .none⟩
 | _, _, _, .bl b, _, r => by cases r; exact ⟨_, .bool b⟩
 | _, _, _, .int i, _, r => by obtain ⟨t, rfl⟩ := r; exact ⟨_, .int i t⟩
 | _, _, _, .str x, _, r => by obtain ⟨t, rfl⟩ := r; exact ⟨_, .str x t⟩
 | _, _, _, .lst h rr, c, r => by
  cases r
  obtain ⟨_, its, n, rv, e⟩ := I.hok _ _ h
  obtain ⟨as, q⟩ := DVs.reads I rr (by simpa [PyData.canLay0] using c) rv
  exact ⟨_, .list e rfl rfl (by simpa using q)⟩
 | _, _, _, .tup h rr, c, r => by
  cases r
  obtain ⟨_, its, rv, o, e, hc, n, hd⟩ := I.hok _ _ h
  obtain ⟨as, q⟩ := DVs.reads I rr (by simpa [PyData.canLay0] using c) rv
  exact ⟨_, .tuple e hc hd (by simpa using q)⟩
 | _, _, _, .dic h, c, r => by simp [PyData.canLay0] at c
theorem DVs.reads (I : Inv X pins σ H s) : ∀ {vs : List V} {ds : List PyData} {us : List Value}, DVs H vs ds → PyData.canLayAll0 ds = true → Vals vs us → ∃ as, ReadsAll s.heap us ds as
 | _, _, _, .nil, _, r => by cases r; exact ⟨_, .nil⟩
 | _, _, _, .cons h rr, c, r => by
  have c' := by simpa [PyData.canLayAll0] using c
  cases r with
  | cons r1 r2 =>
   obtain ⟨as, q⟩ := DV.reads I h c'.1 r1
   obtain ⟨bs, p⟩ := DVs.reads I rr c'.2 r2
   exact ⟨_, .cons q p⟩
end
end
section
variable {X : Cx}
theorem op_eqD (hu : X.A.units + 64 < cLine) : OpR X (compareOp .Eq) (fun x y H Q => ∃ d e, DV H x d ∧ DV H y e ∧ SeqAt.shaped d = true ∧ SeqAt.shaped e = true ∧ Q (.bl (PyData.eqv d e)) H) := by
 intro pins s σ H x y v u Q I rx ry h
 obtain ⟨d, e, hd, he, sd, se, q⟩ := h
 obtain ⟨as, ra⟩ := hd.reads I (SeqAt.canLay_of_shaped sd) rx
 obtain ⟨bs, rb⟩ := he.reads I (SeqAt.canLay_of_shaped se) ry
 exact eq_dataH ra rb sd se hu ⟨.bl _, H, I, rfl, q⟩
theorem op_neD (hu : X.A.units + 64 < cLine) : OpR X (compareOp .NotEq) (fun x y H Q => ∃ d e, DV H x d ∧ DV H y e ∧ SeqAt.shaped d = true ∧ SeqAt.shaped e = true ∧ Q (.bl (!PyData.eqv d e)) H) := by
 intro pins s σ H x y v u Q I rx ry h
 obtain ⟨d, e, hd, he, sd, se, q⟩ := h
 obtain ⟨as, ra⟩ := hd.reads I (SeqAt.canLay_of_shaped sd) rx
 obtain ⟨bs, rb⟩ := he.reads I (SeqAt.canLay_of_shaped se) ry
 exact ne_dataH ra rb sd se hu ⟨.bl _, H, I, rfl, q⟩
end
mutual
theorem eqv_refl : ∀ d : PyData, d.canLay0 = true → PyData.eqv d d = true
 | .none, _ => by simp [PyData.eqv]
 | .bool b, _ => by simp [PyData.eqv]
 | .int i, _ => by simp [PyData.eqv]
 | .str x, _ => by simp [PyData.eqv]
 | .list xs, h => by rw [PyData.eqv]; exact eqvAll_refl xs (by simpa [PyData.canLay0] using h)
 | .tuple xs, h => by rw [PyData.eqv]; exact eqvAll_refl xs (by simpa [PyData.canLay0] using h)
 | .dict xs, h => by simp [PyData.canLay0] at h
theorem eqvAll_refl : ∀ ds : List PyData, PyData.canLayAll0 ds = true → PyData.eqvAll ds ds = true
 | [], _ => by simp [PyData.eqvAll]
 | d :: ds, h => by
  have h' : d.canLay0 = true ∧ PyData.canLayAll0 ds = true := by simpa [PyData.canLayAll0] using h
  rw [PyData.eqvAll, eqv_refl d h'.1, eqvAll_refl ds h'.2]; rfl
end
def sg (b : Bool) : Nat := if b then 49 else 48
def bs (w : List Bool) : Str := ⟨(w.map sg).toArray⟩
theorem bs_len (w : List Bool) : (bs w).length = w.length := by show ((w.map sg).toArray).size = _; simp
theorem sg_inj {a b : Bool} (h : sg a = sg b) : a = b := by cases a <;> cases b <;> first | rfl | cases h
theorem bs_inj {v w : List Bool} (h : bs v = bs w) : v = w := by
 have h1 : (v.map sg).toArray = (w.map sg).toArray := congrArg Str.cps h
 have h2 : v.map sg = w.map sg := by simpa using congrArg Array.toList h1
 clear h h1
 induction v generalizing w with
 | nil => cases w <;> simp_all
 | cons a v ih =>
  cases w with
  | nil => simp at h2
  | cons b w =>
   simp only [List.map_cons, List.cons.injEq] at h2
   rw [sg_inj h2.1, ih h2.2]
theorem bs_app (v w : List Bool) : bs v ++ bs w = bs (v ++ w) := by
 show (⟨(v.map sg).toArray ++ (w.map sg).toArray⟩ : Str) = ⟨((v ++ w).map sg).toArray⟩
 simp
theorem bs_nil : ("" : Str) = bs [] := by decide +kernel
end L2
end
section
namespace L2
open PySem PySem.Spec PyProof.Rows
section
variable {X : Cx} {a b c e o : Expr} {es : List Expr} {pos : Pos}
theorem PE.of {t t' : TE} (h : PE X e t) (k : ∀ σ H Q, t' σ H Q → t σ H Q) : PE X e t' := fun pins s σ H Q I q => h pins s σ H Q I (k _ _ _ q)
theorem OpR.of {f : Value → Value → Sem Value} {r r' : R2} (h : OpR X f r) (k : ∀ x y H Q, r' x y H Q → r x y H Q) : OpR X f r' := fun pins s σ H x y v u Q I rx ry q => h pins s σ H x y v u Q I rx ry (k _ _ _ _ q)
def tV (i : Nat) : TE := fun σ H Q => match σ[i]? with
 | some (some v) => Q v H
 | _ => False
theorem vr (i : Nat) {x : Str} (hN : X.N[i]? = some x := by rfl) (hv : Vis X.env.scope x := by first | exact Or.inl rfl | exact Or.inr (Or.inl rfl) | exact Or.inr (Or.inr rfl)) (hd : (x == ("__debug__" : Str)) = false := by decide)
  (hcd : (x == ("__classdict__" : Str)) = false := by decide) : PE X (.Name x pos) (tV i) := (pe_var hN hv hd hcd).of fun σ H Q q => by
 unfold tV at q
 split at q
 ·exact ⟨_, by assumption, q⟩
 ·exact q.elim
def rN (C : Int → Int → Prop) (g : Int → Int → V) : R2 := fun x y H Q => match x, y with
 | .int i, .int j => C i j ∧ Q (g i j) H
 | _, _ => False
def rN0 (g : Int → Int → V) : R2 := fun x y H Q => match x, y with
 | .int i, .int j => Q (g i j) H
 | _, _ => False
theorem OpR.n {f : Value → Value → Sem Value} {C : Int → Int → Prop} {g : Int → Int → V} (h : OpR X f (rI C g)) : OpR X f (rN C g) := h.of fun x y H Q q => by
 unfold rN at q
 split at q
 ·exact ⟨_, _, rfl, rfl, q⟩
 ·exact q.elim
theorem OpR.n0 {f : Value → Value → Sem Value} {g : Int → Int → V} (h : OpR X f (rI0 g)) : OpR X f (rN0 g) := h.of fun x y H Q q => by
 unfold rN0 at q
 split at q
 ·exact ⟨_, _, rfl, rfl, q⟩
 ·exact q.elim
def rAddU : R2 := fun x y H Q => match x, y with
 | .int i, .int j => Q (.int (i + j)) H
 | .str i, .str j => i.length + j.length ≤ sizeLine ∧ Q (.str (i ++ j)) H
 | .ref p, .ref q => ∃ xs zs, H p = some (.lst xs) ∧ H q = some (.lst zs) ∧ xs.length + zs.length ≤ sizeLine ∧ ∀ n, H n = none → Q (.ref n) (upd H n (.lst (xs ++ zs)))
 | _, _ => False
theorem op_addU : OpR X (binaryOp .Add) rAddU := (op_add.or (op_add_str.or op_cat)).of fun x y H Q q => by
 unfold rAddU at q
 split at q
 ·exact .inl ⟨_, _, rfl, rfl, q⟩
 ·exact .inr (.inl ⟨_, _, rfl, rfl, q⟩)
 ·obtain ⟨xs, zs, h1, h2, h3, h4⟩ := q
  exact .inr (.inr ⟨_, _, xs, zs, rfl, rfl, h1, h2, h3, h4⟩)
 ·exact q.elim
def rMulU : R2 := fun x y H Q => match x, y with
 | .int i, .int j => CMul i j ∧ Q (.int (i * j)) H
 | .ref p, .int k => ∃ xs, H p = some (.lst xs) ∧ -(2 ^ 63) ≤ k ∧ k < 2 ^ 63 ∧ xs.length * k.toNat ≤ sizeLine ∧ ∀ n, H n = none → Q (.ref n) (upd H n (.lst (List.replicate k.toNat xs).flatten))
 | _, _ => False
theorem op_mulU : OpR X (binaryOp .Mult) rMulU := (op_mul.or op_rep).of fun x y H Q q => by
 unfold rMulU at q
 split at q
 ·exact .inl ⟨_, _, rfl, rfl, q⟩
 ·obtain ⟨xs, h1, h2, h3, h4, h5⟩ := q
  exact .inr ⟨_, _, xs, rfl, rfl, h1, h2, h3, h4, h5⟩
 ·exact q.elim
def rEqU : R2 := fun x y H Q => match x, y with
 | .int i, .int j => Q (.bl (decide (i = j))) H
 | .str i, .str j => Q (.bl (decide (i = j))) H
 | .bl i, .bl j => Q (.bl (decide (i = j))) H
 | .ref p, .ref q => ∃ d e, DV H (.ref p) d ∧ DV H (.ref q) e ∧ SeqAt.shaped d = true ∧ SeqAt.shaped e = true ∧ Q (.bl (PyData.eqv d e)) H
 | _, _ => False
theorem vint_dec (i j : Int) : decide (V.int i = V.int j) = decide (i = j) := by simp
theorem vstr_dec (i j : Str) : decide (V.str i = V.str j) = decide (i = j) := by simp
theorem vbl_dec (i j : Bool) : decide (V.bl i = V.bl j) = decide (i = j) := by simp
theorem op_eqU (hu : X.A.units + 64 < cLine) : OpR X (compareOp .Eq) rEqU := (op_eq.or (op_eqD hu)).of fun x y H Q q => by
 unfold rEqU at q
 split at q
 ·exact .inl ⟨rfl, by rw [vint_dec]; exact q⟩
 ·exact .inl ⟨rfl, by rw [vstr_dec]; exact q⟩
 ·exact .inl ⟨rfl, by rw [vbl_dec]; exact q⟩
 ·exact .inr q
 ·exact q.elim
def rNeU : R2 := fun x y H Q => rEqU x y H fun v H' => match v with
 | .bl k => Q (.bl (!k)) H'
 | _ => False
theorem op_neU (hu : X.A.units + 64 < cLine) : OpR X (compareOp .NotEq) rNeU := (op_ne.or (op_neD hu)).of fun x y H Q q => by
 unfold rNeU rEqU at q
 split at q
 ·exact .inl ⟨rfl, by rw [vint_dec]; exact q⟩
 ·exact .inl ⟨rfl, by rw [vstr_dec]; exact q⟩
 ·exact .inl ⟨rfl, by rw [vbl_dec]; exact q⟩
 ·exact .inr q
 ·exact q.elim
def getV (H : Hp) (x : V) (i : Int) : Option V := match x with
 | .ref p => match H p with
  | some (.lst xs) => atI xs i
  | some (.tup xs) => atI xs i
  | some (.frz _ (.lst xs)) => atI xs i
  | _ => none
 | .str z => if z.length ≤ sizeLine then (atI z.cps.toList i).map fun c => V.str ⟨#[c]⟩ else none
 | _ => none
theorem getV_lst {H : Hp} {p : Addr} {xs : List V} {i : Int} (h : H p = some (.lst xs)) : getV H (.ref p) i = atI xs i := by simp [getV, h]
theorem getV_tup {H : Hp} {p : Addr} {xs : List V} {i : Int} (h : H p = some (.tup xs)) : getV H (.ref p) i = atI xs i := by simp [getV, h]
def rIxU : R2 := fun x y H Q => match y with
 | .int i => ∃ v, getV H x i = some v ∧ Q v H
 | _ => False
theorem ixU : IxR X rIxU := by
 intro value slice pins s σ H x y v u Q I rx ry q hs
 refine ix_seq value slice pins s σ H x y v u Q I rx ry ?_ hs
 unfold rIxU at q
 split at q
 ·obtain ⟨z, hz, q⟩ := q
  unfold getV at hz
  split at hz
  ·split at hz
   ·rename_i xs hx
    exact .inl ⟨_, xs, _, z, rfl, rfl, SqL.of hx, hz, q⟩
   ·rename_i xs hx
    exact .inr (.inl ⟨_, xs, _, z, rfl, rfl, SqT.of hx, hz, q⟩)
   ·rename_i oo xs hx
    exact .inl ⟨_, xs, _, z, rfl, rfl, .inl (.inr ⟨_, hx⟩), hz, q⟩
   ·cases hz
  ·split at hz
   ·rename_i hl
    obtain ⟨c, hc, rfl⟩ := Option.map_eq_some_iff.mp hz
    exact .inr (.inr ⟨_, _, c, rfl, rfl, hl, hc, q⟩)
   ·cases hz
  ·cases hz
 ·exact q.elim
def rSlU : V → Option Int → Option Int → Hp → VK → Prop := fun x lo hi H Q => match x with
 | .ref p => ∃ xs, H p = some (.lst xs) ∧ ∀ n, H n = none → Q (.ref n) (upd H n (.lst (cutV xs lo hi)))
 | .str z => z.length ≤ sizeLine ∧ Q (.str (Txt.slice z lo hi)) H
 | _ => False
theorem slU : SlR X rSlU := by
 intro pins s σ H x v vl vu lo hi sl Q I rx hs pl pu q
 refine (sl_list.or sl_str) pins s σ H x v vl vu lo hi sl Q I rx hs pl pu ?_
 unfold rSlU at q
 split at q
 ·obtain ⟨xs, h, q⟩ := q
  exact .inl ⟨_, xs, rfl, SqL.of h, q⟩
 ·exact .inr ⟨_, rfl, q⟩
 ·exact q.elim
def tPartU (t : TE) : TO := fun σ H Q => t σ H fun x H1 => match x with
 | .int i => Q (some i) H1
 | _ => False
theorem po_someU {te : TE} (h : PE X e te) : PO X (some e) (tPartU te) := by
 intro pins s σ H Q I hw
 rw [evalPart_some]
 refine thn (h pins s σ H _ I hw) fun u s1 ⟨x, H1, I1, r1, q1⟩ => ?_
 dsimp only at q1
 split at q1
 ·obtain ⟨t, rfl⟩ := r1
  exact ⟨some _, H1, I1, .int _ t, q1⟩
 ·exact q1.elim
def tBU (t : TE) : TT := fun σ H Q => t σ H fun x H1 => match x with
 | .bl c => Q c H1
 | _ => False
theorem bu_of {Q : Bool → Hp → Prop} {x : V} {H1 : Hp} (q : match x with | .bl c => Q c H1 | _ => False) : ∃ c, x = .bl c ∧ Q c H1 := by
 split at q
 ·exact ⟨_, rfl, q⟩
 ·exact q.elim
theorem pt_cmpU {op : CmpOp} {r : R2} {ta tb : TE} (ho : OpR X (compareOp op) r) (ha : PE X a ta) (hb : PE X b tb) (hm : behindInMarks op b = false := by first | exact nomark _ | rfl | (with_unfolding_all rfl)) : PT X (.Compare a [op] [b] pos) (tBU (tOp r ta tb)) := by
 intro pins s σ H Q I h
 refine wpAny_isTrue_Compare1 (thn (ha pins s σ H _ I h) fun v s1 ⟨x, H1, I1, r1, q1⟩ => thn (hb pins s1 σ H1 _ I1 q1) fun u s2 ⟨y, H2, I2, r2, q2⟩ =>
  thn (ho pins s2 σ H2 x y v u _ I2 r1 r2 q2) fun c s3 ⟨z, H3, I3, r3, q3⟩ => ?_) hm
 obtain ⟨k, e, q3⟩ := bu_of q3
 subst e
 cases r3
 exact wpAny_truthy_bool ⟨H3, I3, q3⟩
theorem pe_cmpU {op : CmpOp} {r : R2} {ta tb : TE} (ho : OpR X (compareOp op) r) (ha : PE X a ta) (hb : PE X b tb) (hm : behindInMarks op b = false := by first | exact nomark _ | rfl | (with_unfolding_all rfl)) : PE X (.Compare a [op] [b] pos) (tOp r ta tb) := pe_cmpR ho ha hb hm
def tAndU (ta tb : TE) : TE := fun σ H Q => ta σ H fun x H1 => match x with
 | .bl c => if c = true then tb σ H1 Q else Q (.bl false) H1
 | _ => False
def tNotU (ta : TE) : TE := fun σ H Q => ta σ H fun x H1 => match x with
 | .bl c => Q (.bl (!c)) H1
 | _ => False
variable {ta tb tc : TE} {rest : List Expr}
theorem pe_andU (ha : PE X a ta) (hb : PE X (.BoolOp .And (b :: rest) pos) tb) : PE X (.BoolOp .And (a :: b :: rest) pos) (tAndU ta tb) := by
 intro pins s σ H Q I h
 refine BoolOp_and (thn (ha pins s σ H _ I h) fun v s1 ⟨x, H1, I1, r1, q1⟩ => ?_)
 dsimp only at q1
 split at q1
 ·rename_i c
  cases r1
  refine wpAny_truthy_bool ?_
  cases c with
  | true => exact hb pins s1 σ H1 Q I1 q1
  | false => exact ⟨.bl false, H1, I1, rfl, q1⟩
 ·exact q1.elim
theorem pe_notU (ha : PE X a ta) : PE X (.UnaryOp .Not a pos) (tNotU ta) := by
 intro pins s σ H Q I h
 refine UnaryOp_ (thn (ha pins s σ H _ I h) fun v s1 ⟨x, H1, I1, r1, q1⟩ => ?_)
 dsimp only at q1
 split at q1
 ·cases r1
  exact not_of (wpAny_truthy_bool ⟨.bl _, H1, I1, rfl, q1⟩)
 ·exact q1.elim
theorem CallR.of {f : Value} {r r' : List V → Hp → VK → Prop} (h : CallR X f r) (k : ∀ xs H Q, r' xs H Q → r xs H Q) : CallR X f r' := fun pins s σ H xs us Q I rx q => h pins s σ H xs us Q I rx (k _ _ _ q)
theorem MtM.of {id : String} {r r' : V → List V → Hp → VK → Prop} (h : MtM X id r) (k : ∀ x xs H Q, r' x xs H Q → r x xs H Q) : MtM X id r' := fun pins s σ H x xs v us Q I rx rs q => h pins s σ H x xs v us Q I rx rs (k _ _ _ _ q)
def lenV (H : Hp) (x : V) : Option Nat := match x with
 | .str z => if z.length ≤ sizeLine then some z.length else none
 | .ref p => match H p with
  | some (.lst xs) => some xs.length
  | some (.tup xs) => some xs.length
  | some (.frz _ (.lst xs)) => some xs.length
  | _ => none
 | _ => none
def rLen : List V → Hp → VK → Prop := fun vs H Q => match vs with
 | [x] => ∃ k : Nat, lenV H x = some k ∧ Q (.int k) H
 | _ => False
theorem call_lenU : CallR X (.builtin "len") rLen := (call_len_seq.or call_len_str).of fun xs H Q q => by
 unfold rLen at q
 split at q
 ·obtain ⟨k, hk, q⟩ := q
  unfold lenV at hk
  split at hk
  ·split at hk
   ·rename_i hl
    cases hk
    exact .inr ⟨_, rfl, hl, q⟩
   ·cases hk
  ·split at hk
   ·cases hk; exact .inl ⟨_, _, rfl, .inl (SqL.of (by assumption)), q⟩
   ·cases hk; exact .inl ⟨_, _, rfl, .inr (SqT.of (by assumption)), q⟩
   ·cases hk; exact .inl ⟨_, _, rfl, .inl (.inl (.inr ⟨_, by assumption⟩)), q⟩
   ·cases hk
  ·cases hk
 ·exact q.elim
def rListOf : List V → Hp → VK → Prop := fun vs H Q => match vs with
 | [.ref p] => ∃ xs, (H p = some (.lst xs) ∨ H p = some (.tup xs)) ∧ ∀ l, H l = none → Q (.ref l) (upd H l (.lst xs))
 | _ => False
theorem call_listU : CallR X (.type "list") rListOf := call_list_of.of fun xs H Q q => by
 unfold rListOf at q
 split at q
 ·obtain ⟨ys, h, q⟩ := q
  exact ⟨_, ys, rfl, h.elim (fun z => .inl (SqL.of z)) (fun z => .inr (SqT.of z)), q⟩
 ·exact q.elim
def rMax : List V → Hp → VK → Prop := fun vs H Q => match vs with
 | [.int i, .int j] => Q (.int (if j > i then j else i)) H
 | _ => False
theorem call_maxU (hc : X.calm = true) : CallR X (.builtin "max") rMax := (call_max2 hc).of fun xs H Q q => by
 unfold rMax at q
 split at q
 ·exact ⟨_, _, rfl, q⟩
 ·exact q.elim
def rMin : List V → Hp → VK → Prop := fun vs H Q => match vs with
 | [.int i, .int j] => Q (.int (if j < i then j else i)) H
 | _ => False
theorem call_minU (hc : X.calm = true) : CallR X (.builtin "min") rMin := (call_min2 hc).of fun xs H Q q => by
 unfold rMin at q
 split at q
 ·exact ⟨_, _, rfl, q⟩
 ·exact q.elim
def rIsI : List V → Hp → VK → Prop := fun vs H Q => match vs with
 | [x, .ty T] => ∃ Tx, tyN H x = some Tx ∧ T ∈ ["int", "bool", "list", "tuple", "str"] ∧ Q (.bl (Tx == T || (Tx == "bool" && T == "int"))) H
 | _ => False
theorem call_isU : CallR X (.builtin "isinstance") rIsI := call_isinst.of fun xs H Q q => by
 unfold rIsI at q
 split at q
 ·obtain ⟨Tx, h1, h2, q⟩ := q
  exact ⟨_, _, Tx, rfl, h1, h2, q⟩
 ·exact q.elim
def rApp : V → List V → Hp → VK → Prop := fun x vs H Q => match x, vs with
 | .ref l, [y] => ∃ xs, H l = some (.lst xs) ∧ xs.length < sizeLine ∧ Q .non (upd H l (.lst (xs ++ [y])))
 | _, _ => False
theorem mt_appU : MtM X "list.append" rApp := mt_append.of fun x xs H Q q => by
 unfold rApp at q
 split at q
 ·obtain ⟨ys, h1, h2, q⟩ := q
  exact ⟨_, ys, _, rfl, rfl, h1, h2, q⟩
 ·exact q.elim
def rStrip : V → List V → Hp → VK → Prop := fun x vs H Q => match x, vs with
 | .str z, [.str y] => z.length ≤ sizeLine ∧ Q (.str (Txt.stripChars z y)) H
 | _, _ => False
theorem mt_stripU : MtM X "str.strip" rStrip := mt_strip.of fun x xs H Q q => by
 unfold rStrip at q
 split at q
 ·exact ⟨_, _, rfl, rfl, q⟩
 ·exact q.elim
def tyU (H : Hp) (T : String) : V → Prop
 | .str _ => T = "str"
 | .int _ => T = "int"
 | .ref p => ∃ xs, T = "list" ∧ H p = some (.lst xs)
 | _ => False
theorem tyU_of {K : PySem.W.Frag} {H : Hp} {T : String} {x : V} (h : tyU H T x) : tyV K T x H := by
 cases x with
 | str z => exact h
 | int z => exact h
 | ref p => obtain ⟨xs, h1, h2⟩ := h; exact .inl ⟨h1, xs, SqL.of h2⟩
 | _ => exact h.elim
end
theorem le_line {n : Nat} (h : n ≤ 1000) : n ≤ sizeLine := Nat.le_trans h (by decide)
theorem lt_line {n : Nat} (h : n ≤ 1000) : n < sizeLine := Nat.lt_of_le_of_lt h (by decide)
theorem Same.upd {H : Hp} {p : Addr} {o : HO} (h : H p = none) : Same H (upd H p o) := fun b u e => by rw [upd_ne (ne_of_none e h)]; exact e
theorem atI_int {α : Type} {xs : List α} {i : Int} {v : α} (h0 : 0 ≤ i) (h : xs[i.toNat]? = some v) : atI xs i = some v := by
 have e : i = (i.toNat : Int) := by omega
 rw [e]
 exact atI_nat h
theorem gl {H : Hp} {p : Addr} {xs : List V} {i : Int} {v : V} (h : H p = some (.lst xs)) (h0 : 0 ≤ i) (hv : xs[i.toNat]? = some v) : getV H (.ref p) i = some v := by rw [getV_lst h]; exact atI_int h0 hv
theorem gt {H : Hp} {p : Addr} {xs : List V} {i : Int} {v : V} (h : H p = some (.tup xs)) (h0 : 0 ≤ i) (hv : xs[i.toNat]? = some v) : getV H (.ref p) i = some v := by rw [getV_tup h]; exact atI_int h0 hv
theorem lenL {H : Hp} {p : Addr} {xs : List V} (h : H p = some (.lst xs)) : lenV H (.ref p) = some xs.length := by simp [lenV, h]
theorem gs {H : Hp} {w : List Bool} {i : Int} {b : Bool} (hz : w.length ≤ sizeLine) (h0 : 0 ≤ i) (hv : w[i.toNat]? = some b) : getV H (.str (bs w)) i = some (.str (bs [b])) := by
 show (if (bs w).length ≤ sizeLine then (atI (bs w).cps.toList i).map fun c => V.str ⟨#[c]⟩ else none) = _
 rw [if_pos (by rw [bs_len]; exact hz)]
 have : atI (bs w).cps.toList i = some (sg b) := atI_int h0 (by show ((w.map sg).toArray.toList)[i.toNat]? = _; simp [hv])
 rw [this]
 rfl
end L2
end
section
namespace L2
open PySem
theorem small_some {a b c : Int} (ha : -(2 ^ 30) ≤ a) (ha' : a < 2 ^ 30) (hb : -(2 ^ 30) ≤ b) (hb' : b < 2 ^ 30) (hc : c ≠ 0) (hc1 : -(2 ^ 30) < c) (hc2 : c < 2 ^ 30) : Builtin.Range.small a b c = true := by
 have h2 : (0 : Int) ≤ Builtin.Range.rangeSize a b c ∧ Builtin.Range.rangeSize a b c ≤ 2 ^ 32 := by
  unfold Builtin.Range.rangeSize
  split
  ·split
   ·have h1 : 0 ≤ (b - a - 1) / c := Int.ediv_nonneg (by omega) (by omega)
    have h3 : (b - a - 1) / c ≤ b - a - 1 := Int.ediv_le_self _ (by omega)
    omega
   ·omega
  ·split
   ·have h1 : 0 ≤ (a - b - 1) / (-c) := Int.ediv_nonneg (by omega) (by omega)
    have h3 : (a - b - 1) / (-c) ≤ a - b - 1 := Int.ediv_le_self _ (by omega)
    omega
   ·omega
 unfold Builtin.Range.small
 simp only [Builtin.Range.rangeFitsLong, Bool.and_eq_true, Bool.or_eq_true, decide_eq_true_eq, beq_iff_eq]
 refine ⟨by omega, .inr ?_⟩
 split <;> (simp only [Bool.and_eq_true, decide_eq_true_eq]; omega)
end L2
end
section
namespace L2
open PySem PySem.Spec PyProof.Rows
def FnX (K : PySem.W.Frag) (mg : Str → Option Value) (x : Str) (st : Stmt) (ps : List Str) : Prop := ∃ f fd, Fun K x x st f fd ∧ mg x = some (.ref f) ∧ Binds K fd ps []
def Can (P : Program) (w : World) (K : PySem.W.Frag) (mg : Str → Option Value) (base : Heap) (x : Str) (k : Nat) (ps : List Str) (sp : Sp) : Prop :=
 ∃ f fd, FnOk P w K mg base CX0 k f fd ps sp ∧ mg x = some (.ref f) ∧ PySem.W.keepIn K (.ref f) = true ∧ Binds K fd ps []
section
variable {P : Program} {w : World} {K : PySem.W.Frag} {mg : Str → Option Value} {base : Heap}
theorem can_fn {x : Str} {st : Stmt} {N ps : List Str} {k : Nat} {sp : Sp} (D : FnX K mg x st ps) (S : FnScope N ps (defScope st)) (len : ∀ vs H Q E, sp vs H Q E → vs.length = ps.length)
  (hbody : ∀ (f : Addr) (cdv : Value) (A : Around) (outer : List Env) (s : Shared) (H : Hp) (vs : List V) (Q : VK) (E : XK), Room k (A.deeper (envOfC x (defScope st) s.heap.objs.size f cdv)) → sp vs H Q E →
   ∃ t, PSs (cxOf CX0 P w K mg base N x (defScope st) f cdv A outer s H E).nox (defBody st) t ∧ t { nx := fun _ H' => Q .non H', rt := Q } (start N vs) H) : Can P w K mg base x (k + 1) ps sp := by
 obtain ⟨f, fd, F, hm, hb⟩ := D
 exact ⟨f, fd, F.ok S len fun cdv A outer s H vs Q E hr h => hbody f cdv A outer s H vs Q E hr h, hm, F.kp, hb⟩
end
section
variable {X : Cx} {x : Str} {p pos apos : Pos} {e o : Expr} {es : List Expr} {t : TA} {te to ti : TE} {k : Nat} {ps : List Str} {sp : Sp}
def tCan (sp : Sp) (t : TA) : TE := fun σ H Q => t σ H fun vs H1 => sp vs H1 Q E0
theorem PA.of {t t' : TA} (h : PA X es t) (k : ∀ σ H Q, t' σ H Q → t σ H Q) : PA X es t' := fun pos pins s σ H Q I q => h pos pins s σ H Q I (k _ _ _ q)
theorem pe_can (C : Can X.prog X.w X.K X.mg X.base x k ps sp) (hr : Room k X.A) (ha : PA X (e :: es) t) (hg : Gl X x := by rfl)
  (hdb : (x == ("__debug__" : Str)) = false := by decide) (he : starEach (e :: es) X.env = (false, eval e X.env) :: starEach es X.env := by rfl) (hpl : (backTo pos (starEach es X.env)).any (·.1) = false := by rfl) :
  PE X (.Call (.Name x p) (e :: es) [] pos) (tCan sp t) := by
 obtain ⟨f, fd, F, hm, hk, hb⟩ := C
 have h := pe_call (pos := pos) (p := p) F hr hg hm hk hb .nil pass0 ha hdb he hpl
 intro pins s σ H Q I q
 refine thn (h pins s σ H Q I ?_) fun _ _ z => z
 have ee : tCall sp [] E0 t = tCan sp t := by funext σ H Q; unfold tCall tCan; simp only [List.append_nil]
 rw [ee]
 exact q
theorem pe_len (hm : X.mg "len" = none) (ha : PA X (e :: es) t) (hg : Gl X "len" := by rfl) (he : starEach (e :: es) X.env = (false, eval e X.env) :: starEach es X.env := by rfl) (hpl : (backTo pos (starEach es X.env)).any (·.1) = false := by rfl) :
  PE X (.Call (.Name "len" p) (e :: es) [] pos) (tCB rLen t) := pe_callB call_lenU hg hm PySem.boot_len ha (he := he) (hpl := hpl)
theorem pe_isinst (hm : X.mg "isinstance" = none) (ha : PA X (e :: es) t) (hg : Gl X "isinstance" := by rfl) (he : starEach (e :: es) X.env = (false, eval e X.env) :: starEach es X.env := by rfl) (hpl : (backTo pos (starEach es X.env)).any (·.1) = false := by rfl) :
  PE X (.Call (.Name "isinstance" p) (e :: es) [] pos) (tCB rIsI t) := pe_callB call_isU hg hm PyProof.Rows.boot_isinstance ha (he := he) (hpl := hpl)
theorem pe_max (hc : X.calm = true) (hm : X.mg "max" = none) (ha : PA X (e :: es) t) (hg : Gl X "max" := by rfl) (he : starEach (e :: es) X.env = (false, eval e X.env) :: starEach es X.env := by rfl) (hpl : (backTo pos (starEach es X.env)).any (·.1) = false := by rfl) :
  PE X (.Call (.Name "max" p) (e :: es) [] pos) (tCB rMax t) := pe_callB (call_maxU hc) hg hm PyProof.Rows.boot_max ha (he := he) (hpl := hpl)
theorem pe_min (hc : X.calm = true) (hm : X.mg "min" = none) (ha : PA X (e :: es) t) (hg : Gl X "min" := by rfl) (he : starEach (e :: es) X.env = (false, eval e X.env) :: starEach es X.env := by rfl) (hpl : (backTo pos (starEach es X.env)).any (·.1) = false := by rfl) :
  PE X (.Call (.Name "min" p) (e :: es) [] pos) (tCB rMin t) := pe_callB (call_minU hc) hg hm PyProof.Rows.boot_min ha (he := he) (hpl := hpl)
theorem pe_ty {T : String} (hb : bootBuiltins x = some (.type T)) (hm : X.mg x = none) (hg : Gl X x := by rfl) (hn : x ≠ "__name__" := by decide) (hd : (x == ("__debug__" : Str)) = false := by decide) : PE X (.Name x pos) (tC (.ty T)) := pe_bltn hg hm hb rfl hn hd
def tMt (T : String) (r : V → List V → Hp → VK → Prop) (to : TE) (t : TA) : TE := fun σ H Q => to σ H fun x H1 => tyU H1 T x ∧ t σ H1 fun xs H2 => r x xs H2 Q
theorem pe_mt {T id : String} {name : Str} {cpos : Pos} {r : V → List V → Hp → VK → Prop} (pa : PlainAttrs T) (slot : Slot T name id) (hty : typeOf (.builtin id) = pure (.type "method_descriptor")) (hm : MtM X id r) (ho : PE X o to) (ha : PA X (e :: es) t)
  (hbase : attributeBase o name X.env (eval o X.env) = eval o X.env := by rfl)
  (hfew : ((backTo cpos (starEach (e :: es) X.env)).all (fun x => !x.1) && (backToKw cpos (keywordEach [] X.env)).all (fun x => x.1.isSome)
   && decide ((e :: es).length + ([] : List Keyword).length + (if ([] : List Keyword).isEmpty then 0 else 1) < 30)) = true := by rfl)
  (hline : (apos.endLine == cpos.line) = true := by rfl) (hs : starEach (e :: es) X.env = (false, eval e X.env) :: starEach es X.env := by rfl) (hplain : (backTo cpos (starEach es X.env)).any (·.1) = false := by rfl) :
  PE X (.Call (.Attribute o name apos) (e :: es) [] cpos) (tMt T r to t) := by
 intro pins s σ H Q I h
 refine wpAny_Call_method_late hbase hfew hline rfl (thn (ho pins s σ H _ I h) fun v s1 ⟨x, H1, I1, r1, ty, q1⟩ => ?_)
 obtain ⟨h1, h2⟩ := tyV_is I1 r1 (tyU_of ty)
 refine ⟨T, id, pa, slot, hty, h1, h2, ?_⟩
 have hA := ha cpos pins s1 σ H1 _ I1 q1
 rw [hs] at hA ⊢
 refine Calls.callWith_builtin (by show (false || (backTo cpos (starEach es X.env)).any (·.1)) = false; rw [hplain] <;> rfl) (Calls.evalArgs_plain ?_)
 exact thn hA fun us s2 ⟨vs, H2, I2, r2, q2⟩ => hm pins s2 σ H2 x vs v us Q I2 r1 r2 q2
def rSetU : V → V → V → Hp → (Hp → Prop) → Prop := fun o i v H Q => match o, i with
 | .ref p, .int k => ∃ xs j, H p = some (.lst xs) ∧ ixN xs.length k = some j ∧ Q (upd H p (.lst (xs.set j v)))
 | _, _ => False
theorem setU : PSet X rSetU := by
 intro pins s σ H o i v ov iv u Q I ro ri rv q
 refine set_list pins s σ H o i v ov iv u Q I ro ri rv ?_
 unfold rSetU at q
 split at q
 ·obtain ⟨xs, j, h1, h2, q⟩ := q
  exact ⟨_, xs, _, j, rfl, rfl, h1, h2, q⟩
 ·exact q.elim
def gTupU (K : PySem.W.Frag) (n : Nat) (t : TGs) : TG := fun v σ H Q => match v with
 | .ref a => ∃ xs, H a = some (.tup xs) ∧ xs.length = n ∧ t xs σ H Q
 | _ => False
def gConsU (t : TG) (u : TGs) : TGs := fun vs σ H Q => match vs with
 | v :: r => t v σ H fun σ' H' => u r σ' H' Q
 | [] => False
theorem pgs_consU {es : List Expr} {t : TG} {u : TGs} (h1 : PG X e t) (h2 : PGs X es u)
  (hs : (assignEach (e :: es) X.env).map (·.2) = assign e X.env :: (assignEach es X.env).map (·.2) := by rfl) : PGs X (e :: es) (gConsU t u) := by
 intro pins s σ H vs us Q I r hw
 refine pgs_cons h1 h2 hs pins s σ H vs us Q I r ?_
 unfold gConsU at hw
 split at hw
 ·exact ⟨_, _, rfl, hw⟩
 ·exact hw.elim
variable {tg : Expr}
def iLst (K : PySem.W.Frag) (tl : TE) : TI := fun σ H R => tl σ H fun x H1 => match x with
 | .ref a => (∃ xs, SqL K H1 a xs) ∧ R (Itl K a) H1
 | _ => False
theorem pi_lst {l : Expr} {tl : TE} (hl : PE X l tl) : PI X tg l (iLst X.K tl) := by
 intro pins s σ H R I h
 refine thn (hl pins s σ H _ I h) fun v s1 ⟨x, H1, I1, r1, q1⟩ => ?_
 dsimp only at q1
 split at q1
 ·rename_i a
  obtain ⟨⟨xs, hq⟩, q⟩ := q1
  cases r1
  obtain ⟨its, rv, p, hz⟩ := I1.list hq
  refine wpAny_pyIter_list p.isList ?_
  refine ⟨s1.heap.objs.size, [s1.heap.objs.size], _, _, H1, rfl, I1.kept (t' := s1.toks) fun b o e => Heap.get?_push_of_some _ e, turn_list a _, ⟨_, Heap.get?_push_size _ rfl, rfl, rfl⟩, fun b hb => ?_, q⟩
  have e : b = s1.heap.objs.size := by simpa using hb
  subst e
  exact I1.fpOk (Nat.le_refl _) (I1.hok.fresh (Nat.le_refl _))
 ·exact q1.elim
def iR1 (ta : TA) : TI := fun σ H R => ta σ H fun vs H1 => match vs with
 | [.int j] => -(2 ^ 62) ≤ j ∧ j < 2 ^ 62 ∧ R (Itr 0 j.toNat) H1
 | _ => False
theorem PI.of {iter : Expr} {w w' : TI} (h : PI X tg iter w) (k : ∀ σ H R, w' σ H R → w σ H R) : PI X tg iter w' := fun pins s σ H R I q => h pins s σ H R I (k _ _ _ q)
theorem pi_r1 {a : Expr} {ta : TA} (hm : X.mg "range" = none) (ha : PA X [a] ta) (hg : Gl X "range" := by rfl) (hs : starEach [a] X.env = [(false, eval a X.env)] := by rfl) : PI X tg (.Call (.Name "range" p) [a] [] pos) (iR1 ta) := by
 intro pins s σ H R I h
 refine Call_ (ld_blt I hg hm boot_range (PyProof.Rows.callWith_type1 (thn (ha pos pins s σ H _ I h) fun us s1 ⟨vs, H1, I1, r1, q1⟩ => ?_) hs rfl))
 dsimp only at q1
 split at q1
 ·obtain ⟨q1, q2, q⟩ := q1
  obtain ⟨u, rfl, t, rfl⟩ := vals1 r1
  exact call_range_1 (range_it I1 (by omega) (by omega) q1 q2 (by simpa using q))
 ·exact q1.elim
def Itrs (lo st : Int) (n : Nat) : It := ⟨fun i _ => i < n, fun i H x H' => H' = H ∧ x = .int (lo + (i : Nat) * st), fun i _ => n ≤ i⟩
theorem it_rangeS (lo st : Int) (n : Nat) : ItOk (Itrs lo st n) ((List.range n).map fun i => V.int (lo + (i : Nat) * st)) fun _ => True :=
 ⟨fun H _ => by show n ≤ _; simp, fun i H _ hi => (by show i < n; simpa using hi), fun i H x H' _ hi y => ⟨y.1, by
  have hi' : i < n := by simpa using hi
  obtain ⟨_, rfl⟩ := y
  simp [hi']⟩⟩
theorem turn_rangeS {P : Program} {w : World} {K : PySem.W.Frag} {tg : Expr} (it : Addr) (lo st : Int) (n : Nat) : Turn P w K tg (Itrs lo st n) [it] it (fun i h => IsRangeIter h it (lo + (i : Nat) * st) ((n : Int) - (i : Nat)) st) where
 mem := by simp
 obj := fun i h st b hb => by
  have e : b = it := by simpa using hb
  subst e
  exact ⟨_, st, fun v z => by
   have z' : Data.fields _ = Data.cell v := z
   cases z'⟩
 keep := fun i h h' st k => k it (by simp) _ st
 item := by
  intro X hP hw hK hc i pins s σ H E I hf st' hg
  subst hP hw hK
  obtain ⟨f0, f1, f2, f3, f4, f5⟩ := hf it (by simp)
  have W := Walks.range (prog := X.prog) (w := X.w) (I.ok.hd hc) it lo st n
  refine W.item i s _ _ hg st' fun v h' tk hv st'' kk => ?_
  obtain ⟨t, rfl⟩ := hv
  have I1 : Inv X pins σ H { s with heap := h', toks := tk } := I.turned (fun b o hb e => kk b o (by simpa using hb) e) f0 f1 f3 f4 f5
  exact ⟨_, rfl, go_of (s := { s with heap := h', toks := tk }) (n := "range_iterator") st'' rfl rfl (by decide) ⟨.int (lo + (i : Nat) * st), H, I1, ⟨t, rfl⟩, ⟨rfl, rfl⟩, st'', fun b hb => (hf b hb).1⟩⟩
 done := by
  intro X hP hw hK hc i pins s σ H E I hf st' hg
  subst hP hw hK
  obtain ⟨f0, f1, f2, f3, f4, f5⟩ := hf it (by simp)
  exact wpAny_pyNext_range_end (I.ok.hd hc) st' (by have : n ≤ i := hg; omega) fun h' eb => ⟨rfl, I.turned (t' := s.toks) (fun b o hb e => eb b o hb e) f0 f1 f3 f4 f5⟩
 self := fun _ _ _ _ _ st h => wpAny_pyIter_rangeiter st h
def iR3 (ta : TA) : TI := fun σ H R => ta σ H fun vs H1 => match vs with
 | [.int i, .int j, .int c] => (-(2 ^ 30) ≤ i ∧ i < 2 ^ 30 ∧ -(2 ^ 30) ≤ j ∧ j < 2 ^ 30 ∧ c ≠ 0 ∧ -(2 ^ 30) < c ∧ c < 2 ^ 30) ∧ R (Itrs i c (Builtin.Range.rangeSize i j c).toNat) H1
 | _ => False
theorem rangeSize_nonneg (a b c : Int) : 0 ≤ Builtin.Range.rangeSize a b c := by
 unfold Builtin.Range.rangeSize
 split
 ·split
  ·have : 0 ≤ (b - a - 1) / c := Int.ediv_nonneg (by omega) (by omega)
   omega
  ·omega
 ·split
  ·have : 0 ≤ (a - b - 1) / (-c) := Int.ediv_nonneg (by omega) (by omega)
   omega
  ·omega
theorem pi_r3 {a b c : Expr} {ta : TA} (hm : X.mg "range" = none) (ha : PA X [a, b, c] ta) (hg : Gl X "range" := by rfl) (hs : starEach [a, b, c] X.env = [(false, eval a X.env), (false, eval b X.env), (false, eval c X.env)] := by rfl) (hs2 : starEach [b, c] X.env = [(false, eval b X.env), (false, eval c X.env)] := by rfl) :
  PI X tg (.Call (.Name "range" p) [a, b, c] [] pos) (iR3 ta) := by
 intro pins s σ H R I h
 refine Call_ (ld_blt I hg hm boot_range (PyProof.Rows.callWith_type1 (thn (ha pos pins s σ H _ I h) fun us s1 ⟨vs, H1, I1, r1, q1⟩ => ?_) (by rw [hs, hs2]) (by rw [hs2]; rfl)))
 dsimp only at q1
 split at q1
 ·rename_i i j c'
  obtain ⟨⟨q1, q2, q3, q4, q5, q6, q7⟩, q⟩ := q1
  cases r1 with
  | cons ra r1 =>
   obtain ⟨u2, u3, e, ⟨t2, e2⟩, ⟨t3, e3⟩⟩ := vals2 r1
   obtain ⟨t1, e1⟩ := ra
   subst e1 e e2 e3
   refine call_range_3 q5 ?_ (.inl (PyProof.noPylong_small (by omega)))
   refine wpAny_pyIter_range (IsRange.new ..) (small_some q1 q2 q3 q4 q5 q6 q7) ?_
   have I2 := I1.kept (t' := s1.toks) (h' := s1.heap.push { cls := .type "range", data := .fields #[.int i t1, .int j t2, .int c' t3] }) fun b o e => Heap.get?_push_of_some _ e
   refine ⟨_, [_], _, _, H1, rfl, I2.kept (t' := s1.toks) fun b o e => Heap.get?_push_of_some _ e, turn_rangeS _ i c' (Builtin.Range.rangeSize i j c').toNat, ?_, fun b hb => ?_, q⟩
   ·have e1 : i + ((0 : Nat) : Int) * c' = i := by simp
    have e2 : (((Builtin.Range.rangeSize i j c').toNat : Nat) : Int) - ((0 : Nat) : Int) = Builtin.Range.rangeSize i j c' := by have := rangeSize_nonneg i j c'; omega
    show IsRangeIter _ _ (i + ((0 : Nat) : Int) * c') ((((Builtin.Range.rangeSize i j c').toNat : Nat) : Int) - ((0 : Nat) : Int)) c'
    rw [e1, e2]
    exact Heap.get?_push_size _ rfl
   ·have e : b = (s1.heap.push { cls := .type "range", data := .fields #[.int i t1, .int j t2, .int c' t3] }).objs.size := by simpa using hb
    subst e
    exact I2.fpOk (Nat.le_refl _) (I2.hok.fresh (Nat.le_refl _))
 ·exact q1.elim
end
end L2
end
section
namespace L2
open PySem PySem.Spec PyProof.Rows
def visB (sc : Scope) (x : Str) : Bool := (match sc.names.lookup x with
 | some .local => true
 | some .cell => true
 | some .free => true
 | _ => false) && (!(x == ("__debug__" : Str)) && !(x == ("__classdict__" : Str)))
theorem vis_of {sc : Scope} {x : Str} (h : visB sc x = true) : Vis sc x ∧ (x == ("__debug__" : Str)) = false ∧ (x == ("__classdict__" : Str)) = false := by
 unfold visB at h
 simp only [Bool.and_eq_true, Bool.not_eq_true'] at h
 obtain ⟨h1, h2, h3⟩ := h
 refine ⟨?_, h2, h3⟩
 split at h1
 ·exact .inl (by assumption)
 ·exact .inr (.inl (by assumption))
 ·exact .inr (.inr (by assumption))
 ·cases h1
def locB (sc : Scope) (x : Str) : Bool := match sc.names.lookup x with
 | some .local => true
 | some .cell => true
 | _ => false
theorem loc_of {sc : Scope} {x : Str} (h : locB sc x = true) : Loc sc x := by
 unfold locB at h
 split at h
 ·exact .inl (by assumption)
 ·exact .inr (by assumption)
 ·cases h
section
variable {X : Cx} {x : Str} {pos : Pos}
theorem vk (i : Nat) (hN : X.N[i]? = some x := by rfl) (hv : visB X.env.scope x = true := by kernel_rfl) : PE X (.Name x pos) (tV i) :=
 vr i hN (vis_of hv).1 (vis_of hv).2.1 (vis_of hv).2.2
theorem gk (i : Nat) (hN : X.N.Nodup) (hi : X.N[i]? = some x := by rfl) (hx : locB X.env.scope x = true := by kernel_rfl) (hf : (X.fn x || X.env.scope.names.lookup x == some .local) = true := by kernel_rfl) : PG X (.Name x pos) (gName i) :=
 pg_name hN hi (loc_of hx) (by
  rw [Bool.or_eq_true] at hf
  exact hf.elim .inl fun z => .inr (eq_of_beq z))
theorem vn (x : Str) (i : Nat) (hN : X.N[i]? = some x := by with_unfolding_all rfl) (hv : visB X.env.scope x = true := by kernel_rfl) : PE X (.Name x pos) (tV i) := vk i hN hv
theorem gn (x : Str) (i : Nat) (hN : X.N.Nodup) (hi : X.N[i]? = some x := by with_unfolding_all rfl) (hx : locB X.env.scope x = true := by kernel_rfl) (hf : (X.fn x || X.env.scope.names.lookup x == some .local) = true := by kernel_rfl) : PG X (.Name x pos) (gName i) := gk i hN hi hx hf
def gB (X : Cx) (x : Str) : Bool := X.env.scope.names.lookup x == some .globalImplicit
theorem gl_of (h : gB X x = true) : Gl X x := eq_of_beq h
variable {p apos : Pos} {e o : Expr} {es : List Expr} {t : TA} {te to ti : TE} {k : Nat} {ps : List Str} {sp : Sp} {tg : Expr}
theorem fn_can (x : Str) {P' : Program} {w' : World} {K' : PySem.W.Frag} {mg' : Str → Option Value} {base' : Heap} (C : Can P' w' K' mg' base' x k ps sp) (hX : X.prog = P' ∧ X.w = w' ∧ X.K = K' ∧ X.mg = mg' ∧ X.base = base') (hr : Room k X.A) (ha : PA X (e :: es) t) (hg : gB X x = true := by kernel_rfl)
  (hdb : (x == ("__debug__" : Str)) = false := by kernel_rfl) (he : starEach (e :: es) X.env = (false, eval e X.env) :: starEach es X.env := by kernel_rfl) (hpl : (backTo pos (starEach es X.env)).any (·.1) = false := by kernel_rfl) :
  PE X (.Call (.Name x p) (e :: es) [] pos) (tCan sp t) := by
 obtain ⟨rfl, rfl, rfl, rfl, rfl⟩ := hX
 exact pe_can C hr ha (gl_of hg) hdb he hpl
theorem fn_len {mg' : Str → Option Value} (hm : mg' "len" = none) (hX : X.mg = mg') (ha : PA X (e :: es) t) (hg : gB X "len" = true := by kernel_rfl) (he : starEach (e :: es) X.env = (false, eval e X.env) :: starEach es X.env := by kernel_rfl) (hpl : (backTo pos (starEach es X.env)).any (·.1) = false := by kernel_rfl) :
  PE X (.Call (.Name "len" p) (e :: es) [] pos) (tCB rLen t) := pe_len (by rw [hX]; exact hm) ha (gl_of hg) he hpl
theorem fn_isinst {mg' : Str → Option Value} (hm : mg' "isinstance" = none) (hX : X.mg = mg') (ha : PA X (e :: es) t) (hg : gB X "isinstance" = true := by kernel_rfl) (he : starEach (e :: es) X.env = (false, eval e X.env) :: starEach es X.env := by kernel_rfl) (hpl : (backTo pos (starEach es X.env)).any (·.1) = false := by kernel_rfl) :
  PE X (.Call (.Name "isinstance" p) (e :: es) [] pos) (tCB rIsI t) := pe_isinst (by rw [hX]; exact hm) ha (gl_of hg) he hpl
theorem fn_max {mg' : Str → Option Value} (hm : mg' "max" = none) (hX : X.mg = mg') (ha : PA X (e :: es) t) (hc : X.calm = true := by kernel_rfl) (hg : gB X "max" = true := by kernel_rfl) (he : starEach (e :: es) X.env = (false, eval e X.env) :: starEach es X.env := by kernel_rfl) (hpl : (backTo pos (starEach es X.env)).any (·.1) = false := by kernel_rfl) :
  PE X (.Call (.Name "max" p) (e :: es) [] pos) (tCB rMax t) := pe_max hc (by rw [hX]; exact hm) ha (gl_of hg) he hpl
theorem fn_min {mg' : Str → Option Value} (hm : mg' "min" = none) (hX : X.mg = mg') (ha : PA X (e :: es) t) (hc : X.calm = true := by kernel_rfl) (hg : gB X "min" = true := by kernel_rfl) (he : starEach (e :: es) X.env = (false, eval e X.env) :: starEach es X.env := by kernel_rfl) (hpl : (backTo pos (starEach es X.env)).any (·.1) = false := by kernel_rfl) :
  PE X (.Call (.Name "min" p) (e :: es) [] pos) (tCB rMin t) := pe_min hc (by rw [hX]; exact hm) ha (gl_of hg) he hpl
theorem ty_int {mg' : Str → Option Value} (hm : mg' "int" = none) (hX : X.mg = mg') (hg : gB X "int" = true := by kernel_rfl) : PE X (.Name "int" pos) (tC (.ty "int")) := pe_ty PyProof.Rows.boot_int (by rw [hX]; exact hm) (gl_of hg)
theorem ty_bool {mg' : Str → Option Value} (hm : mg' "bool" = none) (hX : X.mg = mg') (hg : gB X "bool" = true := by kernel_rfl) : PE X (.Name "bool" pos) (tC (.ty "bool")) := pe_ty PyProof.Rows.boot_bool (by rw [hX]; exact hm) (gl_of hg)
theorem ty_str {mg' : Str → Option Value} (hm : mg' "str" = none) (hX : X.mg = mg') (hg : gB X "str" = true := by kernel_rfl) : PE X (.Name "str" pos) (tC (.ty "str")) := pe_ty PyProof.Rows.boot_str (by rw [hX]; exact hm) (gl_of hg)
theorem it_r1 {a : Expr} {ta : TA} {mg' : Str → Option Value} (hm : mg' "range" = none) (hX : X.mg = mg') (ha : PA X [a] ta) (hg : gB X "range" = true := by kernel_rfl) (hs : starEach [a] X.env = [(false, eval a X.env)] := by kernel_rfl) : PI X tg (.Call (.Name "range" p) [a] [] pos) (iR1 ta) := pi_r1 (by rw [hX]; exact hm) ha (gl_of hg) hs
theorem it_r3 {a b c : Expr} {ta : TA} {mg' : Str → Option Value} (hm : mg' "range" = none) (hX : X.mg = mg') (ha : PA X [a, b, c] ta) (hg : gB X "range" = true := by kernel_rfl) (hs : starEach [a, b, c] X.env = [(false, eval a X.env), (false, eval b X.env), (false, eval c X.env)] := by kernel_rfl) (hs2 : starEach [b, c] X.env = [(false, eval b X.env), (false, eval c X.env)] := by kernel_rfl) :
  PI X tg (.Call (.Name "range" p) [a, b, c] [] pos) (iR3 ta) := pi_r3 (by rw [hX]; exact hm) ha (gl_of hg) hs hs2
theorem ix_at {a b : Expr} {ta tb : TE} (ha : PE X a ta) (hb : PE X b tb) (hs : ∀ o i, subscripted b false o i = operate [o, i] (getItem o i) := by intro _ _; kernel_rfl) : PE X (.Subscript a b pos) (tOp rIxU ta tb) := pe_ix ixU ha hb hs
theorem a_cons {e : Expr} {es : List Expr} {te : TE} {t : TA} (ha : PE X e te) (hr : PA X es t) (hs : starEach (e :: es) X.env = (false, eval e X.env) :: starEach es X.env := by kernel_rfl) : PA X (e :: es) (tCons te t) := pa_cons ha hr hs
theorem t_cmp {op : CmpOp} {r : R2} {a b : Expr} {ta tb : TE} (ho : OpR X (compareOp op) r) (ha : PE X a ta) (hb : PE X b tb) (hm : behindInMarks op b = false := by kernel_rfl) : PT X (.Compare a [op] [b] pos) (tBU (tOp r ta tb)) := pt_cmpU ho ha hb hm
theorem e_cmp {op : CmpOp} {r : R2} {a b : Expr} {ta tb : TE} (ho : OpR X (compareOp op) r) (ha : PE X a ta) (hb : PE X b tb) (hm : behindInMarks op b = false := by kernel_rfl) : PE X (.Compare a [op] [b] pos) (tOp r ta tb) := pe_cmpU ho ha hb hm
theorem s_asg {tg e : Expr} {te : TE} {g : TG} (he : PE X e te) (hg : PG X tg g) (hs : swapsWithSole [tg] e pos.line X.env = pure false := by kernel_rfl) (hw : swappedStores [tg] e X.env = pure none := by kernel_rfl)
  (h1 : (assignEach [tg] X.env).map (·.2) = [assign tg X.env] := by kernel_rfl) : PS X (.Assign [tg] e pos) (tAsg te g) := ps_asg he hg hs hw h1
theorem s_expr {e : Expr} {te : TE} (he : PE X e te) (hs : swapsWith e none pos.line X.env = pure false := by kernel_rfl) : PS X (.Expr e pos) (tDrop te) := ps_expr he hs
theorem s_for {iter : Expr} {body : List Stmt} {wi : TI} {g : TG} {tb : TS} (hi : PI X tg iter wi) (hg : PG X tg g) (hb : PSs X body tb) (hp : PassesOwn (model X.prog X.w) X.A X.env X.xe := by exact PassesOwn.never) (hc : X.calm = true := by kernel_rfl)
  (hs : ∀ x, foldedSetIterable iter X.env x = pure x := by intro _; kernel_rfl) : PS X (.For tg iter body [] pos) (tFor wi g tb) := ps_for hp hc hi hg hb hs
theorem gs_cons {es : List Expr} {t : TG} {u : TGs} (h1 : PG X e t) (h2 : PGs X es u)
  (hs : (assignEach (e :: es) X.env).map (·.2) = assign e X.env :: (assignEach es X.env).map (·.2) := by kernel_rfl) : PGs X (e :: es) (gConsU t u) := pgs_consU h1 h2 hs
theorem g_sub {o i : Expr} {to ti : TE} (ho : PE X o to) (hi : PE X i ti) (ha : ∀ v, assign (.Subscript o i pos) X.env v = (do
   let ov ← holding [v] (eval o X.env)
   let iv ← holding [v, ov] (eval i X.env)
   standAt pos
   holding [v, ov, iv] (setItem ov iv v)
   release [v, ov, iv] []) := by intro _; kernel_rfl) : PG X (.Subscript o i pos) (gSub to ti rSetU) := pg_sub ho hi setU ha
theorem m_append {cpos : Pos} (ho : PE X o to) (ha : PA X (e :: es) t)
  (hbase : attributeBase o "append" X.env (eval o X.env) = eval o X.env := by kernel_rfl)
  (hfew : ((backTo cpos (starEach (e :: es) X.env)).all (fun x => !x.1) && (backToKw cpos (keywordEach [] X.env)).all (fun x => x.1.isSome)
   && decide ((e :: es).length + ([] : List Keyword).length + (if ([] : List Keyword).isEmpty then 0 else 1) < 30)) = true := by kernel_rfl)
  (hline : (apos.endLine == cpos.line) = true := by kernel_rfl) (hs : starEach (e :: es) X.env = (false, eval e X.env) :: starEach es X.env := by kernel_rfl) (hplain : (backTo cpos (starEach es X.env)).any (·.1) = false := by kernel_rfl) :
  PE X (.Call (.Attribute o "append" apos) (e :: es) [] cpos) (tMt "list" rApp to t) := pe_mt PySem.F.plainAttrs_list PySem.F.slot_list_append PySem.F.type_list_append mt_appU ho ha hbase hfew hline hs hplain
theorem m_strip {cpos : Pos} (ho : PE X o to) (ha : PA X (e :: es) t)
  (hbase : attributeBase o "strip" X.env (eval o X.env) = eval o X.env := by kernel_rfl)
  (hfew : ((backTo cpos (starEach (e :: es) X.env)).all (fun x => !x.1) && (backToKw cpos (keywordEach [] X.env)).all (fun x => x.1.isSome)
   && decide ((e :: es).length + ([] : List Keyword).length + (if ([] : List Keyword).isEmpty then 0 else 1) < 30)) = true := by kernel_rfl)
  (hline : (apos.endLine == cpos.line) = true := by kernel_rfl) (hs : starEach (e :: es) X.env = (false, eval e X.env) :: starEach es X.env := by kernel_rfl) (hplain : (backTo cpos (starEach es X.env)).any (·.1) = false := by kernel_rfl) :
  PE X (.Call (.Attribute o "strip" apos) (e :: es) [] cpos) (tMt "str" rStrip to t) := pe_mt PySem.F.plainAttrs_str PySem.F.slot_str_strip PySem.F.type_str_strip mt_stripU ho ha hbase hfew hline hs hplain
theorem c_comp (N : List Str) (js : List Nat) {elt target iter : Expr} {ifs : List Expr} {scope : Scope} {wi : TI} {g : TG} {tt : TT} {te : TE} (hN : N.Nodup) (hi : PI X target iter wi)
  (hg : ∀ cl C s H fp, PG (X.block scope cl C N s H fp) target g) (ht : ∀ cl C s H fp, PF (X.block scope cl C N s H fp) ifs tt) (he : ∀ cl C s H fp, PE (X.block scope cl C N s H fp) elt te)
  (hok : compOk X.env.scope X.N scope N js = true := by kernel_rfl) (hc : X.calm = true := by kernel_rfl) (hk : scope.kind = .function := by kernel_rfl) (hs : ∀ x, foldedSetIterable iter X.env x = pure x := by intro _; kernel_rfl) :
  PE X (.ListComp elt [⟨target, iter, ifs, 0⟩] scope pos) (tComp (N.length - js.length) js wi g tt te) := pe_comp N js hok hN hc hi hg ht he hk hs
theorem s_comp (y : Str) (i : Nat) (N : List Str) (js : List Nat) {elt target iter : Expr} {ifs : List Expr} {scope : Scope} {wi : TI} {g : TG} {tt : TT} {te : TE} {py spos : Pos} (hN : N.Nodup) (hXN : X.N.Nodup) (hi : PI X target iter wi)
  (hg : ∀ cl C s H fp, PG (X.block scope cl C N s H fp) target g) (ht : ∀ cl C s H fp, PF (X.block scope cl C N s H fp) ifs tt) (he : ∀ cl C s H fp, PE (X.block scope cl C N s H fp) elt te)
  (hyi : X.N[i]? = some y := by with_unfolding_all rfl) (hy : locB X.env.scope y = true := by kernel_rfl)
  (hok : compOk X.env.scope X.N scope N js = true := by kernel_rfl) (hc : X.calm = true := by kernel_rfl) (hk : scope.kind = .function := by kernel_rfl) (hs : ∀ x, foldedSetIterable iter X.env x = pure x := by intro _; kernel_rfl)
  (hsw : swapsWith (.ListComp elt [⟨target, iter, ifs, 0⟩] scope pos) (some (.Name y py)) spos.line X.env = pure true := by kernel_rfl) (hf : (X.fn y || X.env.scope.names.lookup y == some .local) = true := by kernel_rfl) :
  PS X (.Assign [.Name y py] (.ListComp elt [⟨target, iter, ifs, 0⟩] scope pos) spos) (tAsg (tComp (N.length - js.length) js wi g tt te) (gName i)) :=
 ps_setComp N js hok hN hc hXN hyi (loc_of hy) hi hg ht he hsw hk hs (by
  rw [Bool.or_eq_true] at hf
  exact hf.elim .inl fun z => .inr (eq_of_beq z))
end
theorem iteP {c A B : Prop} [Decidable c] (hc : c) (h : A) : if c then A else B := by rw [if_pos hc]; exact h
end L2
end
section
namespace L2
open PySem PySem.Spec PyProof.Rows
def Off (F : Addr → Prop) (H H' : Hp) : Prop := ∀ b o, H b = some o → ¬ F b → H' b = some o
structure Deck (F : Addr → Prop) (H : Hp) (a : Addr) : Prop where
 ex : ∃ (p : Addr) (qs : List Addr) (n : Int), H a = some (.lst [.ref p, .int n]) ∧ H p = some (.lst (qs.map V.ref)) ∧ 0 < qs.length ∧ qs.length ≤ 63 ∧ (∀ q ∈ qs, ∃ c f m, H q = some (.lst [.int c, .int f, .int m])) ∧ ∀ b, F b ↔ b = a ∨ b = p ∨ b ∈ qs
theorem Off.refl {F : Addr → Prop} {H : Hp} : Off F H H := fun _ _ e _ => e
theorem Off.trans {F : Addr → Prop} {H H1 H2 : Hp} (h : Off F H H1) (k : Off F H1 H2) : Off F H H2 := fun b o e n => k b o (h b o e n) n
theorem Same.off {F : Addr → Prop} {H H1 : Hp} (h : Same H H1) : Off F H H1 := fun b o e _ => h b o e
theorem Deck.same {F : Addr → Prop} {H H1 : Hp} {a : Addr} (h : Deck F H a) (k : Same H H1) : Deck F H1 a := by
 obtain ⟨p, qs, n, h1, h2, h3, h4, h5, h6⟩ := h.ex
 exact ⟨p, qs, n, k _ _ h1, k _ _ h2, h3, h4, fun q hq => let ⟨c, f, m, e⟩ := h5 q hq; ⟨c, f, m, k _ _ e⟩, h6⟩
theorem Deck.there {F : Addr → Prop} {H : Hp} {a b : Addr} (h : Deck F H a) (hb : F b) : ∃ o, H b = some o := by
 obtain ⟨p, qs, n, h1, h2, h3, h4, h5, h6⟩ := h.ex
 rcases (h6 b).mp hb with rfl | rfl | z
 ·exact ⟨_, h1⟩
 ·exact ⟨_, h2⟩
 ·obtain ⟨c, f, m, e⟩ := h5 b z
  exact ⟨_, e⟩
theorem Deck.new {F : Addr → Prop} {H : Hp} {a b : Addr} (h : Deck F H a) (hb : H b = none) : ¬ F b := fun z => by
 obtain ⟨o, e⟩ := h.there z
 rw [hb] at e
 cases e
end L2
namespace L2
open PySem PySem.Spec PyProof.Rows
section
variable {H : Hp}
theorem DV.lst_inv {v : V} {ds : List PyData} (h : DV H v (.list ds)) : ∃ a xs, v = .ref a ∧ H a = some (.lst xs) ∧ DVs H xs ds := by
 cases h with
 | lst h r => exact ⟨_, _, rfl, h, r⟩
theorem DV.tup_inv {v : V} {ds : List PyData} (h : DV H v (.tuple ds)) : ∃ a xs, v = .ref a ∧ H a = some (.tup xs) ∧ DVs H xs ds := by
 cases h with
 | tup h r => exact ⟨_, _, rfl, h, r⟩
theorem DV.int_inv {v : V} {i : Int} (h : DV H v (.int i)) : v = .int i := by cases h; rfl
theorem DV.str_inv {v : V} {x : Str} (h : DV H v (.str x)) : v = .str x := by cases h; rfl
theorem DVs.length : ∀ {xs : List V} {ds : List PyData}, DVs H xs ds → xs.length = ds.length
 | _, _, .nil => rfl
 | _, _, .cons _ r => by rw [List.length_cons, List.length_cons, DVs.length r]
theorem DVs.get : ∀ {xs : List V} {ds : List PyData} {i : Nat} {d : PyData}, DVs H xs ds → ds[i]? = some d → ∃ x, xs[i]? = some x ∧ DV H x d
 | _, _, _, _, .nil, h => by simp at h
 | _, _, 0, _, .cons h _, e => by
  simp at e
  subst e
  exact ⟨_, rfl, h⟩
 | _, _, i + 1, d, .cons _ r, e => by
  obtain ⟨x, h1, h2⟩ := DVs.get (i := i) (d := d) r (by simpa using e)
  exact ⟨x, by simpa using h1, h2⟩
theorem DVs.app : ∀ {xs ys : List V} {ds es : List PyData}, DVs H xs ds → DVs H ys es → DVs H (xs ++ ys) (ds ++ es)
 | _, _, _, _, .nil, s => s
 | _, _, _, _, .cons h r, s => .cons h (DVs.app r s)
theorem DVs.ints : ∀ (ns : List Int), DVs H (ns.map V.int) (ns.map PyData.int)
 | [] => .nil
 | n :: r => .cons (.int n) (DVs.ints r)
theorem DVs.strs : ∀ (ws : List Str), DVs H (ws.map V.str) (ws.map PyData.str)
 | [] => .nil
 | n :: r => .cons (.str n) (DVs.strs r)
end
end L2
end
section
namespace Om
abbrev Rows := List (List (List Bool × Nat))
structure CodeOk (k n : Nat) (rows : Rows) : Prop where
 k1 : 1 ≤ k
 k3 : k ≤ 3
 n1 : 1 ≤ n
 n6 : n ≤ 6
 s1 : 1 ≤ rows.length
 s8 : rows.length ≤ 8
 len : ∀ st ∈ rows, st.length = 2 ^ k
 row : ∀ st ∈ rows, ∀ r ∈ st, r.1.length = n ∧ r.2 < rows.length
def step (rows : Rows) (s l : Nat) : List Bool × Nat := (rows.getD s []).getD l ([], 0)
def send (rows : Rows) : Nat → List Nat → List Bool × Nat
 | s, [] => ([], s)
 | s, l :: r => ((step rows s l).1 ++ (send rows (step rows s l).2 r).1, (send rows (step rows s l).2 r).2)
theorem send_app (rows : Rows) : ∀ (a b : List Nat) (s : Nat), send rows s (a ++ b) = ((send rows s a).1 ++ (send rows (send rows s a).2 b).1, (send rows (send rows s a).2 b).2)
 | [], b, s => rfl
 | l :: a, b, s => by
  show ((step rows s l).1 ++ (send rows (step rows s l).2 (a ++ b)).1, (send rows (step rows s l).2 (a ++ b)).2) = _
  rw [send_app rows a b]
  simp [send]
theorem step_get {k n : Nat} {rows : Rows} (c : CodeOk k n rows) {s l : Nat} (hs : s < rows.length) (hl : l < 2 ^ k) : ∃ st, rows[s]? = some st ∧ st[l]? = some (step rows s l) ∧ (step rows s l).1.length = n ∧ (step rows s l).2 < rows.length := by
 have h1 : rows[s]? = some rows[s] := List.getElem?_eq_getElem hs
 have hm : rows[s] ∈ rows := List.getElem_mem hs
 have hl' : l < rows[s].length := by rw [c.len _ hm]; exact hl
 have h2 : rows[s][l]? = some rows[s][l] := List.getElem?_eq_getElem hl'
 have e : step rows s l = rows[s][l] := by
  unfold step
  have e1 : rows.getD s [] = rows[s] := by rw [List.getD_eq_getElem?_getD, h1]; rfl
  rw [e1, List.getD_eq_getElem?_getD, h2]
  rfl
 rw [e]
 have := c.row _ hm _ (List.getElem_mem hl')
 exact ⟨rows[s], h1, h2, this.1, this.2⟩
theorem send_ok {k n : Nat} {rows : Rows} (c : CodeOk k n rows) : ∀ (t : List Nat) (s : Nat), s < rows.length → (∀ l ∈ t, l < 2 ^ k) → (send rows s t).1.length = n * t.length ∧ (send rows s t).2 < rows.length
 | [], s, hs, _ => ⟨by simp [send], hs⟩
 | l :: t, s, hs, ht => by
  obtain ⟨st, _, _, h1, h2⟩ := step_get c hs (ht l List.mem_cons_self)
  obtain ⟨h3, h4⟩ := send_ok c t (step rows s l).2 h2 fun x hx => ht x (List.mem_cons_of_mem _ hx)
  refine ⟨?_, h4⟩
  show ((step rows s l).1 ++ (send rows (step rows s l).2 t).1).length = _
  rw [List.length_append, h1, h3, List.length_cons, Nat.mul_add, Nat.mul_one, Nat.add_comm]
end Om
end
section
namespace L2
open PySem PySem.Spec PyProof.Rows
theorem tw_all {α : Type} {p : α → Bool} : ∀ {l : List α}, (∀ x ∈ l, p x = true) → l.takeWhile p = l
 | [], _ => rfl
 | a :: l, h => by rw [List.takeWhile_cons, if_pos (h a List.mem_cons_self), tw_all fun x hx => h x (List.mem_cons_of_mem _ hx)]
theorem strip01 (w : List Bool) : Txt.stripChars (bs w) ("01" : Str) = bs [] := by
 unfold Txt.stripChars
 rw [stripBy_eq]
 have hg : ∀ b : Bool, (("01" : Str).cps.contains (sg b)) = true := by intro b; cases b <;> decide +kernel
 have hlo : stripLo ("01" : Str).cps.contains true (bs w) = w.length := by
  unfold stripLo
  rw [if_pos rfl]
  have e : (bs w).cps.toList = w.map sg := by show (w.map sg).toArray.toList = _; simp
  rw [e]
  have : (w.map sg).takeWhile ("01" : Str).cps.contains = w.map sg := tw_all fun x hx => by
   obtain ⟨b, _, rfl⟩ := List.mem_map.mp hx
   exact hg b
  rw [this, List.length_map]
 rw [hlo]
 show (⟨((w.map sg).toArray).extract w.length _⟩ : Str) = bs []
 have : ∀ j, ((w.map sg).toArray).extract w.length j = #[] := fun j => by
  apply Array.ext'
  simp
 rw [this]
 rfl
def rowD (r : List Bool × Nat) : PyData := .tuple [.str (bs r.1), .int (r.2 : Nat)]
def stateD (st : List (List Bool × Nat)) : PyData := .list (st.map rowD)
def codeD (k n : Nat) (rows : Om.Rows) : PyData := .tuple [.int (k : Nat), .int (n : Nat), .list (rows.map stateD)]
end L2
namespace L2
open PySem PySem.Spec PyProof.Rows
theorem SqL.upd {K : PySem.W.Frag} {H : Hp} {a D : Addr} {xs : List V} {o : HO} (h : H a = some (.lst xs)) (hD : H D = none) : SqL K (upd H D o) a xs := SqL.of (Same.upd hD _ _ h)
end L2
end
section
namespace L2
open PySem PySem.Spec PyProof.Rows
section
variable {prog : Program} {w : World} {A : Around} {E : Value → Shared → Prop}
theorem draw_list {it l : Addr} {items : Array Value} (hne : l ≠ it) : ∀ (n i : Nat) (s : Shared) (Q : List Value → Shared → Prop), s.heap.IsListIter it l i → s.heap.IsList l items → i + n ≤ items.size →
  (∀ h', h'.IsListIter it l (i + n) → Heap.SameBut it s.heap h' → Q ((items.toList.drop i).take n) { s with heap := h' }) → wpAny (model prog w) A (draw (.ref it) n) Q E s
 | 0, i, s, Q, hit, _, _, hQ => by
  show wpAny _ _ (pure []) Q E s
  exact wpAny_pure (by simpa using hQ s.heap hit (Heap.SameBut.refl ..))
 | n + 1, i, s, Q, hit, ht, hle, hQ => by
  have hlt : i < items.size := by omega
  show wpAny _ _ (pyNext (.ref it) >>= _) Q E s
  refine wpAny_bind (wpAny_pyNext_list_item hit ht (x := items[i]) (by simp [hlt]) fun h₁ hit₁ hs₁ => ?_)
  refine wpAny_bind (wpAny_holding (draw_list hne n (i + 1) _ _ hit₁ (ht.extBut hs₁.extBut hne) (by omega) fun h₂ hit₂ hs₂ => wpAny_pure ?_))
  have hd : items.toList.drop i = items[i] :: items.toList.drop (i + 1) := by simp [List.drop_eq_getElem_cons, hlt]
  have := hQ h₂ (by rw [show i + (n + 1) = i + 1 + n by omega]; exact hit₂) (hs₁.trans hs₂)
  rw [hd, List.take_succ_cons] at this
  exact this
theorem unpackItems_list {s : Shared} {t : Addr} {items : Array Value} {Q : List Value → Shared → Prop} (hh : A.handled = none) (ht : s.heap.IsList t items)
  (hQ : ∀ h', Heap.ExtBut s.heap.objs.size s.heap h' → Q items.toList { s with heap := h' }) : wpAny (model prog w) A (unpackItems (.ref t) items.size none) Q E s := by
 have hlt : t ≠ s.heap.objs.size := by obtain ⟨o, ho, _⟩ := ht; exact Nat.ne_of_lt (Heap.lt_size ho)
 unfold unpackItems
 refine wpAny_bind ?_
 ·unfold notIterableAtAll
  refine wpAny_bind (wpAny_specialOf ht.typeIs slot_list_iter.lookup ?_)
  refine wpAny_pure ?_
  simp only [Bool.false_eq_true, if_false]
  refine wpAny_bind (wpAny_holding (wpAny_pyIter_list ht ?_))
  refine wpAny_bind (wpAny_holding (draw_list hlt items.size 0 _ _ ⟨_, Heap.get?_push_size _ rfl, rfl, rfl⟩ (ht.push _) (by omega) fun h₁ hit₁ hs₁ => ?_))
  have hall : List.take items.size (List.drop 0 items.toList) = items.toList := by
   rw [List.drop_zero]; exact List.take_of_length_le (by simp)
  rw [hall]
  rw [if_neg (by simp)]
  have ht₁ : h₁.IsList t items := (ht.push _).extBut hs₁.extBut hlt
  refine wpAny_bind (wpAny_holding (wpAny_pyNext_list_end hh hit₁ ht₁ (by simp) fun h₂ he₂ => ?_))
  simp only [Option.isSome_none, Bool.false_eq_true, if_false]
  refine wpAny_pure (hQ h₂ fun b o hb e => he₂ b o hb (hs₁.extBut b o hb (Heap.get?_push_of_some _ e)))
theorem assign_Tuple_list {s : Shared} {env : Env} {elts : List Expr} {x1} {pos : Pos} {t : Addr} {items : Array Value} {Q : Unit → Shared → Prop} (hh : A.handled = none) (ht : s.heap.IsList t items)
  (hn : (assignEach elts env).length = items.size) (hstar : (assignEach elts env).findIdx? (·.1) = none)
  (h : ∀ h', Heap.ExtBut s.heap.objs.size s.heap h' → wpAny (model prog w) A (assignInOrder ((assignEach elts env).map (·.2)) items.toList) Q E { s with heap := h' }) :
  wpAny (model prog w) A (assign (.Tuple elts x1 pos) env (.ref t)) Q E s := by
 rw [assign_Tuple]
 refine wpAny_bind (wpAny_standAt ?_)
 unfold unpack
 rw [hn, hstar]
 exact wpAny_bind (wpAny_holding (unpackItems_list hh ht h))
end
section
variable {X : Cx} {pos : Pos}
def gTupL (K : PySem.W.Frag) (n : Nat) (t : TGs) : TG := fun v σ H Q => match v with
 | .ref a => ∃ xs, (H a = some (.tup xs) ∨ H a = some (.lst xs)) ∧ xs.length = n ∧ t xs σ H Q
 | _ => False
theorem g_tupL {es : List Expr} {k : Nat} {t : TGs} (h : PGs X es t) (hc : X.calm = true := by kernel_rfl)
  (hst : (assignEach es X.env).findIdx? (·.1) = none := by kernel_rfl) : PG X (.Tuple es k pos) (gTupL X.K (assignEach es X.env).length t) := by
 intro pins s σ H v u Q I r hw
 unfold gTupL at hw
 split at hw
 ·obtain ⟨xs, h1 | h1, h2, hw⟩ := hw
  ·exact pg_tup hc h rfl hst pins s σ H _ u Q I r ⟨_, xs, rfl, SqT.of h1, h2, hw⟩
  ·cases r
   obtain ⟨its, rv, p, hz⟩ := I.list (SqL.of h1)
   refine assign_Tuple_list (I.ok.hd hc) p.isList (by simp [← rv.length, h2]) hst fun h' hx => ?_
   have I1 : Inv X pins σ H { s with heap := h' } := I.kept (t' := s.toks) fun b o e => hx b o (Nat.ne_of_lt (Heap.lt_size e)) e
   exact h pins _ σ H xs _ Q I1 (by simpa using rv) hw
 ·exact hw.elim
end
section
variable {X : Cx}
def tTru (t : TE) : TT := fun σ H Q => t σ H fun x H1 => match x with
 | .bl c => Q c H1
 | .ref p => ∃ xs, H1 p = some (.lst xs) ∧ Q (!xs.isEmpty) H1
 | _ => False
theorem t_tru {e : Expr} {t : TE} (h : PE X e t) (he : ∀ whole, isTrue e X.env whole = (do let v ← whole; standAt e.pos; holding [v] (truthy v)) := by intro _; kernel_rfl) : PT X e (tTru t) := by
 intro pins s σ H Q I hw
 refine isTrue_plain (thn (h pins s σ H _ I hw) fun v s1 ⟨x, H1, I1, r1, q1⟩ => ?_) (he _)
 refine tru_ok pins s1 σ H1 x v Q I1 r1 ?_
 dsimp only at q1
 split at q1
 ·exact ⟨_, rfl, q1⟩
 ·obtain ⟨xs, h1, q⟩ := q1
  exact ⟨_, .inl ⟨xs, SqL.of h1, rfl⟩, q⟩
 ·exact q1.elim
end
section
variable {X : Cx}
def rNeg : V → Hp → VK → Prop := fun x H Q => match x with
 | .int i => Q (.int (-i)) H
 | _ => False
theorem e_neg {a : Expr} {ta : TE} {pos : Pos} (ha : PE X a ta) : PE X (.UnaryOp .USub a pos) (tUn rNeg ta) := by
 refine pe_un (fun pins s σ H x v Q I rx q => ?_) ha
 unfold rNeg at q
 split at q
 ·exact un_neg pins s σ H _ v Q I rx ⟨_, rfl, q⟩
 ·exact q.elim
end
theorem cut_nat (xs : List V) (a b : Nat) (h : a ≤ b) (hb : b ≤ xs.length) : cutV xs (some (a : Int)) (some (b : Int)) = (xs.drop a).take (b - a) := by
 unfold cutV
 have e1 : min a xs.length = a := Nat.min_eq_left (by omega)
 have e2 : min b xs.length = b := Nat.min_eq_left hb
 rw [HT.sIx_nat, HT.sIx_nat, e1, e2]
section
variable {H : Hp}
def ni (ls : List Nat) : List Int := ls.map fun l : Nat => (l : Int)
theorem code_inv {cv : V} {k n : Nat} {rows : Om.Rows} (h : DV H cv (codeD k n rows)) : ∃ a b ss, cv = .ref a ∧ H a = some (.tup [.int k, .int n, .ref b]) ∧ H b = some (.lst ss) ∧ DVs H ss (rows.map stateD) := by
 obtain ⟨a, xs, rfl, ha, hx⟩ := h.tup_inv
 cases hx with
 | cons h1 hx =>
  cases hx with
  | cons h2 hx =>
   cases hx with
   | cons h3 hx =>
    cases hx
    obtain rfl := h1.int_inv
    obtain rfl := h2.int_inv
    obtain ⟨b, ss, rfl, hb, hs⟩ := h3.lst_inv
    exact ⟨a, b, ss, rfl, ha, hb, hs⟩
theorem state_at {ss : List V} {rows : Om.Rows} (h : DVs H ss (rows.map stateD)) {s : Nat} {st : List (List Bool × Nat)} (hs : rows[s]? = some st) : ∃ q rs, ss[s]? = some (.ref q) ∧ H q = some (.lst rs) ∧ DVs H rs (st.map rowD) := by
 obtain ⟨x, hx, d⟩ := h.get (i := s) (d := stateD st) (by rw [List.getElem?_map, hs]; rfl)
 obtain ⟨q, rs, rfl, hq, hr⟩ := d.lst_inv
 exact ⟨q, rs, hx, hq, hr⟩
theorem row_at {rs : List V} {st : List (List Bool × Nat)} (h : DVs H rs (st.map rowD)) {l : Nat} {r : List Bool × Nat} (hl : st[l]? = some r) : ∃ p, rs[l]? = some (.ref p) ∧ H p = some (.tup [.str (bs r.1), .int (r.2 : Nat)]) := by
 obtain ⟨x, hx, d⟩ := h.get (i := l) (d := rowD r) (by rw [List.getElem?_map, hl]; rfl)
 obtain ⟨p, xs, rfl, hp, hd⟩ := d.tup_inv
 cases hd with
 | cons h1 hd =>
  cases hd with
  | cons h2 hd =>
   cases hd
   obtain rfl := h1.str_inv
   obtain rfl := h2.int_inv
   exact ⟨p, hx, hp⟩
end
end L2
namespace Om
def words (rows : Rows) : Nat → List Nat → List (List Bool)
 | _, [] => []
 | s, l :: r => (step rows s l).1 :: words rows (step rows s l).2 r
theorem words_flat (rows : Rows) : ∀ (t : List Nat) (s : Nat), (words rows s t).flatten = (send rows s t).1
 | [], _ => rfl
 | l :: t, s => by rw [words, List.flatten_cons, words_flat rows t]; rfl
theorem words_len (rows : Rows) : ∀ (t : List Nat) (s : Nat), (words rows s t).length = t.length
 | [], _ => rfl
 | l :: t, s => by rw [words, List.length_cons, words_len rows t, List.length_cons]
end Om
end
section
namespace L2
open PySem PySem.Spec PyProof.Rows
section
variable {X : Cx} {x : Str} {p pos : Pos} {e : Expr} {es : List Expr} {t : TA}
def rLenS (K : PySem.W.Frag) : List V → Hp → VK → Prop := fun vs H Q => match vs with
 | [.ref a] => ∃ ys, SqL K H a ys ∧ Q (.int (ys.length : Nat)) H
 | _ => False
theorem fn_lenS {mg' : Str → Option Value} (hm : mg' "len" = none) (hX : X.mg = mg') (ha : PA X (e :: es) t) (hg : gB X "len" = true := by kernel_rfl) (he : starEach (e :: es) X.env = (false, eval e X.env) :: starEach es X.env := by kernel_rfl) (hpl : (backTo pos (starEach es X.env)).any (·.1) = false := by kernel_rfl) :
  PE X (.Call (.Name "len" p) (e :: es) [] pos) (tCB (rLenS X.K) t) := pe_callB (call_len_seq.of fun xs H Q q => by
   unfold rLenS at q
   split at q
   ·obtain ⟨ys, h, q⟩ := q
    exact ⟨_, ys, rfl, .inl h, q⟩
   ·exact q.elim) (gl_of hg) (by rw [hX]; exact hm) PySem.boot_len ha (he := he) (hpl := hpl)
def rIxS' (K : PySem.W.Frag) : R2 := fun x y H Q => match x, y with
 | .ref a, .int i => ∃ ys v, SqL K H a ys ∧ atI ys i = some v ∧ Q v H
 | _, _ => False
theorem ix_atS {a b : Expr} {ta tb : TE} (ha : PE X a ta) (hb : PE X b tb) (hs : ∀ o i, subscripted b false o i = operate [o, i] (getItem o i) := by intro _ _; kernel_rfl) : PE X (.Subscript a b pos) (tOp (rIxS' X.K) ta tb) :=
 pe_ix (fun value slice pins s σ H x y v u Q I rx ry q hs => ix_list value slice pins s σ H x y v u Q I rx ry (by
  unfold rIxS' at q
  split at q
  ·obtain ⟨ys, z, h1, h2, q⟩ := q
   exact ⟨_, ys, _, z, rfl, rfl, h1, h2, q⟩
  ·exact q.elim) hs) ha hb hs
end
theorem SqL.same {K : PySem.W.Frag} {H H' : Hp} {a : Addr} {xs : List V} (h : SqL K H a xs) (s : Same H H') : SqL K H' a xs := s.seq h
theorem bs_01 : ("01" : Str) = bs [false, true] := by decide +kernel
theorem g01 {H : Hp} {r : Int} (h0 : 0 ≤ r) (h1 : r < 2) : getV H (.str ("01" : Str)) r = some (.str (bs [decide (r = 1)])) := by
 rw [bs_01]
 refine gs (le_line (Nat.le_of_ble_eq_true rfl)) h0 ?_
 have : r = 0 ∨ r = 1 := by omega
 rcases this with rfl | rfl <;> rfl
theorem Off.upd_new {F : Addr → Prop} {H H' : Hp} {p : Addr} {o : HO} (h : Off F H H') (hp : H' p = none) : Off F H (upd H' p o) := h.trans (Same.upd hp).off
theorem Off.upd_own {F : Addr → Prop} {H H' : Hp} {p : Addr} {o : HO} (h : Off F H H') (hp : H p = none) : Off F H (upd H' p o) := fun b u e n => by
 rw [upd_ne (ne_of_none e hp)]
 exact h b u e n
theorem Deck.own {F : Addr → Prop} {H : Hp} {a p : Addr} {o : HO} (h : Deck F H a) (hp : ¬ F p) : Deck F (upd H p o) a := by
 obtain ⟨q, qs, n, h1, h2, h3, h4, h5, h6⟩ := h.ex
 refine ⟨q, qs, n, ?_, ?_, h3, h4, fun x hx => ?_, h6⟩
 ·rw [upd_ne (fun z => hp ((h6 p).mpr (.inl z.symm)))]; exact h1
 ·rw [upd_ne (fun z => hp ((h6 p).mpr (.inr (.inl z.symm))))]; exact h2
 ·obtain ⟨c, f, m, e⟩ := h5 x hx
  have np : x ≠ p := fun z => hp ((h6 p).mpr (.inr (.inr (by rw [← z]; exact hx))))
  exact ⟨c, f, m, by rw [upd_ne np]; exact e⟩
end L2
end
section
namespace L2
open PySem PySem.Spec PyProof.Rows
theorem seq_by {t u : TS} {D : Ends} {σ : St} {H : Hp} (M : St → Hp → Prop) (fin : ∀ σ' H', M σ' H' → u D σ' H') (h : (∀ σ' H', M σ' H' → u D σ' H') → t { D with nx := u D } σ H) : tSeq t u D σ H := h fin
def WS (ws : List (List Bool)) : HO := .lst (ws.map fun w => V.str (bs w))
theorem ws_len {ws : List (List Bool)} : (ws.map fun w => V.str (bs w)).length = ws.length := by simp
theorem ws_get {ws : List (List Bool)} {i : Nat} {w : List Bool} (h : ws[i]? = some w) : (ws.map fun w => V.str (bs w))[i]? = some (.str (bs w)) := by rw [List.getElem?_map, h]; rfl
theorem lay_all : ∀ {ds : List PyData}, (∀ d ∈ ds, d.canLay0 = true) → PyData.canLayAll0 ds = true
 | [], _ => rfl
 | d :: ds, h => by rw [PyData.canLayAll0, h d List.mem_cons_self, lay_all fun x hx => h x (List.mem_cons_of_mem _ hx)]; rfl
theorem depth_all {k : Nat} : ∀ {ds : List PyData}, (∀ d ∈ ds, d.depth ≤ k) → PyData.depthAll ds ≤ k
 | [], _ => Nat.zero_le _
 | d :: ds, h => by
  rw [PyData.depthAll]
  exact Nat.max_le.mpr ⟨h d List.mem_cons_self, depth_all fun x hx => h x (List.mem_cons_of_mem _ hx)⟩
theorem shaped_list {k : Nat} {ds : List PyData} (h1 : ∀ d ∈ ds, d.canLay0 = true) (h2 : ∀ d ∈ ds, d.depth ≤ k) (hk : k < 64) : SeqAt.shaped (.list ds) = true := by
 unfold SeqAt.shaped
 rw [Bool.and_eq_true]
 refine ⟨by rw [PyData.canLay0]; exact lay_all h1, decide_eq_true ?_⟩
 have := depth_all h2
 rw [PyData.depth]
 omega
end L2
namespace L2
open PySem PySem.Spec PyProof.Rows
end L2
end
section
namespace L2
open PySem PySem.Spec PyProof.Rows
structure Sub (F : Addr → Prop) (st : Addr) (G H : Hp) : Prop where
 s : Same G H
 n : G st = none
 f : ∀ b, F b → G b = none
theorem ne_F {F : Addr → Prop} {b p : Addr} (hb : F b) (hp : ¬ F p) : b ≠ p := fun z => hp (by rw [← z]; exact hb)
section
variable {F : Addr → Prop} {st p : Addr} {G H H' : Hp} {o : HO}
theorem Sub.off (h : Sub F st G H) (k : Off F H H') : Sub F st G H' := ⟨fun b u e => k b u (h.s b u e) (fun z => by rw [h.f b z] at e; cases e), h.n, h.f⟩
theorem Sub.more (h : Sub F st G H) (hp : H p = none) : Sub F st G (upd H p o) := ⟨h.s.trans (Same.upd hp), h.n, h.f⟩
theorem Sub.write (h : Sub F st G H) : Sub F st G (upd H st o) := ⟨fun b u e => by rw [upd_ne (ne_of_none e h.n)]; exact h.s b u e, h.n, h.f⟩
theorem Sub.new (h : Sub F st G H) (hp : H p = none) (hst : st ≠ p) (hF : ¬ F p) : Sub F st (upd G p o) (upd H p o) := by
 refine ⟨fun b u e => ?_, by rw [upd_ne hst]; exact h.n, fun b hb => by rw [upd_ne (ne_F hb hF)]; exact h.f b hb⟩
 by_cases hb : b = p
 ·subst hb
  rw [upd_same] at e ⊢
  exact e
 ·rw [upd_ne hb] at e ⊢
  exact h.s b u e
theorem Sub.free (h : Sub F st G H) (hp : H p = none) : G p = none := h.s.free hp
theorem Sub.grow (h : Sub F st G H) (hp : H p = none) : Same G (upd G p o) := Same.upd (h.free hp)
theorem Off.free (h : Off F H H') {a : Addr} (d : Deck F H' a) (hp : H' p = none) : H p = none := by
 cases e : H p with
 | none => rfl
 | some u =>
  by_cases hf : F p
  ·obtain ⟨o', e'⟩ := d.there hf
   rw [hp] at e'; cases e'
  ·rw [h _ _ e hf] at hp; cases hp
end
end L2
end
section
namespace L2
open PySem PySem.Spec PyProof.Rows
end L2
namespace Om
section
variable {ord : List Nat} {rows : Rows} {k n : Nat}
end
end Om
end
section
namespace L2
open PySem PySem.Spec PyProof.Rows
theorem cut_any (xs : List V) (a b : Nat) (ha : a ≤ xs.length) : cutV xs (some (a : Int)) (some ((a : Int) + (b : Int))) = (xs.drop a).take b := by
 unfold cutV
 have e1 : min a xs.length = a := Nat.min_eq_left ha
 rw [show ((a : Int) + (b : Int)) = ((a + b : Nat) : Int) by omega, HT.sIx_nat, HT.sIx_nat, e1]
 by_cases h : a + b ≤ xs.length
 ·rw [Nat.min_eq_left h]; congr 1; omega
 ·rw [Nat.min_eq_right (by omega), List.take_of_length_le (by simp), List.take_of_length_le (by simp; omega)]
theorem ints_shaped (ns : List Int) : SeqAt.shaped (.list (ns.map PyData.int)) = true := by
 refine shaped_list (k := 0) (fun d hd => ?_) (fun d hd => ?_) (by decide)
 ·obtain ⟨n, _, rfl⟩ := List.mem_map.mp hd; rfl
 ·obtain ⟨n, _, rfl⟩ := List.mem_map.mp hd; exact Nat.le_refl _
theorem ints_DV {H : Hp} {p : Addr} {ns : List Int} (h : H p = some (.lst (ns.map V.int))) : DV H (.ref p) (.list (ns.map PyData.int)) := .lst h (DVs.ints ns)
theorem Deck.not_tup {F : Addr → Prop} {H : Hp} {a b : Addr} {xs : List V} (h : Deck F H a) (hb : H b = some (.tup xs)) : ¬ F b := fun z => by
 obtain ⟨p, qs, n, h1, h2, h3, h4, h5, h6⟩ := h.ex
 rcases (h6 b).mp z with rfl | rfl | z
 ·rw [h1] at hb; cases hb
 ·rw [h2] at hb; cases hb
 ·obtain ⟨c, f, m, e⟩ := h5 b z
  rw [e] at hb; cases hb
end L2
end
section
namespace L2
open PySem PySem.Spec PyProof.Rows
section
variable {X : Cx} {pins : List (Addr × Obj)} {σ : List (Option V)} {H : Hp} {s : Shared} {h' : Heap}
theorem Inv.turnedL {t' : Nat} {ch : List Addr} (I : Inv X pins σ H s) (hch : ∀ b ∈ ch, FpOk X pins H b) (k : ∀ b o, b ∉ ch → s.heap.get? b = some o → h'.get? b = some o) : Inv X pins σ H { s with heap := h', toks := t' } := by
 have nit : ∀ b u, H b = some u → b ∉ ch := fun b u e z => by rw [(hch b z).1] at e; cases e
 refine I.step (g' := s.gens) (d' := s.drawn) (ch := ch) (fun b hb => ?_) (fun b o _ _ hc e _ => k b o hc e) (fun b o _ _ hc e _ => ⟨o.slots, k b o hc e⟩) (fun _ _ _ _ n => n)
  (fun b o hc e => ⟨o, k b o hc e⟩) (fun _ _ e => e) (fun _ _ _ e => e) (fun b ps e => ⟨#[], by rw [e]; simp⟩) (fun m hm => ?_) (fun b u e => ?_) I.bare
 ·obtain ⟨_, q1, _, q3, q4, q5⟩ := hch b hb
  exact ⟨q3, q1, q4, q5⟩
 ·obtain ⟨o, es, ep, ho, r⟩ := hm
  exact ⟨o, es, ep, k _ o (fun z => (hch _ z).2.1 rfl) ho, r⟩
 ·refine (I.hok b u e).stay (fun c v hc q => k c v ?_ q) (fun _ q => q) fun _ _ q => q
  rcases hc with z | z
  ·rw [z]; exact nit b u e
  ·exact nit c _ z
theorem Inv.turnLaid {t' : Nat} {ch : List Addr} {a : Addr} {o' : HO} (I : Inv X pins σ H s) (hch : ∀ b ∈ ch, FpOk X pins H b) (k : ∀ b o, b ∉ ch → s.heap.get? b = some o → h'.get? b = some o)
  (hp : s.heap.objs.size ≤ a) (new : ObjOk X.prog X.w (upd H a o') h' a o') : Inv X pins σ (upd H a o') { s with heap := h', toks := t' } := by
 have nit : ∀ b u, H b = some u → b ∉ ch := fun b u e z => by rw [(hch b z).1] at e; cases e
 have ha : H a = none := I.hok.fresh hp
 have na : ∀ b o, s.heap.get? b = some o → b ≠ a := fun b o e z => absurd (Nat.lt_of_lt_of_le (Heap.lt_size e) hp) (by rw [z]; exact Nat.lt_irrefl _)
 refine I.step (g' := s.gens) (d' := s.drawn) (ch := ch) (fun b hb => ?_) (fun b o _ _ hc e _ => k b o hc e) (fun b o _ _ hc e _ => ⟨o.slots, k b o hc e⟩) (fun b o _ e n => by rw [upd_ne (na b o e)]; exact n)
  (fun b o hc e => ⟨o, k b o hc e⟩) (fun b xs e => by rw [upd_ne (ne_of_none e ha)]; exact e) (fun b o u e => by rw [upd_ne (ne_of_none e ha)]; exact e) (fun b ps e => ⟨#[], by rw [upd_ne (ne_of_none e ha), e]; simp⟩) (fun m hm => ?_) (fun b u e => ?_) I.bare
 ·obtain ⟨_, q1, _, q3, q4, q5⟩ := hch b hb
  exact ⟨q3, q1, q4, q5⟩
 ·obtain ⟨o, es, ep, ho, r⟩ := hm
  exact ⟨o, es, ep, k _ o (fun z => (hch _ z).2.1 rfl) ho, r⟩
 ·by_cases hb : b = a
  ·subst hb
   rw [upd_same] at e
   cases e
   exact new
  ·rw [upd_ne hb] at e
   refine (I.hok b u e).stay (fun c v hc q => k c v ?_ q) (fun c q => by rw [upd_ne (ne_of_none q ha)]; exact q) fun c xs q => by rw [upd_ne (ne_of_none q ha)]; exact q
   rcases hc with z | z
   ·rw [z]; exact nit b u e
   ·exact nit c _ z
end
def Ite (K : PySem.W.Frag) (a : Addr) : It :=
 ⟨fun i H => ∃ xs x, SqL K H a xs ∧ xs[i]? = some x, fun i H x H' => ∃ t y, (∀ xs, SqL K H a xs → xs[i]? = some y) ∧ H t = none ∧ x = .ref t ∧ H' = upd H t (.tup [.int (i : Nat), y]), fun i H => ∃ xs, SqL K H a xs ∧ xs.length ≤ i⟩
theorem turn_enum {P : Program} {w : World} {K : PySem.W.Frag} {es : List Expr} {k : Nat} {pos : Pos} (a it e : Addr) (hne : e ≠ it) : Turn P w K (.Tuple es k pos) (Ite K a) [e, it] e (fun i h => (∃ old, IsEnum h e it (i : Nat) old) ∧ h.IsListIter it a i) where
 mem := by simp
 obj := fun i h st b hb => by
  obtain ⟨⟨old, he⟩, o, ho, c, d⟩ := st
  have hb' : b = e ∨ b = it := by simpa using hb
  rcases hb' with rfl | rfl
  ·exact ⟨_, he, fun v z => by cases z⟩
  ·exact ⟨o, ho, fun v z => by rw [d] at z; cases z⟩
 keep := fun i h h' st k => ⟨let ⟨old, he⟩ := st.1; ⟨old, k e (by simp) _ he⟩, st.2.at fun o e => k it (by simp) o e⟩
 item := by
  intro X hP hw hK hc i pins s σ H E I hf st hg
  subst hP hw hK
  obtain ⟨xs, x, hq, hx⟩ := hg
  obtain ⟨its, rv, p, hz⟩ := I.list hq
  obtain ⟨u, hu, ru⟩ := rv.get hx
  obtain ⟨⟨old, he⟩, hit⟩ := st
  have helt : e < s.heap.objs.size := Heap.lt_size he
  have hilt : it < s.heap.objs.size := by obtain ⟨_, x, _⟩ := hit; exact Heap.lt_size x
  have fT := I.fresh
  refine wpAny_pyNext_enum_item he hit p.isList (x := u) (by simpa using hu) hne fun h' ho hit' hT hsz hk => ⟨_, rfl, ?_⟩
  refine wpAny_letOwnedTupleGo_enum ho fun h2 he2 hs2 => ?_
  have hs2 : Heap.SameBut e h' h2 := hs2
  have up : ∀ b o, b ∉ [e, it] → s.heap.get? b = some o → h2.get? b = some o := fun b o hb ee => by
   have h1 : b ≠ e := fun z => hb (by simp [z])
   have h2' : b ≠ it := fun z => hb (by simp [z])
   exact (hs2.2 b h1).trans (hk b o h1 h2' ee)
  have hT2 : h2.get? s.heap.objs.size = some { cls := .type "tuple", data := .seq #[.int (i : Nat) s.toks, u] } := (hs2.2 _ (Nat.ne_of_gt helt)).trans hT
  refine ⟨.ref s.heap.objs.size, upd H s.heap.objs.size (.tup [.int (i : Nat), x]), ?_, rfl, ⟨_, x, fun ys hy => by rw [I.list_inj hy hq]; exact hx, fT, rfl, rfl⟩, ⟨⟨_, by simpa using he2⟩, hit'.at fun o y => (hs2.2 it hne.symm).trans y⟩, fun b hb => ?_⟩
  ·exact I.turnLaid (t' := s.toks + 1) hf up (Nat.le_refl _) ⟨Nat.le_of_ble_eq_true rfl, [.int (i : Nat) s.toks, u], .cons ⟨_, rfl⟩ (.cons ru .nil), ⟨_, hT2, rfl, 0, rfl⟩⟩
  ·have hb' : b = e ∨ b = it := by simpa using hb
   rcases hb' with rfl | rfl
   ·rw [upd_ne (Nat.ne_of_lt helt)]; exact (hf _ hb).1
   ·rw [upd_ne (Nat.ne_of_lt hilt)]; exact (hf _ hb).1
 done := by
  intro X hP hw hK hc i pins s σ H E I hf st hg
  subst hP hw hK
  obtain ⟨xs, hq, hx⟩ := hg
  obtain ⟨its, rv, p, hz⟩ := I.list hq
  have hl := rv.length
  obtain ⟨⟨old, he⟩, hit⟩ := st
  exact wpAny_pyNext_enum_end (I.ok.hd hc) he hit p.isList (by simp; omega) fun h' eb => ⟨rfl, I.turnedL (t' := s.toks) hf fun b o hb e' => eb b o (fun z => hb (by simp [z])) e'⟩
 self := fun _ _ _ _ _ st h => let ⟨_, he⟩ := st.1; wpAny_pyIter_enum he h
section
variable {X : Cx} {p pos tpos : Pos} {a b : Expr} {es : List Expr} {tk : Nat}
def iEnum (K : PySem.W.Frag) (ta : TA) : TI := fun σ H R => ta σ H fun vs H1 => match vs with
 | [.ref l] => (∃ xs, SqL K H1 l xs) ∧ R (Ite K l) H1
 | _ => False
theorem it_enum {ta : TA} {mg' : Str → Option Value} (hm : mg' "enumerate" = none) (hX : X.mg = mg') (ha : PA X [a] ta) (hg : gB X "enumerate" = true := by kernel_rfl) (hs : starEach [a] X.env = [(false, eval a X.env)] := by kernel_rfl) :
  PI X (.Tuple es tk tpos) (.Call (.Name "enumerate" p) [a] [] pos) (iEnum X.K ta) := by
 intro pins s σ H R I h
 refine Call_ (ld_blt I (gl_of hg) (by rw [hX]; exact hm) boot_enumerate (PyProof.Rows.callWith_type1 (thn (ha pos pins s σ H _ I h) fun us s1 ⟨vs, H1, I1, r1, q1⟩ => ?_) hs rfl))
 dsimp only at q1
 split at q1
 ·rename_i l
  obtain ⟨⟨xs, hq⟩, q⟩ := q1
  obtain ⟨u, rfl, r⟩ := vals1 r1
  cases r
  obtain ⟨its, rv, pl, hz⟩ := I1.list hq
  refine call_enumerate_list pl.isList fun h' hE hI hsz hk => wpAny_pyIter_enum hE ?_
  refine ⟨s1.heap.objs.size + 1, [s1.heap.objs.size + 1, s1.heap.objs.size], _, _, H1, rfl, I1.kept (t' := s1.toks) hk, turn_enum l s1.heap.objs.size (s1.heap.objs.size + 1) (Nat.succ_ne_self _), ⟨⟨_, hE⟩, hI⟩, fun c hc => ?_, q⟩
  have hb' : c = s1.heap.objs.size + 1 ∨ c = s1.heap.objs.size := by simpa using hc
  have hle : s1.heap.objs.size ≤ c := by rcases hb' with rfl | rfl <;> first | exact Nat.le_refl _ | exact Nat.le_add_right _ _
  exact I1.fpOk hle (I1.hok.fresh hle)
 ·exact q1.elim
structure ItPr (J : It) (n : Nat) (row : Nat → List V) (ok : Hp → Prop) : Prop where
 stop : ∀ H, ok H → J.stop n H
 go : ∀ i H, ok H → i < n → J.go i H
 yld : ∀ i H x H', ok H → i < n → J.yld i H x H' → ∃ t, H t = none ∧ x = .ref t ∧ H' = upd H t (.tup (row i))
theorem for_pr {J : It} {n : Nat} {row : Nat → List V} {ok : Hp → Prop} {g : TG} {tb : TS} {D : Ends} {σ : St} {H : Hp} (IO : ItPr J n row ok) (Pv : Nat → St → Hp → Prop) (h0 : Pv 0 σ H) (hl : ∀ i σ H, i ≤ n → Pv i σ H → ok H)
  (hs : ∀ i t σ H, i < n → Pv i σ H → H t = none → g (.ref t) σ (upd H t (.tup (row i))) fun σ2 H2 => tb { D with nx := Pv (i + 1), ct := Pv (i + 1), bk := D.nx } σ2 H2) (hd : ∀ σ H, Pv n σ H → D.nx σ H) :
  ∃ W : Nat → Nat → St → Hp → Prop, (∃ m, W 0 m σ H) ∧ ∀ i m σ H, W i m σ H →
   (J.stop i H ∧ D.nx σ H) ∨ (J.go i H ∧ ∃ N : St → Hp → Prop, (∀ σ' H', N σ' H' → ∃ m', m' < m ∧ W (i + 1) m' σ' H') ∧ ∀ x H', J.yld i H x H' → g x σ H' fun σ2 H2 => tb { D with nx := N, ct := N, bk := D.nx } σ2 H2) := by
 refine ⟨fun i m σ H => m = n - i ∧ i ≤ n ∧ Pv i σ H, ⟨n, by simp, Nat.zero_le _, h0⟩, ?_⟩
 rintro i m σ H ⟨rfl, hi, p⟩
 have q := hl i σ H hi p
 by_cases hlt : i < n
 ·refine .inr ⟨IO.go i H q hlt, Pv (i + 1), fun σ' H' p' => ⟨n - (i + 1), by omega, rfl, hlt, p'⟩, fun x H' y => ?_⟩
  obtain ⟨t, ht, rfl, rfl⟩ := IO.yld i H x H' q hlt y
  exact hs i t σ _ hlt p ht
 ·have e : i = n := by omega
  subst e
  exact .inl ⟨IO.stop H q, hd σ H p⟩
theorem it_enumP (K : PySem.W.Frag) (a : Addr) (xs : List V) : ItPr (Ite K a) xs.length (fun i => [.int (i : Nat), xs.getD i .non]) fun H => H a = some (.lst xs) :=
 ⟨fun H h => ⟨xs, SqL.of h, Nat.le_refl _⟩, fun i H h hi => ⟨xs, xs[i], SqL.of h, by simp [hi]⟩, fun i H x H' h hi y => by
  obtain ⟨t, y', hq, ht, e1, e2⟩ := y
  have hy := hq xs (SqL.of h)
  have e3 : xs.getD i .non = y' := by rw [List.getD_eq_getElem?_getD, hy]; rfl
  exact ⟨t, ht, e1, by rw [e2, e3]⟩⟩
end
end L2
end
section
namespace L2
open PySem PySem.Spec PyProof.Rows
section
variable {X : Cx} {a b c d e o : Expr} {es : List Expr} {pos apos : Pos} {ta tb tc td te to : TE}
def rIsU : R2 := fun x y H Q => match y with
 | .non => Q (.bl (decide (x = .non))) H
 | .bl b => match x with
  | .bl a => Q (.bl (a == b)) H
  | _ => False
 | _ => False
def rIsNotU : R2 := fun x y H Q => match y with
 | .non => Q (.bl (!decide (x = .non))) H
 | _ => False
theorem op_isNotU : OpR X (compareOp .IsNot) rIsNotU := op_notN.of fun x y H Q q => by
 unfold rIsNotU at q
 split at q
 ·exact ⟨rfl, q⟩
 ·exact q.elim
theorem mt_count : MtM X "str.count" (fun x vs H Q => match x, vs with
  | .str z, [.str y] => Q (.int (Txt.count z y)) H
  | _, _ => False) := by
 intro pins s σ H x vs v us Q I rx rv h
 split at h
 ·obtain ⟨t, rfl⟩ := rx
  obtain ⟨u, rfl, t', rfl⟩ := rv.one
  exact SC.count ⟨.int _, H, I.tok _, ⟨_, rfl⟩, h⟩
 ·exact h.elim
def rCount : V → List V → Hp → VK → Prop := fun x vs H Q => match x, vs with
  | .str z, [.str y] => Q (.int (Txt.count z y)) H
  | _, _ => False
theorem m_count {cpos : Pos} {t : TA} (ho : PE X o to) (ha : PA X (e :: es) t)
  (hbase : attributeBase o "count" X.env (eval o X.env) = eval o X.env := by kernel_rfl)
  (hfew : ((backTo cpos (starEach (e :: es) X.env)).all (fun x => !x.1) && (backToKw cpos (keywordEach [] X.env)).all (fun x => x.1.isSome)
   && decide ((e :: es).length + ([] : List Keyword).length + (if ([] : List Keyword).isEmpty then 0 else 1) < 30)) = true := by kernel_rfl)
  (hline : (apos.endLine == cpos.line) = true := by kernel_rfl) (hs : starEach (e :: es) X.env = (false, eval e X.env) :: starEach es X.env := by kernel_rfl) (hplain : (backTo cpos (starEach es X.env)).any (·.1) = false := by kernel_rfl) :
  PE X (.Call (.Attribute o "count" apos) (e :: es) [] cpos) (tMt "str" rCount to t) := pe_mt PySem.F.plainAttrs_str PySem.F.slot_str_count PySem.F.type_str_count mt_count ho ha hbase hfew hline hs hplain
end
abbrev At (a : Addr) : Addr → Prop := fun b => b = a
def Sto (H : Hp) (a : Addr) : Prop := ∃ g b c : Int, H a = some (.lst [.int g, .int b, .int c])
section
variable {H H' G : Hp} {a p : Addr} {o : HO}
theorem Sto.same (h : Sto H a) (k : Same H H') : Sto H' a := let ⟨g, b, c, e⟩ := h; ⟨g, b, c, k _ _ e⟩
theorem Sto.own (h : Sto H a) (hp : p ≠ a) : Sto (upd H p o) a := let ⟨g, b, c, e⟩ := h; ⟨g, b, c, by rw [upd_ne (Ne.symm hp)]; exact e⟩
theorem Sto.ne (h : Sto H a) (hp : H p = none) : p ≠ a := fun z => by obtain ⟨g, b, c, e⟩ := h; rw [← z, hp] at e; cases e
theorem Sto.new (h : Sto H a) (hp : H p = none) : Sto (upd H p o) a := h.own (h.ne hp)
theorem Off.freeS (h : Off (At a) H H') (d : Sto H' a) (hp : H' p = none) : H p = none := by
 cases e : H p with
 | none => rfl
 | some u =>
  have hf : ¬ At a p := d.ne hp
  rw [h _ _ e hf] at hp; cases hp
theorem Same.offS (h : Same G H) (hG : G a = none) (k : Off (At a) H H') : Same G H' := fun b u e => k b u (h b u e) (ne_of_none e hG)
theorem Same.own (h : Same G H) (hG : G p = none) : Same G (L2.upd H p o) := fun b u e => by rw [upd_ne (ne_of_none e hG)]; exact h b u e
theorem Sto.tup {xs : List V} (h : Sto H a) (hp : H p = some (.tup xs)) : p ≠ a := fun z => by obtain ⟨g, b, c, e⟩ := h; rw [← z, hp] at e; cases e
end
def spTake : Sp := fun vs H Q _ => match vs with
 | [.ref a, .int many] => Sto H a ∧ 0 < many ∧ many < 1073741824 ∧ ∀ r H', 0 ≤ r → r < many → Sto H' a → Off (At a) H H' → Q (.int r) H'
 | _ => False
def spWordN : Sp := fun vs H Q _ => match vs with
 | [.int _, .int n] => 0 ≤ n ∧ n ≤ 1000 ∧ ∀ w : List Bool, (w.length : Int) = n → Q (.str (bs w)) H
 | _ => False
end L2
end
section
namespace L2
open PySem PySem.Spec PyProof.Rows
structure Gh (G H0 H : Hp) (a : Addr) : Prop where
 s : Same G H
 ga : G a = none
 st : Sto H a
 o : Off (At a) H0 H
section
variable {G H0 H H' : Hp} {a p : Addr} {o : HO}
theorem Gh.take (h : Gh G H0 H a) (d : Sto H' a) (k : Off (At a) H H') : Gh G H0 H' a := ⟨h.s.offS h.ga k, h.ga, d, h.o.trans k⟩
theorem Gh.new (h : Gh G H0 H a) (hp : H p = none) : Gh G H0 (upd H p o) a := h.take (h.st.new hp) (Same.upd hp).off
theorem Gh.same (h : Gh G H0 H a) (k : Same H H') : Gh G H0 H' a := h.take (h.st.same k) k.off
theorem Gh.freeG (h : Gh G H0 H a) (hp : H p = none) : G p = none := h.s.free hp
theorem Gh.free0 (h : Gh G H0 H a) (hp : H p = none) : H0 p = none := h.o.freeS h.st hp
theorem Gh.ne (h : Gh G H0 H a) (hp : H p = none) : p ≠ a := h.st.ne hp
theorem Gh.own (h : Gh G H0 H a) (hG : G p = none) (h0 : H0 p = none) (hp : p ≠ a) : Gh G H0 (upd H p o) a := ⟨h.s.own hG, h.ga, h.st.own hp, h.o.upd_own h0⟩
theorem Gh.grow (h : Gh G H0 H a) (hp : H p = some o) (hn : p ≠ a) : Gh (upd G p o) H0 H a := by
 refine ⟨fun b u e => ?_, by rw [upd_ne (Ne.symm hn)]; exact h.ga, h.st, h.o⟩
 by_cases hb : b = p
 ·subst hb
  rw [upd_same] at e
  rw [hp]; exact e
 ·rw [upd_ne hb] at e
  exact h.s b u e
theorem Gh.start (h : Sto H a) : Gh (fun _ => none) H H a := ⟨fun _ _ e => (by cases e), rfl, h, Off.refl⟩
end
theorem upd_none {G : Hp} {p q : Addr} {o : HO} (h : G q = none) (hn : q ≠ p) : upd G p o q = none := by rw [upd_ne hn]; exact h
theorem upd_some {G : Hp} {p q : Addr} {o u : HO} (h : G q = some u) (hn : q ≠ p) : upd G p o q = some u := by rw [upd_ne hn]; exact h
end L2
end
section
namespace L2
open PySem PySem.Spec PyProof.Rows
def pairD (x : Nat × Nat) : PyData := .tuple [.int (x.1 : Nat), .int (x.2 : Nat)]
def stepD (s : (Nat × Nat) × (Nat × Nat)) : PyData := .tuple [.int (s.1.1 : Nat), .int (s.1.2 : Nat), pairD s.2]
theorem pairD_lay (x : Nat × Nat) : (pairD x).canLay0 = true := rfl
theorem pairD_depth (x : Nat × Nat) : (pairD x).depth ≤ 1 := by
 rw [pairD, PyData.depth]
 have := depth_all (k := 0) (ds := [.int (x.1 : Nat), .int (x.2 : Nat)]) (fun d hd => by
  rcases List.mem_cons.mp hd with rfl | hd
  ·exact Nat.le_refl _
  ·rw [List.mem_singleton.mp hd]; exact Nat.le_refl _)
 omega
theorem stepD_lay (s : (Nat × Nat) × (Nat × Nat)) : (stepD s).canLay0 = true := rfl
theorem stepD_depth (s : (Nat × Nat) × (Nat × Nat)) : (stepD s).depth ≤ 2 := by
 rw [stepD, PyData.depth]
 have := depth_all (k := 1) (ds := [.int (s.1.1 : Nat), .int (s.1.2 : Nat), pairD s.2]) (fun d hd => by
  rcases List.mem_cons.mp hd with rfl | hd
  ·exact Nat.zero_le _
  rcases List.mem_cons.mp hd with rfl | hd
  ·exact Nat.zero_le _
  ·rw [List.mem_singleton.mp hd]; exact pairD_depth _)
 omega
theorem steps_shaped (ss : List ((Nat × Nat) × (Nat × Nat))) : SeqAt.shaped (.list (ss.map stepD)) = true := shaped_list (k := 2) (fun d hd => by
  obtain ⟨x, _, rfl⟩ := List.mem_map.mp hd
  exact stepD_lay x) (fun d hd => by
  obtain ⟨x, _, rfl⟩ := List.mem_map.mp hd
  exact stepD_depth x) (by decide)
theorem pairs_shaped (ss : List (Nat × Nat)) : SeqAt.shaped (.list (ss.map pairD)) = true := shaped_list (k := 1) (fun d hd => by
  obtain ⟨x, _, rfl⟩ := List.mem_map.mp hd
  exact pairD_lay x) (fun d hd => by
  obtain ⟨x, _, rfl⟩ := List.mem_map.mp hd
  exact pairD_depth x) (by decide)
theorem pair_inv {H : Hp} {v : V} {x : Nat × Nat} (h : DV H v (pairD x)) : ∃ p, v = .ref p ∧ H p = some (.tup [.int (x.1 : Nat), .int (x.2 : Nat)]) := by
 obtain ⟨p, xs, rfl, hp, hd⟩ := h.tup_inv
 cases hd with
 | cons h1 hd =>
  cases hd with
  | cons h2 hd =>
   cases hd
   obtain rfl := h1.int_inv
   obtain rfl := h2.int_inv
   exact ⟨p, rfl, hp⟩
theorem pair_DV {H : Hp} {p : Addr} {x : Nat × Nat} (h : H p = some (.tup [.int (x.1 : Nat), .int (x.2 : Nat)])) : DV H (.ref p) (pairD x) := .tup h (.cons (.int _) (.cons (.int _) .nil))
theorem step_inv {H : Hp} {v : V} {s : (Nat × Nat) × (Nat × Nat)} (h : DV H v (stepD s)) : ∃ p r, v = .ref p ∧ H p = some (.tup [.int (s.1.1 : Nat), .int (s.1.2 : Nat), .ref r]) ∧ H r = some (.tup [.int (s.2.1 : Nat), .int (s.2.2 : Nat)]) := by
 obtain ⟨p, xs, rfl, hp, hd⟩ := h.tup_inv
 cases hd with
 | cons h1 hd =>
  cases hd with
  | cons h2 hd =>
   cases hd with
   | cons h3 hd =>
    cases hd
    obtain rfl := h1.int_inv
    obtain rfl := h2.int_inv
    obtain ⟨r, rfl, hr⟩ := pair_inv h3
    exact ⟨p, r, rfl, hp, hr⟩
theorem DVs.take {H : Hp} : ∀ {xs : List V} {ds : List PyData} (n : Nat), DVs H xs ds → DVs H (xs.take n) (ds.take n)
 | _, _, 0, _ => .nil
 | _, _, _ + 1, .nil => .nil
 | _, _, n + 1, .cons h r => .cons h (DVs.take n r)
structure Gr (G H0 H : Hp) (L : Addr) (vs : List V) : Prop where
 s : Same G H
 s0 : Same H0 G
 gL : G L = none
 hL : H L = some (.lst vs)
section
variable {G H0 H : Hp} {L p : Addr} {vs : List V} {o : HO}
theorem Gr.all (h : Gr G H0 H L vs) : Same H0 H := h.s0.trans h.s
theorem Gr.ne (h : Gr G H0 H L vs) (hp : H p = none) : L ≠ p := ne_of_none h.hL hp
theorem Gr.new (h : Gr G H0 H L vs) (hp : H p = none) : Gr G H0 (upd H p o) L vs := ⟨h.s.trans (Same.upd hp), h.s0, h.gL, upd_some h.hL (h.ne hp)⟩
theorem Gr.put (h : Gr G H0 H L vs) (hp : H p = none) : Gr (upd G p o) H0 (upd H p o) L vs := by
 have gp : G p = none := h.s.free hp
 refine ⟨fun b u e => ?_, h.s0.trans (Same.upd gp), upd_none h.gL (h.ne hp), upd_some h.hL (h.ne hp)⟩
 by_cases hb : b = p
 ·subst hb
  rw [upd_same] at e ⊢
  exact e
 ·rw [upd_ne hb] at e ⊢
  exact h.s b u e
theorem Gr.set {ws : List V} (h : Gr G H0 H L vs) : Gr G H0 (upd H L (.lst ws)) L ws := ⟨h.s.own h.gL, h.s0, h.gL, upd_same⟩
theorem Gr.start (hp : H0 L = none) : Gr H0 H0 (upd H0 L (.lst [])) L [] := ⟨Same.upd hp, Same.refl _, hp, upd_same⟩
theorem Gr.up (h : Gr G H0 H L vs) (hp : H p = none) : Same G (upd G p o) := Same.upd (h.s.free hp)
end
end L2
end
section
namespace L2
open PySem PySem.Spec PyProof.Rows
theorem DVs.imp {H H' : Hp} : ∀ {xs : List V} {ds : List PyData}, (∀ x d, d ∈ ds → DV H x d → DV H' x d) → DVs H xs ds → DVs H' xs ds
 | _, _, _, .nil => .nil
 | _, _, f, .cons h r => .cons (f _ _ List.mem_cons_self h) (DVs.imp (fun x d hd => f x d (List.mem_cons_of_mem _ hd)) r)
section
variable {H H' : Hp} {a l : Addr}
theorem pair_off {v : V} {x : Nat × Nat} (h : DV H v (pairD x)) (s : Sto H a) (o : Off (At a) H H') : DV H' v (pairD x) := by
 obtain ⟨p, rfl, hp⟩ := pair_inv h
 exact pair_DV (o _ _ hp (s.tup hp))
theorem pairs_off {vs : List V} {ss : List (Nat × Nat)} (h : DVs H vs (ss.map pairD)) (s : Sto H a) (o : Off (At a) H H') : DVs H' vs (ss.map pairD) := h.imp fun x d hd q => by
 obtain ⟨y, _, rfl⟩ := List.mem_map.mp hd
 exact pair_off q s o
end
section
variable {G H H2 H3 : Hp} {a T U L p : Addr} {xs ys : List Int} {vs : List V} {ps : List (Nat × Nat)} {m : Nat} {o : HO}
end
end L2
end
section
namespace Om
end Om
namespace L2
open PySem PySem.Spec PyProof.Rows
end L2
end
section
namespace L2
open PySem PySem.Spec PyProof.Rows
section
variable {G H0 H : Hp} {p : Addr}
end
section
variable {G H H' : Hp} {a T U p : Addr} {xs ys : List Int} {m : Nat} {o : HO}
end
end L2
end
section
namespace L2
open PySem
def DefIn (K : PySem.W.Frag) (x : Str) (st : Stmt) : Prop := ∃ (f : Addr) (oc : Value) (od an : Option Addr) (osl : Array (Option Value)) (kV dc pm cd ct : Value), PySem.W.nsIn K mainGlobals x = some (some (.ref f)) ∧
 K.lookup f = some ⟨oc, od, .func (PySem.W.fnOf x x (defArgs st) (defBody st) (defScope st) .none kV dc pm an cd ct), osl⟩ ∧ PySem.W.codeIn K cd x = true ∧ PySem.W.keepIn K (.ref f) = true
theorem DefIn.mk {K : PySem.W.Frag} {x : Str} {st : Stmt} {f : Addr} {oc : Value} {od an : Option Addr} {osl : Array (Option Value)} {kV dc pm cd ct : Value} (a : PySem.W.nsIn K mainGlobals x = some (some (.ref f)))
  (l : K.lookup f = some ⟨oc, od, .func (PySem.W.fnOf x x (defArgs st) (defBody st) (defScope st) .none kV dc pm an cd ct), osl⟩) (c : PySem.W.codeIn K cd x = true) (k : PySem.W.keepIn K (.ref f) = true) : DefIn K x st := ⟨f, oc, od, an, osl, kV, dc, pm, cd, ct, a, l, c, k⟩
theorem DefIn.fnX {K : PySem.W.Frag} {h : Heap} {mg : Str → Option Value} {x : Str} {st : Stmt} {ps : List Str} (D : DefIn K x st) (X : K.In h) (G : h.Ns mainGlobals mg)
  (hb : ∀ (kV doc pm : Value) (an : Option Addr) (cdv ct : Value) (us : List Value), us.length = ps.length → bindArgs (PySem.W.fnOf x x (defArgs st) (defBody st) (defScope st) .none kV doc pm an cdv ct) ⟨us, []⟩ = pure (ps.zip us)) : FnX K mg x st ps := by
 obtain ⟨f, oc, od, an, osl, kV, dc, pm, cd, ct, h1, h2, h3, h4⟩ := D
 have F := fun_mk (st := st) h2 h3 h4
 exact ⟨f, _, F, PySem.W.mg_of X G h1, F.binds hb⟩
end L2
end
section
namespace L2
open PySem PySem.Spec PyProof.Rows
def strI (i : Int) : Str := Str.ofString (toString i)
section
variable {X : Cx} {p pos : Pos} {e : Expr} {es : List Expr} {t : TA}
def rStrOf : List V → Hp → VK → Prop := fun vs H Q => match vs with
 | [.int i] => i.natAbs.log2 < 1920 ∧ Q (.str (strI i)) H
 | _ => False
theorem call_strU : CallR X (.type "str") rStrOf := call_str_int.of fun xs H Q q => by
 unfold rStrOf at q
 split at q
 ·exact ⟨_, rfl, q⟩
 ·exact q.elim
theorem fn_str {mg' : Str → Option Value} (hm : mg' "str" = none) (hX : X.mg = mg') (ha : PA X (e :: es) t) (hg : gB X "str" = true := by kernel_rfl) (he : starEach (e :: es) X.env = (false, eval e X.env) :: starEach es X.env := by kernel_rfl) (hpl : (backTo pos (starEach es X.env)).any (·.1) = false := by kernel_rfl) :
  PE X (.Call (.Name "str" p) (e :: es) [] pos) (tCB rStrOf t) := pe_callTy call_strU (gl_of hg) (by rw [hX]; exact hm) PyProof.Rows.boot_str ha (he := he) (hpl := hpl)
theorem vals_intsA : ∀ {ns : List Int} {us : List Value}, Vals (ns.map V.int) us → IntsAre us ns
 | [], us, r => by cases r; exact .nil
 | n :: ns, us, r => by
  cases r with
  | cons r1 r2 =>
   obtain ⟨t, rfl⟩ := r1
   exact .cons n t (vals_intsA r2)
theorem ints_vals : ∀ {us : List Value} {ns : List Int}, IntsAre us ns → Vals (ns.map V.int) us
 | _, _, .nil => .nil
 | _, _, .cons n t r => .cons ⟨t, rfl⟩ (ints_vals r)
def rSorted : List V → Hp → VK → Prop := fun vs H Q => match vs with
 | [.ref p] => ∃ ns : List Int, H p = some (.lst (ns.map V.int)) ∧ ns.length < 64 ∧ ∀ (l : Addr) (ns' : List Int), H l = none → ns'.Perm ns → ns'.Pairwise (· ≤ ·) → Q (.ref l) (upd H l (.lst (ns'.map V.int)))
 | _ => False
theorem call_sortedU : CallR X (.builtin "sorted") rSorted := by
 intro pins s σ H xs us Q I r h
 unfold rSorted at h
 split at h
 ·rename_i p
  obtain ⟨ns, hH, hl, q⟩ := h
  obtain ⟨u, rfl, r1⟩ := vals1 r
  cases r1
  obtain ⟨z, its, n, rv, e⟩ := I.hok p _ hH
  have hI := vals_intsA rv
  have hlen : its.length = ns.length := by have := rv.length; simpa using this.symm
  refine sorted_ints (vs := its) ⟨_, e, rfl, _, rfl⟩ hI (by omega) fun out ns' a1 a2 a3 => ?_
  obtain ⟨ep, he⟩ := sortedAll_at s.heap its out
  have hz : (ns'.map V.int).length ≤ sizeLine := by rw [List.length_map, a2.length_eq]; exact le_line (by omega)
  refine ⟨.ref (s.heap.objs.size + 1), upd H (s.heap.objs.size + 1) (.lst (ns'.map V.int)), I.laid (t' := s.toks) (fun b u hb => sortedAll_old hb) (Nat.le_succ _) ⟨hz, out.toList, ep, ints_vals a1, ?_⟩, rfl, q _ _ (I.hok.fresh (Nat.le_succ _)) a2 a3⟩
  exact he
 ·exact h.elim
end
end L2
end
section
namespace L2
open PySem PySem.Spec PyProof.Rows
theorem app_len (a b : Str) : (a ++ b).length = a.length + b.length := by
 show (a.cps ++ b.cps).size = _
 simp; rfl
end L2
end
section
namespace Om
end Om
namespace L2
open PySem PySem.Spec PyProof.Rows
theorem le_lineB {n : Nat} (h : n ≤ 100000) : n ≤ sizeLine := Nat.le_trans h (by decide)
section
variable {F : Addr → Prop} {H0 H H' : Hp} {a p : Addr} {ob : HO}
end
theorem eqvAll_ints : ∀ xs ys : List Int, PyData.eqvAll (xs.map PyData.int) (ys.map PyData.int) = decide (xs = ys)
 | [], [] => by simp [PyData.eqvAll]
 | [], _ :: _ => by simp [PyData.eqvAll]
 | _ :: _, [] => by simp [PyData.eqvAll]
 | x :: xs, y :: ys => by
  rw [List.map_cons, List.map_cons, PyData.eqvAll, eqvAll_ints xs ys, PyData.eqv, Bool.eq_iff_iff, Bool.and_eq_true]
  simp
theorem eqv_ints (xs ys : List Int) : PyData.eqv (.list (xs.map PyData.int)) (.list (ys.map PyData.int)) = decide (xs = ys) := by rw [PyData.eqv, eqvAll_ints]
end L2
end
section
namespace L2
open PySem PySem.Spec PyProof.Rows
end L2
end
section
namespace Om
def par (ts : List Int) (f : Nat → Bool) (i : Nat) : Bool := ts.foldr (fun t acc => xor (decide (0 ≤ (i : Int) - t) && f ((i : Int) - t).toNat) acc) false
def put (x P : List Int) : List Int := (List.range x.length).map fun i => (x.getD i 0 + (if ((i : Nat) : Int) ∈ P then 1 else 0)) % 2
def unlike (x y : List Int) : List Int := ((List.range x.length).filter fun i => decide (x.getD i 0 ≠ y.getD i 0)).map fun i : Nat => (i : Int)
section
variable {most : Int} {ts bits : List Int}
end
end Om
end
section
namespace Om
section
variable {most : Int} {ts bits : List Int}
end
end Om
namespace L2
open PySem PySem.Spec PyProof.Rows
end L2
end
section
namespace L2
open PySem PySem.Spec PyProof.Rows
section
variable {κ : Type} [DecidableEq κ]
def valV (kvs : List (κ × V)) (k : κ) : Option V := (kvs.find? fun kv => decide (kv.1 = k)).map (·.2)
def putK (kvs : List (κ × V)) (k : κ) (v : V) : List (κ × V) :=
 if (kvs.any fun kv => decide (kv.1 = k)) = true then kvs.map (fun kv => if kv.1 = k then (kv.1, v) else kv) else kvs ++ [(k, v)]
def dropK (kvs : List (κ × V)) (k : κ) : List (κ × V) := kvs.filter fun kv => decide (kv.1 ≠ k)
theorem valV_nil {k : κ} : valV ([] : List (κ × V)) k = none := rfl
theorem valV_pos {p : κ × V} {r : List (κ × V)} {k : κ} (e : p.1 = k) : valV (p :: r) k = some p.2 := by simp [valV, List.find?_cons, e]
theorem valV_neg {p : κ × V} {r : List (κ × V)} {k : κ} (e : ¬ p.1 = k) : valV (p :: r) k = valV r k := by simp [valV, List.find?_cons, e]
theorem valV_any (k : κ) : ∀ kvs : List (κ × V), (kvs.any fun kv => decide (kv.1 = k)) = (valV kvs k).isSome
 | [] => rfl
 | p :: r => by
  rw [List.any_cons]
  by_cases e : p.1 = k
  ·simp only [valV_pos e, decide_eq_true e, Bool.true_or, Option.isSome_some]
  ·rw [valV_neg e, decide_eq_false e, Bool.false_or]; exact valV_any k r
theorem valV_map (k j : κ) (y : V) : ∀ kvs : List (κ × V), valV (kvs.map fun kv => if kv.1 = k then (kv.1, y) else kv) j = (valV kvs j).map fun x => if j = k then y else x
 | [] => rfl
 | p :: r => by
  have ih := valV_map k j y r
  rw [List.map_cons]
  by_cases h : p.1 = k
  ·rw [if_pos h]
   by_cases e : p.1 = j
   ·rw [valV_pos (p := (p.1, y)) e, valV_pos e, Option.map_some, if_pos (e.symm.trans h)]
   ·rw [valV_neg (p := (p.1, y)) e, valV_neg e, ih]
  ·rw [if_neg h]
   by_cases e : p.1 = j
   ·rw [valV_pos (p := p) e, valV_pos e, Option.map_some, if_neg (fun z => h (e.trans z))]
   ·rw [valV_neg (p := p) e, valV_neg e, ih]
theorem valV_snoc (k j : κ) (y : V) : ∀ kvs : List (κ × V), valV kvs k = none → valV (kvs ++ [(k, y)]) j = if j = k then some y else valV kvs j
 | [], _ => by
  by_cases e : k = j
  ·rw [if_pos e.symm]; exact valV_pos (p := (k, y)) e
  ·rw [if_neg (fun z => e z.symm)]; exact valV_neg (p := (k, y)) e
 | p :: r, hn => by
  rw [List.cons_append]
  have hk : ¬ p.1 = k := fun z => by rw [valV_pos z] at hn; cases hn
  rw [valV_neg hk] at hn
  have ih := valV_snoc k j y r hn
  by_cases e : p.1 = j
  ·rw [valV_pos e, valV_pos e, if_neg (fun z => hk (e.trans z))]
  ·rw [valV_neg e, valV_neg e, ih]
theorem valV_put (kvs : List (κ × V)) (k j : κ) (y : V) : valV (putK kvs k y) j = if j = k then some y else valV kvs j := by
 unfold putK
 by_cases a : (kvs.any fun kv => decide (kv.1 = k)) = true
 ·rw [if_pos a, valV_map]
  rw [valV_any] at a
  by_cases e : j = k
  ·obtain ⟨x, hx⟩ := Option.isSome_iff_exists.mp a
   rw [if_pos e, e, hx, Option.map_some, if_pos rfl]
  ·rw [if_neg e]
   cases valV kvs j with
   | none => rfl
   | some x => rw [Option.map_some, if_neg e]
 ·rw [if_neg a]
  refine valV_snoc k j y kvs ?_
  rw [valV_any] at a
  cases q : valV kvs k with
  | none => rfl
  | some x => rw [q] at a; exact (a rfl).elim
theorem length_putK (kvs : List (κ × V)) (k : κ) (v : V) : (putK kvs k v).length ≤ kvs.length + 1 := by
 unfold putK
 split
 ·rw [List.length_map]; omega
 ·rw [List.length_append, List.length_cons, List.length_nil]; omega
theorem putK_new {kvs : List (κ × V)} {k : κ} (v : V) (h : valV kvs k = none) : putK kvs k v = kvs ++ [(k, v)] := by
 unfold putK
 rw [valV_any, h]
 exact if_neg (by decide)
theorem RelO.isSome_eq {o : Option V} {u : Option Value} (r : RelO o u) : o.isSome = u.isSome := by
 cases o with
 | none => cases u with
  | none => rfl
  | some _ => exact (show False from r).elim
 | some _ => cases u with
  | none => exact (show False from r).elim
  | some _ => rfl
theorem RelO.getD {o : Option V} {u : Option Value} {d : V} {d' : Value} (r : RelO o u) (rd : RelV d d') : RelV (o.getD d) (u.getD d') := by
 cases o with
 | none => cases u with
  | none => exact rd
  | some _ => exact (show False from r).elim
 | some _ => cases u with
  | none => exact (show False from r).elim
  | some _ => exact r
theorem KV.val {kvs : List (κ × V)} {vs : List (κ × Value)} (r : KV kvs vs) (k : κ) : RelO (valV kvs k) (valueAt vs k) := by
 unfold KV at r
 induction r with
 | nil => exact True.intro
 | @cons p q ps qs h t ih =>
  obtain ⟨h1, h2⟩ := h
  by_cases e : p.1 = k
  ·have e' : q.1 = k := h1.symm.trans e
   have b : valueAt (q :: qs) k = some q.2 := by simp [valueAt, List.find?_cons, e']
   rw [valV_pos e, b]; exact h2
  ·have e' : ¬ q.1 = k := fun z => e (h1.trans z)
   have b : valueAt (q :: qs) k = valueAt qs k := by simp [valueAt, List.find?_cons, e']
   rw [valV_neg e, b]; exact ih
theorem KV.any {kvs : List (κ × V)} {vs : List (κ × Value)} (r : KV kvs vs) (k : κ) : (kvs.any fun kv => decide (kv.1 = k)) = vs.any fun kv => decide (kv.1 = k) := by
 unfold KV at r
 induction r with
 | nil => rfl
 | cons h t ih => rw [List.any_cons, List.any_cons, ih, h.1]
theorem KV.repl {kvs : List (κ × V)} {vs : List (κ × Value)} (r : KV kvs vs) (k : κ) {y : V} {u : Value} (ry : RelV y u) :
  KV (kvs.map fun kv => if kv.1 = k then (kv.1, y) else kv) (vs.map fun kv => if kv.1 = k then (kv.1, u) else kv) := by
 unfold KV at r ⊢
 induction r with
 | nil => exact .nil
 | @cons p q ps qs h t ih =>
  rw [List.map_cons, List.map_cons]
  refine .cons ?_ ih
  obtain ⟨h1, h2⟩ := h
  by_cases e : p.1 = k
  ·rw [if_pos e, if_pos (h1.symm.trans e)]; exact ⟨h1, ry⟩
  ·rw [if_neg e, if_neg (fun z => e (h1.trans z))]; exact ⟨h1, h2⟩
theorem KV.put {kvs : List (κ × V)} {vs : List (κ × Value)} (r : KV kvs vs) (k : κ) {y : V} {u : Value} (ry : RelV y u) : KV (putK kvs k y) (stored vs k u) := by
 unfold putK stored
 rw [r.any k]
 by_cases e : (vs.any fun kv => decide (kv.1 = k)) = true
 ·rw [if_pos e, if_pos e]; exact r.repl k ry
 ·rw [if_neg e, if_neg e]; exact Paired.snoc r ⟨rfl, ry⟩
theorem KV.drop {kvs : List (κ × V)} {vs : List (κ × Value)} (r : KV kvs vs) (k : κ) : KV (dropK kvs k) (without vs k) := by
 unfold KV at r ⊢
 unfold dropK without
 induction r with
 | nil => exact .nil
 | @cons p q ps qs h t ih =>
  obtain ⟨h1, h2⟩ := h
  rw [List.filter_cons, List.filter_cons]
  by_cases e : p.1 = k
  ·have a : ¬ decide (p.1 ≠ k) = true := by simp [e]
   have b : ¬ decide (q.1 ≠ k) = true := by simp [h1.symm.trans e]
   rw [if_neg a, if_neg b]; exact ih
  ·have e' : ¬ q.1 = k := fun z => e (h1.trans z)
   have a : decide (p.1 ≠ k) = true := by simp [e]
   have b : decide (q.1 ≠ k) = true := by simp [e']
   rw [if_pos a, if_pos b]; exact .cons ⟨h1, h2⟩ ih
theorem KV.keys {kvs : List (κ × V)} {vs : List (κ × Value)} (r : KV kvs vs) : kvs.map (·.1) = vs.map (·.1) := by
 unfold KV at r
 induction r with
 | nil => rfl
 | cons h t ih => rw [List.map_cons, List.map_cons, ih, h.1]
theorem KV.length {kvs : List (κ × V)} {vs : List (κ × Value)} (r : KV kvs vs) : kvs.length = vs.length := Paired.length r
end
theorem kV_is {P : Program} {w : World} {k : Key} {u : Value} (r : RelV (kV k) u) : (mixKind P w).is k u = true := by
 cases k with
 | inl i => obtain ⟨t, e⟩ := (show ∃ t, u = Value.int i t from r); subst e; exact mixKind_int P w i t
 | inr x => obtain ⟨t, e⟩ := (show ∃ t, u = Value.str x t from r); subst e; exact mixKind_str P w x t
theorem kV_inj {a b : Key} (e : kV a = kV b) : a = b := by
 cases a with
 | inl i => cases b with
  | inl j => have e' : V.int i = V.int j := e; injection e' with e'; rw [e']
  | inr y => exact nomatch (show V.int i = V.str y from e)
 | inr x => cases b with
  | inl j => exact nomatch (show V.str x = V.int j from e)
  | inr y => have e' : V.str x = V.str y := e; injection e' with e'; rw [e']
theorem kVs_inj : ∀ {a b : List Key}, a.map kV = b.map kV → a = b
 | [], [], _ => rfl
 | [], _ :: _, e => by simp at e
 | _ :: _, [], e => by simp at e
 | x :: xs, y :: ys, e => by
  rw [List.map_cons, List.map_cons] at e
  injection e with e1 e2
  rw [kV_inj e1, kVs_inj e2]
theorem items_are {P : Program} {w : World} : ∀ {ks : List Key} {us : List Value}, Vals (ks.map kV) us → ItemsAre (mixKind P w) ks us
 | [], _, r => by rw [List.map_nil] at r; cases r; exact .nil
 | k :: ks, _, r => by
  rw [List.map_cons] at r
  cases r with
  | cons h t => exact .cons (kV_is h) (items_are t)
abbrev KT (H : Hp) : List (List Key × V) → List (List Key × Addr × Value) → Prop := Paired fun p q => p.1 = q.1 ∧ H q.2.1 = some (.tup (p.1.map kV)) ∧ RelV p.2 q.2.2
theorem KT.val {H : Hp} {kvs : List (List Key × V)} {xs : List (List Key × Addr × Value)} (r : KT H kvs xs) (k : List Key) : RelO (valV kvs k) ((atKey xs k).map (·.2)) := by
 induction r with
 | nil => exact True.intro
 | @cons p q ps qs h t ih =>
  obtain ⟨h1, _, h2⟩ := h
  by_cases e : p.1 = k
  ·have e' : q.1 = k := h1.symm.trans e
   have b : atKey (q :: qs) k = some q.2 := by simp [atKey, List.find?_cons, e']
   rw [valV_pos e, b]; exact h2
  ·have e' : ¬ q.1 = k := fun z => e (h1.trans z)
   have b : atKey (q :: qs) k = atKey qs k := by simp [atKey, List.find?_cons, e']
   rw [valV_neg e, b]; exact ih
theorem KT.repl {H : Hp} {kvs : List (List Key × V)} {xs : List (List Key × Addr × Value)} (r : KT H kvs xs) (k : List Key) {y : V} {u : Value} (ry : RelV y u) :
  KT H (kvs.map fun kv => if kv.1 = k then (kv.1, y) else kv) (xs.map (putAt k u)) := by
 induction r with
 | nil => exact .nil
 | @cons p q ps qs h t ih =>
  rw [List.map_cons, List.map_cons]
  refine .cons ?_ ih
  obtain ⟨h1, h2, h3⟩ := h
  unfold putAt
  by_cases e : p.1 = k
  ·rw [if_pos e, if_pos (h1.symm.trans e)]; exact ⟨h1, h2, ry⟩
  ·rw [if_neg e, if_neg (fun z => e (h1.trans z))]; exact ⟨h1, h2, h3⟩
theorem KT.put {H : Hp} {kvs : List (List Key × V)} {xs : List (List Key × Addr × Value)} (r : KT H kvs xs) (k : List Key) {b : Addr} {y : V} {u : Value} (hb : H b = some (.tup (k.map kV))) (ry : RelV y u) :
  KT H (putK kvs k y) (storedH xs k b u) := by
 have e : (kvs.any fun kv => decide (kv.1 = k)) = (atKey xs k).isSome := by
  rw [valV_any, (r.val k).isSome_eq, Option.isSome_map]
 unfold putK storedH
 rw [e]
 by_cases q : (atKey xs k).isSome = true
 ·rw [if_pos q, if_pos q]; exact r.repl k ry
 ·rw [if_neg q, if_neg q]; exact Paired.snoc r ⟨rfl, hb, ry⟩
theorem KT.keeps {H H' : Hp} {kvs : List (List Key × V)} {xs : List (List Key × Addr × Value)} (r : KT H kvs xs) (ht : ∀ b ys, H b = some (.tup ys) → H' b = some (.tup ys)) : KT H' kvs xs :=
 Paired.mapP r fun _ _ z => ⟨z.1, ht _ _ z.2.1, z.2.2⟩
section
variable {P : Program} {w : World} {H : Hp} {h : Heap} {a : Addr}
theorem rd_of {u : HO} (ok : HOk P w H h) (e : Rd H a u) : ObjOk P w H h a u := e.ok ok
theorem dk_rd {kvs : List (Key × V)} (ok : HOk P w H h) (e : Rd H a (.dK kvs)) : kvs.length ≤ sizeLine ∧ (a == sysModules) = false ∧ ∃ vs, KV kvs vs ∧ h.DictOf (mixKind P w) a vs :=
 show ObjOk P w H h a (.dK kvs) from rd_of ok e
theorem dk_of {kvs : List (Key × V)} (ok : HOk P w H h) (e : H a = some (.dK kvs)) : kvs.length ≤ sizeLine ∧ (a == sysModules) = false ∧ ∃ vs, KV kvs vs ∧ h.DictOf (mixKind P w) a vs := dk_rd ok (.inl e)
theorem key_of {ks : List Key} (ok : HOk P w H h) (e : H a = some (.tup (ks.map kV))) : (tupleKind (mixKind P w)).is h ks a := by
 obtain ⟨_, its, r, o, h1, h2, n, h3⟩ := (show ObjOk P w H h a (.tup (ks.map kV)) from ok a _ e)
 exact ⟨o, its.toArray, n, h1, h2, h3, by simpa using items_are r⟩
theorem dt_rd {kvs : List (List Key × V)} (ok : HOk P w H h) (e : Rd H a (.dT kvs)) : kvs.length ≤ sizeLine ∧ (a == sysModules) = false ∧
  ∃ xs, KT H kvs xs ∧ h.DictOfH (tupleKind (mixKind P w)) a xs := by
 obtain ⟨z, y, xs, r, o, es, ep, h1, h2, h3, h4, h5⟩ := (show ObjOk P w H h a (.dT kvs) from rd_of ok e)
 refine ⟨z, y, xs, r, o, es, ep, h1, h2, h3, h4, fun x hx => ?_, h5⟩
 have all : ∀ {l : List (List Key × V)} {m : List (List Key × Addr × Value)}, KT H l m → ∀ x ∈ m, (tupleKind (mixKind P w)).is h x.1 x.2.1 := by
  intro l m q
  induction q with
  | nil => intro x hx; exact nomatch hx
  | @cons p q ps qs hq t ih =>
   intro x hx
   rcases List.mem_cons.mp hx with e | hx
   ·subst e
    exact key_of ok (by rw [← hq.1]; exact hq.2.1)
   ·exact ih x hx
 exact all r x hx
theorem dt_of {kvs : List (List Key × V)} (ok : HOk P w H h) (e : H a = some (.dT kvs)) : kvs.length ≤ sizeLine ∧ (a == sysModules) = false ∧
  ∃ xs, KT H kvs xs ∧ h.DictOfH (tupleKind (mixKind P w)) a xs := dt_rd ok (.inl e)
end
def DGet (H : Hp) (a : Addr) (y : V) (r : Option V) : Prop :=
 (∃ kvs k, Rd H a (.dK kvs) ∧ y = kV k ∧ r = valV kvs k) ∨ ∃ kvs k b, Rd H a (.dT kvs) ∧ y = .ref b ∧ H b = some (.tup (k.map kV)) ∧ r = valV kvs k
def DPut (H : Hp) (a : Addr) (y v : V) (H' : Hp) : Prop :=
 (∃ kvs k, H a = some (.dK kvs) ∧ y = kV k ∧ kvs.length < sizeLine ∧ H' = upd H a (.dK (putK kvs k v))) ∨
 ∃ kvs k b, H a = some (.dT kvs) ∧ y = .ref b ∧ H b = some (.tup (k.map kV)) ∧ kvs.length < sizeLine ∧ H' = upd H a (.dT (putK kvs k v))
theorem DGet.k {H : Hp} {a : Addr} {kvs : List (Key × V)} {k : Key} (e : H a = some (.dK kvs)) : DGet H a (kV k) (valV kvs k) := .inl ⟨kvs, k, .inl e, rfl, rfl⟩
theorem DGet.t {H : Hp} {a b : Addr} {kvs : List (List Key × V)} {k : List Key} (e : H a = some (.dT kvs)) (eb : H b = some (.tup (k.map kV))) : DGet H a (.ref b) (valV kvs k) := .inr ⟨kvs, k, b, .inl e, rfl, eb, rfl⟩
theorem DPut.k {H : Hp} {a : Addr} {kvs : List (Key × V)} {k : Key} {v : V} (e : H a = some (.dK kvs)) (hl : kvs.length < sizeLine) : DPut H a (kV k) v (upd H a (.dK (putK kvs k v))) := .inl ⟨kvs, k, e, rfl, hl, rfl⟩
theorem DPut.t {H : Hp} {a b : Addr} {kvs : List (List Key × V)} {k : List Key} {v : V} (e : H a = some (.dT kvs)) (eb : H b = some (.tup (k.map kV))) (hl : kvs.length < sizeLine) :
  DPut H a (.ref b) v (upd H a (.dT (putK kvs k v))) := .inr ⟨kvs, k, b, e, rfl, eb, hl, rfl⟩
section
variable {X : Cx} {pins : List (Addr × Obj)} {σ : St} {H : Hp} {s : Shared} {a : Addr} {y v : V} {u r : Value} {o : Option V} {A : Around} {E : Value → Shared → Prop}
theorem Inv.big (I : Inv X pins σ H s) : sysModules < s.heap.objs.size := by
 have h : mainGlobals < s.heap.objs.size := (I.mod.glob.keeps I.bk).lt
 exact Nat.lt_trans (by decide) h
theorem d_getItem {Q : Value → Shared → Prop} (hu : A.units + 1 < cLine) (I : Inv X pins σ H s) (g : DGet H a y (some v)) (ry : RelV y u) (h : ∀ w' s', Inv X pins σ H s' → RelV v w' → Q w' s') :
  wpAny (model X.prog X.w) A (getItem (.ref a) u) Q E s := by
 rcases g with ⟨kvs, k, e, ey, l⟩ | ⟨kvs, k, b, e, ey, eb, l⟩
 ·subst ey
  obtain ⟨z, hd, vs, rel, dd⟩ := dk_rd I.hok e
  obtain ⟨w', hw, rw'⟩ := RelO.some_of (v := v) (o := valueAt vs k) (by rw [l]; exact rel.val k)
  exact wpAny_getItem_of (kV_is ry) dd.mapOf hw (h w' _ (I.tok _) rw')
 ·subst ey
  cases (show u = Value.ref b from ry)
  obtain ⟨z, hd, xs, rel, dd⟩ := dt_rd I.hok e
  obtain ⟨w', hw, rw'⟩ := RelO.some_of (v := v) (o := (atKey xs k).map (·.2)) (by rw [l]; exact rel.val k)
  obtain ⟨p, hp, hp2⟩ := Option.map_eq_some_iff.mp hw
  refine wpAny_getItem_heap (tupleKind_room_in1 hu) (key_of I.hok eb) dd hp ?_
  rw [hp2]
  exact h w' _ (I.tok _) rw'
theorem d_in {Q : Value → Shared → Prop} (hu : A.units + 1 < cLine) (I : Inv X pins σ H s) (g : DGet H a y o) (ry : RelV y u) (h : ∀ s', Inv X pins σ H s' → Q (.bool o.isSome) s') :
  wpAny (model X.prog X.w) A (compareOp .In u (.ref a)) Q E s := by
 rcases g with ⟨kvs, k, e, ey, l⟩ | ⟨kvs, k, b, e, ey, eb, l⟩
 ·subst ey
  obtain ⟨z, hd, vs, rel, dd⟩ := dk_rd I.hok e
  refine wpAny_in_of (kV_is ry) hd dd.mapOf ?_
  rw [← (rel.val k).isSome_eq, ← l]
  exact h _ (I.tok _)
 ·subst ey
  cases (show u = Value.ref b from ry)
  obtain ⟨z, hd, xs, rel, dd⟩ := dt_rd I.hok e
  refine wpAny_in_heap (tupleKind_room_in1 hu) (key_of I.hok eb) hd dd ?_
  have q := (rel.val k).isSome_eq
  rw [Option.isSome_map] at q
  rw [← q, ← l]
  exact h _ (I.tok _)
theorem d_notIn {Q : Value → Shared → Prop} (hu : A.units + 1 < cLine) (I : Inv X pins σ H s) (g : DGet H a y o) (ry : RelV y u) (h : ∀ s', Inv X pins σ H s' → Q (.bool (!o.isSome)) s') :
  wpAny (model X.prog X.w) A (compareOp .NotIn u (.ref a)) Q E s := by
 rcases g with ⟨kvs, k, e, ey, l⟩ | ⟨kvs, k, b, e, ey, eb, l⟩
 ·subst ey
  obtain ⟨z, hd, vs, rel, dd⟩ := dk_rd I.hok e
  refine wpAny_notIn_of (kV_is ry) hd dd.mapOf ?_
  rw [← (rel.val k).isSome_eq, ← l]
  exact h _ (I.tok _)
 ·subst ey
  cases (show u = Value.ref b from ry)
  obtain ⟨z, hd, xs, rel, dd⟩ := dt_rd I.hok e
  refine wpAny_notIn_heap (tupleKind_room_in1 hu) (key_of I.hok eb) hd dd ?_
  have q := (rel.val k).isSome_eq
  rw [Option.isSome_map] at q
  rw [← q, ← l]
  exact h _ (I.tok _)
theorem d_write {h' : Heap} {t' : Nat} {ob : HO} (I : Inv X pins σ H s) (mu : Mut (H a)) (hs : Heap.SameBut a s.heap h') (he : ∃ q, h'.get? a = some q) (new : ObjOk X.prog X.w (upd H a ob) h' a ob) :
  Inv X pins σ (upd H a ob) { s with heap := h', toks := t' } :=
 I.write (x := a) (e := a) mu (.inl rfl) (fun b q hb z => (hs.2 b hb).trans z) he new
theorem dk_new {P : Program} {w : World} {H' : Hp} {h' : Heap} {kvs : List (Key × V)} {vs : List (Key × Value)} (z : kvs.length ≤ sizeLine) (hd : (a == sysModules) = false) (rel : KV kvs vs) (dd : h'.DictOf (mixKind P w) a vs) :
  ObjOk P w H' h' a (.dK kvs) := ⟨z, hd, vs, rel, dd⟩
theorem d_setItem {H' : Hp} {Q : Unit → Shared → Prop} (hu : A.units + 1 < cLine) (I : Inv X pins σ H s) (g : DPut H a y v H') (ry : RelV y u) (rv : RelV v r) (h : ∀ s', Inv X pins σ H' s' → Q () s') :
  wpAny (model X.prog X.w) A (setItem (.ref a) u r) Q E s := by
 rcases g with ⟨kvs, k, e, ey, l, eH⟩ | ⟨kvs, k, b, e, ey, eb, l, eH⟩
 ·subst ey eH
  obtain ⟨z, hd, vs, rel, dd⟩ := dk_of I.hok e
  have hz : vs.length ≤ sizeLine := by rw [← rel.length]; exact z
  have hl : (putK kvs k v).length ≤ sizeLine := by have := length_putK kvs k v; omega
  refine wpAny_setItem_pairs (hsz := hz) (kV_is ry) dd fun h' dd' hs => h _ ?_
  have he : ∃ q, h'.get? a = some q := let ⟨q, _, _, hq, _⟩ := dd'; ⟨q, hq⟩
  exact d_write I (by rw [e]; exact True.intro) hs he (dk_new hl hd (rel.put k rv) dd')
 ·subst ey eH
  cases (show u = Value.ref b from ry)
  obtain ⟨z, hd, xs, rel, dd⟩ := dt_of I.hok e
  have hz : xs.length ≤ sizeLine := by rw [← Paired.length rel]; exact z
  have hl : (putK kvs k v).length ≤ sizeLine := by have := length_putK kvs k v; omega
  refine wpAny_setItem_heap (hsz := hz) (tupleKind_room_in1 hu) (key_of I.hok eb) dd fun h' dd' hs => h _ ?_
  obtain ⟨q, es, ep, hq, h2, h3, h4, _, h5⟩ := dd'
  refine d_write I (by rw [e]; exact True.intro) hs ⟨q, hq⟩ ⟨hl, hd, _, (rel.put k eb rv).keeps fun c ys ec => ?_, q, es, ep, hq, h2, h3, h4, h5⟩
  rw [upd_ne (ne_of ec e (fun z => nomatch z))]
  exact ec
end
section
variable {X : Cx} {pins : List (Addr × Obj)} {σ : St} {H : Hp} {s : Shared} {a : Addr} {kvs : List (Key × V)} {k : Key} {u : Value} {A : Around} {E : Value → Shared → Prop}
theorem d_truth {Q : Bool → Shared → Prop} (I : Inv X pins σ H s) (e : Rd H a (.dK kvs)) (h : ∀ s', Inv X pins σ H s' → Q (!kvs.isEmpty) s') : wpAny (model X.prog X.w) A (truthy (.ref a)) Q E s := by
 obtain ⟨z, hd, vs, rel, dd⟩ := dk_rd I.hok e
 refine wpAny_truthy_dict hd dd (by rw [← rel.length]; rw [sizeLine_eq] at z; omega) ?_
 have q : kvs.isEmpty = vs.isEmpty := by cases rel <;> rfl
 rw [← q]
 exact h _ (I.tok _)
end
theorem dict_typeIs {X : Cx} {pins : List (Addr × Obj)} {σ : St} {H : Hp} {s : Shared} {a : Addr} {y : V} {o : Option V} (I : Inv X pins σ H s) (g : DGet H a y o) : s.TypeIs (.ref a) "dict" := by
 rcases g with ⟨kvs, k, e, _, _⟩ | ⟨kvs, k, b, e, _, _, _⟩
 ·obtain ⟨_, _, vs, _, dd⟩ := dk_rd I.hok e
  exact dd.typeIs
 ·obtain ⟨_, _, xs, _, dd⟩ := dt_rd I.hok e
  exact dd.typeIs
section
variable {X : Cx} {o i e value : Expr} {pos pos' tpos : Pos} {td ty tv : TE}
end
theorem dk_empty {P : Program} {w : World} {H : Hp} (h : Heap) (hb : sysModules < h.objs.size) : ObjOk P w H (h.push { cls := .type "dict", data := .dict #[] }) h.objs.size (.dK []) :=
 ⟨Nat.zero_le _, beq_eq_false_iff_ne.mpr (Ne.symm (Nat.ne_of_lt hb)), [], .nil, Heap.DictOf.new h⟩
theorem dt_empty {P : Program} {w : World} {H : Hp} (h : Heap) (hb : sysModules < h.objs.size) : ObjOk P w H (h.push { cls := .type "dict", data := .dict #[] }) h.objs.size (.dT []) :=
 ⟨Nat.zero_le _, beq_eq_false_iff_ne.mpr (Ne.symm (Nat.ne_of_lt hb)), [], .nil, _, #[], 0, Heap.get?_push_size _ rfl, ⟨rfl, rfl, rfl⟩, rfl, rfl, List.nodup_nil⟩
def tDNewK : TE := fun _ H Q => ∀ p, H p = none → Q (.ref p) (upd H p (.dK []))
def tDNewT : TE := fun _ H Q => ∀ p, H p = none → Q (.ref p) (upd H p (.dT []))
section
variable {X : Cx} {pos : Pos}
theorem pe_dnewK : PE X (.Dict [] [] pos) tDNewK := fun pins s σ H Q I h =>
 wpAny_Dict_empty ⟨.ref s.heap.objs.size, _, I.laid (a := s.heap.objs.size) (o := .dK []) (t' := s.toks) (fun _ _ q => Heap.get?_push_of_some _ q) (Nat.le_refl _) (dk_empty s.heap I.big), rfl, h _ (I.hok.fresh (Nat.le_refl _))⟩
theorem pe_dnewT : PE X (.Dict [] [] pos) tDNewT := fun pins s σ H Q I h =>
 wpAny_Dict_empty ⟨.ref s.heap.objs.size, _, I.laid (a := s.heap.objs.size) (o := .dT []) (t' := s.toks) (fun _ _ q => Heap.get?_push_of_some _ q) (Nat.le_refl _) (dt_empty s.heap I.big), rfl, h _ (I.hok.fresh (Nat.le_refl _))⟩
end
def mergeK (kvs more : List (Key × V)) : List (Key × V) := more.foldl (fun acc kv => putK acc kv.1 kv.2) kvs
theorem KV.merge : ∀ {more : List (Key × V)} {rs : List (Key × Value)} {kvs : List (Key × V)} {vs : List (Key × Value)}, KV more rs → KV kvs vs → KV (mergeK kvs more) (merged vs rs) := by
 intro more rs kvs vs r
 unfold KV at r
 induction r generalizing kvs vs with
 | nil => intro q; exact q
 | @cons p q ps qs h t ih =>
  intro r0
  have e : KV (putK kvs p.1 p.2) (stored vs q.1 q.2) := by
   have := r0.put p.1 h.2
   rw [← h.1]; exact this
  exact ih e
structure M1 (X : Cx) (o : Expr) (m : Str) (apos : Pos) (e : Expr) (cpos : Pos) : Prop where
 base : attributeBase o m X.env (eval o X.env) = eval o X.env
 few : ((backTo cpos (starEach [e] X.env)).all (fun x => !x.1) && (backToKw cpos (keywordEach [] X.env)).all (fun x => x.1.isSome)
  && decide (([e] : List Expr).length + ([] : List Keyword).length + (if ([] : List Keyword).isEmpty then 0 else 1) < 30)) = true
 line : (apos.endLine == cpos.line) = true
 trees : backTo cpos (starEach [e] X.env) = [(false, eval e X.env)]
structure M2 (X : Cx) (o : Expr) (m : Str) (apos : Pos) (e f : Expr) (cpos : Pos) : Prop where
 base : attributeBase o m X.env (eval o X.env) = eval o X.env
 few : ((backTo cpos (starEach [e, f] X.env)).all (fun x => !x.1) && (backToKw cpos (keywordEach [] X.env)).all (fun x => x.1.isSome)
  && decide (([e, f] : List Expr).length + ([] : List Keyword).length + (if ([] : List Keyword).isEmpty then 0 else 1) < 30)) = true
 line : (apos.endLine == cpos.line) = true
 trees : backTo cpos (starEach [e, f] X.env) = [(false, eval e X.env), (false, eval f X.env)]
section
variable {X : Cx} {pins : List (Addr × Obj)} {σ : St} {H : Hp} {s : Shared} {a : Addr} {y d : V} {u r : Value} {o : Option V} {A : Around} {E : Value → Shared → Prop}
end
section
variable {X : Cx} {o e f : Expr} {apos cpos : Pos} {td ty tx : TE}
end
section
variable {X : Cx} {pins : List (Addr × Obj)} {σ : St} {H : Hp} {s : Shared} {a : Addr} {kvs : List (Key × V)} {A : Around} {E : Value → Shared → Prop}
end
section
variable {X : Cx} {pins : List (Addr × Obj)} {σ : St} {H : Hp} {s : Shared} {a : Addr} {y : V} {u : Value} {A : Around} {E : Value → Shared → Prop}
end
end L2
end
section
namespace L2
open PySem PySem.Spec PyProof.Rows
def tyD : PyData → String
 | .none => "NoneType"
 | .bool _ => "bool"
 | .int _ => "int"
 | .str _ => "str"
 | .list _ => "list"
 | .tuple _ => "tuple"
 | .dict _ => "dict"
theorem DV.ty {H : Hp} {v : V} {d : PyData} (h : DV H v d) : tyN H v = some (tyD d) := by
 cases h with
 | non => rfl
 | bl b => rfl
 | int i => rfl
 | str x => rfl
 | lst e _ => simp [tyN, e, tyD]
 | tup e _ => simp [tyN, e, tyD]
 | dic e => simp [tyN, e, tyD]
mutual
def smallD : PyData → Bool
 | .str z => decide (z.length ≤ 1000)
 | .list xs => decide (xs.length ≤ 1000) && smallAllD xs
 | .tuple xs => decide (xs.length ≤ 1000) && smallAllD xs
 | _ => true
def smallAllD : List PyData → Bool
 | [] => true
 | d :: ds => smallD d && smallAllD ds
end
def leafV : V → Prop
 | .non | .bl _ | .int _ | .str _ => True
 | _ => False
mutual
inductive Tw (H : Hp) : Nat → V → V → Prop
 | leaf {n : Nat} {x : V} : leafV x → Tw H n x x
 | dic {n : Nat} {a : Addr} : H a = some (.dK []) → Tw H n (.ref a) (.ref a)
 | lst {n : Nat} {a b : Addr} {xs ys : List V} : H a = some (.lst xs) → H b = some (.lst ys) → Tws H n xs ys → Tw H (n + 1) (.ref a) (.ref b)
 | tup {n : Nat} {a b : Addr} {xs ys : List V} : H a = some (.tup xs) → H b = some (.tup ys) → Tws H n xs ys → Tw H (n + 1) (.ref a) (.ref b)
inductive Tws (H : Hp) : Nat → List V → List V → Prop
 | nil {n : Nat} : Tws H n [] []
 | cons {n : Nat} {x y : V} {xs ys : List V} : Tw H n x y → Tws H n xs ys → Tws H n (x :: xs) (y :: ys)
end
mutual
theorem Tw.mono {H H' : Hp} (k : Same H H') : ∀ {n : Nat} {x y : V}, Tw H n x y → Tw H' n x y
 | _, _, _, .leaf h => .leaf h
 | _, _, _, .dic h => .dic (k _ _ h)
 | _, _, _, .lst h h' r => .lst (k _ _ h) (k _ _ h') (Tws.mono k r)
 | _, _, _, .tup h h' r => .tup (k _ _ h) (k _ _ h') (Tws.mono k r)
theorem Tws.mono {H H' : Hp} (k : Same H H') : ∀ {n : Nat} {xs ys : List V}, Tws H n xs ys → Tws H' n xs ys
 | _, _, _, .nil => .nil
 | _, _, _, .cons h r => .cons (Tw.mono k h) (Tws.mono k r)
end
theorem Tws.length {H : Hp} : ∀ {n : Nat} {xs ys : List V}, Tws H n xs ys → xs.length = ys.length
 | _, _, _, .nil => rfl
 | _, _, _, .cons _ r => by rw [List.length_cons, List.length_cons, r.length]
theorem Tws.app {H : Hp} : ∀ {n : Nat} {xs ys xs' ys' : List V}, Tws H n xs ys → Tws H n xs' ys' → Tws H n (xs ++ xs') (ys ++ ys')
 | _, _, _, _, _, .nil, k => k
 | _, _, _, _, _, .cons h r, k => .cons h (Tws.app r k)
theorem Tws.get {H : Hp} : ∀ {n : Nat} {xs ys : List V} {j : Nat} {x y : V}, Tws H n xs ys → xs[j]? = some x → ys[j]? = some y → Tw H n x y
 | _, _, _, 0, _, _, .cons h _, e, e' => by simp at e e'; subst e; subst e'; exact h
 | _, _, _, j + 1, _, _, .cons _ r, e, e' => Tws.get r (by simpa using e) (by simpa using e')
section
variable {X : Cx} {pins : List (Addr × Obj)} {σ : St} {H : Hp} {s : Shared} {A : Around}
end
section
variable {X : Cx}
end
end L2
end
section
namespace L2
open PySem PySem.Spec PyProof.Rows
namespace Om
def whole : PyData → Bool
 | .int _ => true
 | _ => false
end Om
theorem lenStr {H : Hp} {z : Str} (hz : z.length ≤ sizeLine) : lenV H (.str z) = some z.length := by
 unfold lenV
 first | exact if_pos hz | simp [hz] | rfl
end L2
end
section
namespace L2
open PySem PySem.Spec PyProof.Rows
section
variable {X : Cx} {p pos : Pos} {e : Expr} {es : List Expr} {t : TA}
end
end L2
end
section
namespace L2
open PySem PySem.Spec PyProof.Rows
section
variable {prog : Program} {w : World} {A : Around} {E : Value → Shared → Prop} {s : Shared}
theorem keyIter {d : Addr} {ep : Nat} {od : Obj} {es : Array DictEntry} {Q : Value → Shared → Prop} (hd : (d == sysModules) = false) (hT : s.TypeIs (.ref d) "dict") (ho : s.heap.get? d = some od) (hdat : od.data = .dict es ep)
  (hQ : Q (.ref s.heap.objs.size) { s with heap := s.heap.push { cls := .type "dict_keyiterator", data := .fields #[.ref d, .int 0 0, .int es.size 0, .int ep 0] } }) : wpAny (model prog w) A (pyIter (.ref d)) Q E s := by
 refine wpAny_pyIter_slot hT F.slot_dict_iter (wpAny_call_entry F.slot_dict_iter hT F.entry_dict_iter ?_ (F.args_dict_iter_1 _))
 unfold Builtin.«dict.__iter__» Builtin.Dict.dictSlotNone
 refine wpAny_bind (wpAny_bind (wpAny_notOrdered_dict hT ?_))
 refine wpAny_pure ?_
 show wpAny _ _ (Builtin.Dict.showsAll d >>= _) _ _ s
 unfold Builtin.Dict.showsAll
 rw [if_neg (by rw [hd]; exact Bool.false_ne_true)]
 refine wpAny_bind (wpAny_pure (wpAny_bind (wpAny_dictEntries ho hdat (wpAny_bind (wpAny_dictEpoch ho hdat ?_)))))
 refine wpAny_bind (wpAny_newObj_type (wpAny_pure ⟨_, rfl, "dict_keyiterator", _, ⟨_, Heap.get?_push_size _ rfl, rfl⟩, F.slot_dict_keyiterator_next.lookup, ?_⟩))
 simpa [rawInt] using hQ
theorem keyNext {it d : Addr} {i ep : Nat} {od : Obj} {es : Array DictEntry} {e : DictEntry} {Q : Option Value → Shared → Prop} (hit : s.heap.IsKeyIter it d i es.size ep) (hod : s.heap.get? d = some od) (hdd : od.data = .dict es ep) (he : es[i]? = some e)
  (hQ : ∀ h', h'.IsKeyIter it d (i + 1) es.size ep → Heap.SameBut it s.heap h' → Q (some e.key) { s with heap := h' }) : wpAny (model prog w) A (pyNext (.ref it)) Q E s := by
 obtain ⟨o, ho, hc, hd⟩ := id hit
 unfold pyNext
 refine wpAny_bind (wpAny_attempt (wpAny_callSpecial?_slot (name := Str.ofString "__next__") hit.typeIs F.slot_dict_keyiterator_next
  (wpAny_call_entry F.slot_dict_keyiterator_next hit.typeIs F.entry_dict_keyiterator_next ?_ (F.args_dict_keyiterator_next_1 _))))
 refine wpAny_bind (wpAny_pure (wpAny_bind (wpAny_bind ?_)))
 first | refine wpAny_bind (wpAny_typeNameOfWhole_keyiter hit.typeIs (wpAny_pure ?_)) | refine wpAny_bind (wpAny_typeNameOf_keyiter hit.typeIs (wpAny_pure ?_))
 refine wpAny_bind (wpAny_fieldsOf ho hd ?_)
 simp only [show Builtin.Dict_items.ownsTuple "dict_keyiterator" = false from by decide, Bool.false_eq_true, if_false]
 show wpAny _ _ (if (Value.ref d == Value.none) = true then _ else _) _ _ s
 rw [if_neg (show ¬ ((Value.ref d == Value.none) = true) from Bool.false_ne_true)]
 refine wpAny_bind (wpAny_pure (wpAny_bind (wpAny_dictEntries hod hdd ?_)))
 rw [if_neg (by simp)]
 refine wpAny_bind (wpAny_pure (wpAny_bind (wpAny_dictEpoch hod hdd ?_)))
 rw [if_neg (by simp)]
 refine wpAny_pure ?_
 simp only [show ¬ ((i : Int) < 0) from by omega, if_false, Int.toNat_natCast, he]
 refine wpAny_bind ?_
 first | refine wpAny_bind (wpAny_typeNameOfWhole_keyiter hit.typeIs (wpAny_pure ?_)) | refine wpAny_bind (wpAny_typeNameOf_keyiter hit.typeIs (wpAny_pure ?_))
 refine wpAny_bind (wpAny_isOneOf_keyiter hit.typeIs ?_)
 show wpAny _ _ (setField (.ref it) 1 (rawInt ((i : Int) + 1)) >>= _) _ _ s
 refine wpAny_bind (wpAny_setField ho hd (by simp) ?_)
 have hit' : (s.heap.update it (Obj.mapFields (·.setIfInBounds 1 (rawInt ((i : Int) + 1))))).IsKeyIter it d (i + 1) es.size ep :=
  ⟨_, Heap.get?_update_self _ ho (Obj.isFreed_of_fields (Obj.data_mapFields hd _)), (Obj.cls_mapFields ..).trans hc, by rw [Obj.data_mapFields hd]; simp [rawInt]⟩
 refine wpAny_bind (wpAny_holding ?_)
 refine wpAny_bind (wpAny_isOneOf_keyiter (s := { s with heap := s.heap.update it (Obj.mapFields (·.setIfInBounds 1 (rawInt ((i : Int) + 1)))) }) hit'.typeIs ?_)
 show wpAny _ _ (pure e.key) _ _ _
 exact wpAny_pure (wpAny_pure ⟨_, rfl, wpAny_pure (hQ _ hit' (Heap.SameBut.update ..))⟩)
theorem keyEnd {it d : Addr} {i ep : Nat} {od : Obj} {es : Array DictEntry} {Q : Option Value → Shared → Prop} (hh : A.handled = none) (hit : s.heap.IsKeyIter it d i es.size ep) (hod : s.heap.get? d = some od) (hdd : od.data = .dict es ep) (hge : es.size ≤ i)
  (hQ : ∀ h', Heap.ExtBut it s.heap h' → Q none { s with heap := h' }) : wpAny (model prog w) A (pyNext (.ref it)) Q E s := by
 obtain ⟨o, ho, hc, hd⟩ := id hit
 unfold pyNext
 refine wpAny_bind (wpAny_attempt (wpAny_callSpecial?_slot (name := Str.ofString "__next__") hit.typeIs F.slot_dict_keyiterator_next
  (wpAny_call_entry F.slot_dict_keyiterator_next hit.typeIs F.entry_dict_keyiterator_next ?_ (F.args_dict_keyiterator_next_1 _))))
 refine wpAny_bind (wpAny_pure (wpAny_bind (wpAny_bind ?_)))
 first | refine wpAny_bind (wpAny_typeNameOfWhole_keyiter hit.typeIs (wpAny_pure ?_)) | refine wpAny_bind (wpAny_typeNameOf_keyiter hit.typeIs (wpAny_pure ?_))
 refine wpAny_bind (wpAny_fieldsOf ho hd ?_)
 simp only [show Builtin.Dict_items.ownsTuple "dict_keyiterator" = false from by decide, Bool.false_eq_true, if_false]
 show wpAny _ _ (if (Value.ref d == Value.none) = true then _ else _) _ _ s
 rw [if_neg (show ¬ ((Value.ref d == Value.none) = true) from Bool.false_ne_true)]
 refine wpAny_bind (wpAny_pure (wpAny_bind (wpAny_dictEntries hod hdd ?_)))
 rw [if_neg (by simp)]
 refine wpAny_bind (wpAny_pure (wpAny_bind (wpAny_dictEpoch hod hdd ?_)))
 rw [if_neg (by simp)]
 refine wpAny_pure ?_
 simp only [show ¬ ((i : Int) < 0) from by omega, if_false, Int.toNat_natCast, Array.getElem?_eq_none hge]
 refine wpAny_bind ?_
 first | refine wpAny_bind (wpAny_typeNameOfWhole_keyiter hit.typeIs (wpAny_pure ?_)) | refine wpAny_bind (wpAny_typeNameOf_keyiter hit.typeIs (wpAny_pure ?_))
 show wpAny _ _ (setField (.ref it) 0 .none >>= _) _ _ s
 refine wpAny_bind (wpAny_setField ho hd (by simp) ?_)
 show wpAny _ _ (newExc (.type "StopIteration") [] >>= _) _ _ _
 refine wpAny_bind ?_
 simp only [newExc, newTuple]
 refine wpAny_bind (wpAny_newObj_type ?_ (by size_fits))
 refine wpAny_bind (m := firstArgMember _ _) (wpAny_of_eq (a := Value.none) (by first | rfl | (simp only [firstArgMember]; rfl)) ?_)
 refine wpAny_newObj_type ?_ (by size_fits)
 simp only [raiseNew]
 refine wpAny_bind (wpAny_handled ?_)
 rw [show A.in1.handled = none from hh]
 refine wpAny_bind (wpAny_pure (wpAny_throw ?_))
 refine wpAny_bind (wpAny_isInstance (T := "StopIteration") (b := true) ⟨_, Heap.get?_push_size _ rfl, rfl⟩ isSubtype_stop ?_)
 exact wpAny_pure (hQ _ (((Heap.SameBut.update ..).extBut.push _).push _))
end
end L2
end
section
namespace L2
open PySem PySem.Spec PyProof.Rows
section
variable {X : Cx} {pins : List (Addr × Obj)} {σ : St} {H : Hp} {s : Shared} {a : Addr} {u : HO} {o : Obj}
theorem Inv.freeze (I : Inv X pins σ H s) (e : H a = some u) (mu : Mut (some u)) (ho : s.heap.get? a = some o) : Inv X pins σ (upd H a (.frz o u)) s := by
 have nown : ∀ c y, H c = some (.own y) → c ≠ a := fun c y r z => by subst z; rw [r] at e; cases e; exact mu
 have ntup : ∀ c xs, H c = some (.tup xs) → c ≠ a := fun c xs r z => by subst z; rw [r] at e; cases e; exact mu
 exact I.write (t' := s.toks) (h' := s.heap) (x := a) (e := a) (by rw [e]; exact mu) (.inl rfl) (fun _ _ _ q => q) ⟨o, ho⟩
  ⟨ho, (I.hok a u e).stay (fun _ _ _ q => q) (fun b q => by rw [upd_ne (nown b a q)]; exact q) fun b xs q => by rw [upd_ne (ntup b xs q)]; exact q⟩
theorem Inv.frozen (I : Inv X pins σ H s) (e : H a = some (.frz o u)) : s.heap.get? a = some o := (I.hok a _ e).1
theorem Inv.obj (I : Inv X pins σ H s) (e : H a = some u) : ∃ o, s.heap.get? a = some o := by
 have l := (I.hok a u e).lt
 cases u with
 | lst xs => obtain ⟨_, _, _, _, q⟩ := I.hok a _ e; exact ⟨_, q⟩
 | dK kvs => obtain ⟨_, _, _, _, o, _, _, q, _⟩ := I.hok a _ e; exact ⟨_, q⟩
 | dT kvs => obtain ⟨_, _, _, _, o, _, _, q, _⟩ := I.hok a _ e; exact ⟨_, q⟩
 | tup xs => obtain ⟨_, _, _, o, q, _⟩ := I.hok a _ e; exact ⟨_, q⟩
 | set S n => obtain ⟨o, _, _, _, q, _⟩ := I.hok a _ e; exact ⟨_, q⟩
 | ins C dx fs => obtain ⟨_, _, _, q, _⟩ := I.hok a _ e; exact ⟨_, q⟩
 | own y => obtain ⟨_, q⟩ := I.hok a _ e; exact ⟨_, q⟩
 | xd fs => obtain ⟨_, ⟨_, _, _, q, _⟩, _⟩ := I.hok a _ e; exact ⟨_, q⟩
 | rng lo hi => obtain ⟨_, _, _, q⟩ := I.hok a _ e; exact ⟨_, q⟩
 | frz ob u => obtain ⟨q, _⟩ := I.hok a _ e; exact ⟨_, q⟩
 | tbl ps => exact ⟨_, I.hok a _ e⟩
 | met f y => exact ⟨_, I.hok a _ e⟩
 | ext φ => obtain ⟨_, q, _⟩ := I.hok a _ e; exact q
end
section
variable {X : Cx} {e : Expr} {te : TE} {pos : Pos}
def tRetF (te : TE) : TS := fun D σ H => te σ H fun x H1 => match x with
 | .ref a => (∃ u, H1 a = some u ∧ Mut (some u) ∧ ∀ o, D.rt (.ref a) (upd H1 a (.frz o u))) ∨ D.rt (.ref a) H1
 | x => D.rt x H1
theorem s_retF (he : PE X e te) : PS X (.Return (some e) pos) (tRetF te) := by
 intro pins s σ H D I h
 refine wpAny_Return_some (thn (he pins s σ H _ I h) fun v s1 ⟨x, H1, I1, r1, q1⟩ => ?_)
 cases x with
 | ref a =>
  rcases q1 with ⟨u, e, mu, q⟩ | q
  ·obtain ⟨o, ho⟩ := I1.obj e
   exact ⟨.ref a, σ, _, I1.freeze e mu ho, r1, q o⟩
  ·exact ⟨.ref a, σ, H1, I1, r1, q⟩
 | _ => exact ⟨_, σ, H1, I1, r1, q1⟩
end
abbrev KeysAt (H : Hp) : List (List Key × V) → List Addr → Prop := Paired fun p b => H b = some (.tup (p.1.map kV))
def Itk (a : Addr) (o : Obj) (xs : List V) : It :=
 ⟨fun i H => i < xs.length ∧ ∃ u, H a = some (.frz o u), fun i H x H' => H' = H ∧ xs[i]? = some x, fun i H => xs.length ≤ i ∧ ∃ u, H a = some (.frz o u)⟩
theorem it_keys (a : Addr) (o : Obj) (xs : List V) : ItOk (Itk a o xs) xs fun H => ∃ u, H a = some (.frz o u) :=
 ⟨fun _ h => ⟨Nat.le_refl _, h⟩, fun _ _ h hi => ⟨hi, h⟩, fun _ _ _ _ _ _ y => y⟩
theorem turn_keys {P : Program} {w : World} {K : PySem.W.Frag} {tg : Expr} {a it : Addr} {o : Obj} {es : Array DictEntry} {ep : Nat} {xs : List V} (hd : o.data = .dict es ep) (rel : Vals xs (es.toList.map (·.key))) :
  Turn P w K tg (Itk a o xs) [it] it (fun i h => h.IsKeyIter it a i es.size ep) where
 mem := by simp
 obj := fun i h st b hb => by
  have e : b = it := by simpa using hb
  subst e
  obtain ⟨o, e, c, d⟩ := st
  exact ⟨o, e, fun v z => by rw [d] at z; cases z⟩
 keep := fun i h h' st k => st.at fun o e => k it (by simp) o e
 item := by
  intro X hP hw hK hc i pins s σ H E I hf st hg
  subst hP hw hK
  obtain ⟨hi, u, hu⟩ := hg
  have hx : xs[i]? = some xs[i] := by simp [hi]
  obtain ⟨v, hv, rv⟩ := rel.get hx
  obtain ⟨e, he, ev⟩ : ∃ e, es[i]? = some e ∧ e.key = v := by
   rw [List.getElem?_map] at hv
   obtain ⟨e, h1, h2⟩ := Option.map_eq_some_iff.mp hv
   exact ⟨e, by simpa using h1, h2⟩
  obtain ⟨f0, f1, f2, f3, f4, f5⟩ := hf it (by simp)
  refine keyNext st (I.frozen hu) hd he fun h' st' sb => ?_
  have I1 : Inv X pins σ H { s with heap := h' } := I.turned (t' := s.toks) (fun b o hb e => (sb.2 b hb).trans e) f0 f1 f3 f4 f5
  refine ⟨e.key, rfl, letGo_keyiter st' ⟨xs[i], H, I1, by rw [ev]; exact rv, ⟨rfl, hx⟩, st', fun b hb => (hf b hb).1⟩⟩
 done := by
  intro X hP hw hK hc i pins s σ H E I hf st hg
  subst hP hw hK
  obtain ⟨hi, u, hu⟩ := hg
  have hl : es.size ≤ i := by
   have := rel.length
   simp at this
   omega
  obtain ⟨f0, f1, f2, f3, f4, f5⟩ := hf it (by simp)
  exact keyEnd (I.ok.hd hc) st (I.frozen hu) hd hl fun h' eb => ⟨rfl, I.turned (t' := s.toks) (fun b o hb e => eb b o hb e) f0 f1 f3 f4 f5⟩
 self := fun _ _ _ _ _ st h => wpAny_pyIter_keyiter st h
section
variable {X : Cx} {tg : Expr}
def iLstD (K : PySem.W.Frag) (tl : TE) : TI := fun σ H R => tl σ H fun x H1 => match x with
 | .ref a => ((∃ xs, SqL K H1 a xs) ∧ R (Itl K a) H1) ∨ (∃ o kvs, H1 a = some (.frz o (.dT kvs)) ∧ ∀ bs, KeysAt H1 kvs bs → R (Itk a o (bs.map V.ref)) H1) ∨
   ∃ o kvs, H1 a = some (.frz o (.dK kvs)) ∧ R (Itk a o (kvs.map fun p => kV p.1)) H1
 | _ => False
theorem keys_tup {H : Hp} {kvs : List (List Key × V)} {xs : List (List Key × Addr × Value)} (r : KT H kvs xs) : KeysAt H kvs (xs.map (·.2.1)) := by
 induction r with
 | nil => exact .nil
 | cons h _ ih => exact .cons h.2.1 ih
theorem keys_mix {P : Program} {w : World} {kvs : List (Key × V)} : ∀ {es : List DictEntry} {vs : List (Key × Value)}, KV kvs vs → Pairs (mixKind P w) es vs → Vals (kvs.map fun p => kV p.1) (es.map (·.key)) := by
 intro es vs r q
 unfold KV at r
 induction r generalizing es with
 | nil => cases q; exact .nil
 | @cons p v ps vs' h t ih =>
  cases q with
  | cons h1 h2 h3 =>
   refine .cons ?_ (ih h3)
   dsimp only
   rw [h.1]
   rcases keyIs_shape h1 with ⟨i, t, e1, e2⟩ | ⟨x, t, e1, e2⟩
   ·rw [e1, e2]; exact ⟨t, rfl⟩
   ·rw [e1, e2]; exact ⟨t, rfl⟩
theorem pi_lstD {l : Expr} {tl : TE} (hl : PE X l tl) : PI X tg l (iLstD X.K tl) := by
 intro pins s σ H R I h
 refine thn (hl pins s σ H _ I h) fun v s1 ⟨x, H1, I1, r1, q1⟩ => ?_
 dsimp only at q1
 split at q1
 ·rename_i a
  cases r1
  rcases q1 with ⟨⟨xs, hq⟩, q⟩ | ⟨o, kvs, hq, q⟩ | ⟨o, kvs, hq, q⟩
  ·obtain ⟨its, rv, p, hz⟩ := I1.list hq
   refine wpAny_pyIter_list p.isList ?_
   refine ⟨s1.heap.objs.size, [s1.heap.objs.size], _, _, H1, rfl, I1.kept (t' := s1.toks) fun b o e => Heap.get?_push_of_some _ e, turn_list a _, ⟨_, Heap.get?_push_size _ rfl, rfl, rfl⟩, fun b hb => ?_, q⟩
   have e : b = s1.heap.objs.size := by simpa using hb
   subst e
   exact I1.fpOk (Nat.le_refl _) (I1.hok.fresh (Nat.le_refl _))
  ·have ho := I1.frozen hq
   obtain ⟨_, z, hd, xs, r, o', es, ep, h1, h2, h3, h4, h5⟩ := I1.hok a _ hq
   rw [ho] at h1; cases h1
   have hT : s1.TypeIs (.ref a) "dict" := let ⟨_, _, _, _, dd⟩ := dt_rd I1.hok (.inr ⟨o, hq⟩); dd.typeIs
   have rel : Vals ((xs.map (·.2.1)).map V.ref) (es.toList.map (·.key)) := by
    rw [h4]
    clear h4 h5 r
    induction xs with
    | nil => exact .nil
    | cons x xs ih => exact .cons rfl ih
   refine keyIter hd hT ho h3 ?_
   refine ⟨s1.heap.objs.size, [s1.heap.objs.size], _, _, H1, rfl, I1.kept (t' := s1.toks) fun b o e => Heap.get?_push_of_some _ e, turn_keys h3 rel, ⟨_, Heap.get?_push_size _ rfl, rfl, rfl⟩, fun b hb => ?_, q _ (keys_tup r)⟩
   have e : b = s1.heap.objs.size := by simpa using hb
   subst e
   exact I1.fpOk (Nat.le_refl _) (I1.hok.fresh (Nat.le_refl _))
  ·have ho := I1.frozen hq
   obtain ⟨_, z, hd, vs, r, o', es, ep, h1, h2, h3, h4, h5, h6⟩ := I1.hok a _ hq
   rw [ho] at h1; cases h1
   have hT : s1.TypeIs (.ref a) "dict" := let ⟨_, _, _, _, dd⟩ := dk_rd I1.hok (.inr ⟨o, hq⟩); dd.typeIs
   refine keyIter hd hT ho h3 ?_
   refine ⟨s1.heap.objs.size, [s1.heap.objs.size], _, _, H1, rfl, I1.kept (t' := s1.toks) fun b o e => Heap.get?_push_of_some _ e, turn_keys h3 (keys_mix r h5), ⟨_, Heap.get?_push_size _ rfl, rfl, rfl⟩, fun b hb => ?_, q⟩
   have e : b = s1.heap.objs.size := by simpa using hb
   subst e
   exact I1.fpOk (Nat.le_refl _) (I1.hok.fresh (Nat.le_refl _))
 ·exact q1.elim
end
end L2
end
section
namespace L2
open PySem PySem.Spec PyProof.Rows
section
variable {X : Cx} {pos : Pos}
def rDGet : R2 := fun x y H Q => ∃ a v, x = .ref a ∧ DGet H a y (some v) ∧ Q v H
def rDIn : R2 := fun y x H Q => ∃ a o, x = .ref a ∧ DGet H a y o ∧ Q (.bl o.isSome) H
def rDNotIn : R2 := fun y x H Q => ∃ a o, x = .ref a ∧ DGet H a y o ∧ Q (.bl (!o.isSome)) H
def rDPut : V → V → V → Hp → (Hp → Prop) → Prop := fun o i v H Q => ∃ a H', o = .ref a ∧ DPut H a i v H' ∧ Q H'
theorem ix_dict (hu : X.A.units + 64 < cLine) : IxR X rDGet := by
 intro value slice pins s σ H x y v u Q I rx ry ⟨a, z, ex, g, q⟩ hs
 subst ex
 obtain rfl : v = Value.ref a := rx
 have hT := dict_typeIs I g
 unfold subscriptTail
 refine wpAny_bind ?_
 rw [getitemInPython_of_ne hT.not_modules]
 refine wpAny_bind (wpAny_specialOf hT PySem.F.slot_dict_getitem.lookup ?_)
 have fin : wpAny (model X.prog X.w) X.A (subscripted slice false (.ref a) u) (fun r s₃ => wpAny (model X.prog X.w) X.A (letTemporaryGo value (.ref a) r >>= fun _ => pure r) (EP X pins σ Q) X.xe s₃) X.xe s := by
  rw [hs]
  exact wpAny_operating (d_getItem (by omega) I g ry fun w' s3 I3 rw' => wpAny_bind (wpAny_letTemporaryGo (wpAny_pure ⟨z, H, I3, rw', q⟩)))
 first
  | exact wpAny_pure (wpAny_bind fin)
  | exact wpAny_bind (wpAny_pure (wpAny_bind fin))
  | exact wpAny_bind fin
theorem op_inDict (hu : X.A.units + 64 < cLine) : OpR X (compareOp .In) rDIn := by
 intro pins s σ H y x u v Q I ry rx ⟨a, o, ex, g, q⟩
 subst ex
 obtain rfl : v = Value.ref a := rx
 exact d_in (by omega) I g ry fun s3 I3 => ⟨.bl o.isSome, H, I3, rfl, q⟩
theorem op_notInDict (hu : X.A.units + 64 < cLine) : OpR X (compareOp .NotIn) rDNotIn := by
 intro pins s σ H y x u v Q I ry rx ⟨a, o, ex, g, q⟩
 subst ex
 obtain rfl : v = Value.ref a := rx
 exact d_notIn (by omega) I g ry fun s3 I3 => ⟨.bl (!o.isSome), H, I3, rfl, q⟩
theorem set_dict (hu : X.A.units + 64 < cLine) : PSet X rDPut := by
 intro pins s σ H o i v ov iv u Q I ro ri rv ⟨a, H', eo, g, q⟩
 subst eo
 obtain rfl : ov = Value.ref a := ro
 exact d_setItem (by omega) I g ri rv fun s4 I4 => ⟨H', I4, q⟩
def rIxD : R2 := fun x y H Q => rIxU x y H Q ∨ rDGet x y H Q
def rSetD : V → V → V → Hp → (Hp → Prop) → Prop := fun o i v H Q => rSetU o i v H Q ∨ rDPut o i v H Q
theorem ix_atD {a b : Expr} {ta tb : TE} (hu : X.A.units + 64 < cLine) (ha : PE X a ta) (hb : PE X b tb) (hs : ∀ o i, subscripted b false o i = operate [o, i] (getItem o i) := by intro _ _; kernel_rfl) : PE X (.Subscript a b pos) (tOp rIxD ta tb) :=
 pe_ix (ixU.or (ix_dict hu)) ha hb hs
theorem g_subD {o i : Expr} {to ti : TE} (hu : X.A.units + 64 < cLine) (ho : PE X o to) (hi : PE X i ti) (ha : ∀ v, assign (.Subscript o i pos) X.env v = (do
   let ov ← holding [v] (eval o X.env)
   let iv ← holding [v, ov] (eval i X.env)
   standAt pos
   holding [v, ov, iv] (setItem ov iv v)
   release [v, ov, iv] []) := by intro _; kernel_rfl) : PG X (.Subscript o i pos) (gSub to ti rSetD) :=
 pg_sub ho hi (fun pins s σ H o i v ov iv u Q I ro ri rv q => by
  rcases q with q | q
  ·exact setU pins s σ H o i v ov iv u Q I ro ri rv q
  ·exact set_dict hu pins s σ H o i v ov iv u Q I ro ri rv q) ha
end
section
variable {prog : Program} {w : World} {A : Around} {E : Value → Shared → Prop} {s : Shared}
theorem truthy_entries {d : Addr} {o : Obj} {es : Array DictEntry} {ep : Nat} {Q : Bool → Shared → Prop} (hd : (d == sysModules) = false) (hT : s.TypeIs (.ref d) "dict") (ho : s.heap.get? d = some o) (hdat : o.data = .dict es ep) (hfit : (es.size : Int) < 2 ^ 63)
  (h : Q (decide (es.size ≠ 0)) { s with toks := s.toks + 1 + 1 }) : wpAny (model prog w) A (truthy (.ref d)) Q E s := by
 have hne : ((es.size : Int) != 0) = decide (es.size ≠ 0) := by
  by_cases z : es.size = 0
  ·simp [z]
  ·simp [z]
 have len1 : MeetsIn prog w (Builtin.«dict.__len__» ⟨[.ref d], []⟩) (fun _ R s => s.heap.get? d = some o ∧ R (.ok (.ret (.int es.size s.toks))) { s with toks := s.toks + 1 }) :=
  .of_wp fun A R s ⟨ho, h⟩ => by
   show wpAny _ _ (dictSize d >>= _) _ _ s
   unfold dictSize
   refine wpAny_bind (wpAny_bind (wpAny_dictEntries ho hdat (wpAny_pure ?_)))
   show wpAny _ _ (Builtin.Dict.pendingCount d >>= _) _ _ s
   refine wpAny_bind (wpAny_pendingCount_other hd ?_)
   refine wpAny_ret_mkInt ?_
   rw [Nat.add_zero]; exact h
 have key : wpAny (model prog w) A (runValue (.builtin "len" ⟨[.ref d], []⟩)) (fun r s' => r = .int es.size (s.toks + 1) ∧ Q (decide (es.size ≠ 0)) s') E s := by
  refine wpAny_runValue (codeAny_builtin entry_len ?_)
  rw [Around.under_plainId plain_len _]
  unfold Builtin.«len»
  refine wpAny_bind (m := oneArg "len" _) (wpAny_pure ?_)
  refine wpAny_bind (m := callSpecial? (.ref d) (Str.ofString "__len__")) (wpAny_callSpecial?_slot (name := Str.ofString "__len__") hT F.slot_dict_len
   (call_meetsIn F.slot_dict_len hT F.entry_dict_len (F.args_dict_len_1 _) len1 ⟨ho, ?_⟩))
  show wpAny _ _ _ _ _ { s with toks := s.toks + 1 }
  refine wpAny_bind (wpAny_holding (wpAny_pure ?_))
  refine wpAny_bind (wpAny_letGo ?_)
  show wpAny _ _ (if ((es.size : Nat) : Int) < 0 then _ else _) _ _ _
  rw [if_neg (by omega)]
  show wpAny _ _ (if ((es.size : Nat) : Int) ≥ 2 ^ 63 then _ else _) _ _ _
  rw [if_neg (by omega)]
  exact wpAny_bind (wpAny_mkInt (wpAny_pure ⟨rfl, h⟩))
 unfold truthy
 first
  | refine wpAny_bind (wpAny_callSpecial?_none (name := Str.ofString "__bool__") hT noBool_dict ?_)
  | refine wpAny_bind (wpAny_pure (wpAny_bind (wpAny_callSpecial?_none (name := Str.ofString "__bool__") hT noBool_dict ?_)))
 first
  | refine wpAny_bind (wpAny_specialOf (name := Str.ofString "__len__") hT F.slot_dict_len.lookup ?_)
  | refine wpAny_bind (wpAny_pure (wpAny_bind (wpAny_specialOf (name := Str.ofString "__len__") hT F.slot_dict_len.lookup ?_)))
 first
  | exact wpAny_bind (wpAny_mono key (fun r s' h' => by obtain ⟨rfl, hq⟩ := h'; exact wpAny_pure (hne ▸ hq)) fun _ _ e => e)
  | exact wpAny_bind (wpAny_pure (wpAny_bind (wpAny_mono key (fun r s' h' => by obtain ⟨rfl, hq⟩ := h'; exact wpAny_pure (hne ▸ hq)) fun _ _ e => e)))
end
section
variable {X : Cx} {pins : List (Addr × Obj)} {σ : St} {H : Hp} {s : Shared} {a : Addr} {A : Around} {E : Value → Shared → Prop}
theorem d_truthT {kvs : List (List Key × V)} {Q : Bool → Shared → Prop} (I : Inv X pins σ H s) (e : Rd H a (.dT kvs)) (h : ∀ s', Inv X pins σ H s' → Q (!kvs.isEmpty) s') : wpAny (model X.prog X.w) A (truthy (.ref a)) Q E s := by
 obtain ⟨z, hd, xs, rel, dd⟩ := dt_rd I.hok e
 have hT : s.TypeIs (.ref a) "dict" := dd.typeIs
 obtain ⟨o, es, ep, h1, h2, h3, h4, _⟩ := dd
 have hl : es.size = kvs.length := by
  have := congrArg List.length h4
  simp at this
  rw [this, Paired.length rel]
 refine truthy_entries hd hT h1 h3 (by rw [hl]; rw [sizeLine_eq] at z; omega) ?_
 have q : decide (es.size ≠ 0) = !kvs.isEmpty := by rw [hl]; cases kvs <;> simp
 rw [q]
 exact h _ ((I.tok _).tok _)
end
section
variable {X : Cx} {pos : Pos}
def rTruD (_K : PySem.W.Frag) (x : V) (H : Hp) (Q : Bool → Hp → Prop) : Prop := match x with
 | .bl c => Q c H
 | .ref p => (∃ xs, H p = some (.lst xs) ∧ Q (!xs.isEmpty) H) ∨ (∃ kvs, Rd H p (.dK kvs) ∧ Q (!kvs.isEmpty) H) ∨ ∃ kvs, Rd H p (.dT kvs) ∧ Q (!kvs.isEmpty) H
 | _ => False
theorem truD {pins : List (Addr × Obj)} {s : Shared} {σ : St} {H : Hp} {x : V} {v : Value} {Q : Bool → Hp → Prop} (I : Inv X pins σ H s) (rx : RelV x v) (q : rTruD X.K x H Q) :
  wpAny (model X.prog X.w) X.A (truthy v) (fun b s' => ∃ H', Inv X pins σ H' s' ∧ Q b H') X.xe s := by
 unfold rTruD at q
 split at q
 ·exact tru_ok pins s σ H _ v Q I rx ⟨_, rfl, q⟩
 ·rcases q with ⟨xs, h1, q⟩ | ⟨kvs, h1, q⟩ | ⟨kvs, h1, q⟩
  ·exact tru_ok pins s σ H _ v Q I rx ⟨_, .inl ⟨xs, SqL.of h1, rfl⟩, q⟩
  ·obtain rfl := (show v = Value.ref _ from rx)
   exact d_truth I h1 fun s' I' => ⟨H, I', q⟩
  ·obtain rfl := (show v = Value.ref _ from rx)
   exact d_truthT I h1 fun s' I' => ⟨H, I', q⟩
 ·exact q.elim
def tNotD (K : PySem.W.Frag) (t : TE) : TE := fun σ H Q => t σ H fun x H1 => rTruD K x H1 fun b H2 => Q (.bl (!b)) H2
theorem e_notD {a : Expr} {ta : TE} (ha : PE X a ta) : PE X (.UnaryOp .Not a pos) (tNotD X.K ta) := by
 intro pins s σ H Q I h
 refine UnaryOp_ (thn (ha pins s σ H _ I h) fun v s1 ⟨x, H1, I1, r1, q1⟩ => ?_)
 exact not_of (thn (truD I1 r1 q1) fun b s2 ⟨H2, I2, q2⟩ => ⟨.bl (!b), H2, I2, rfl, q2⟩)
end
section
variable {X : Cx} {o e : Expr} {es : List Expr} {to : TE} {t : TA} {apos : Pos}
end
end L2
end
section
namespace L2
open PySem PySem.Spec PyProof.Rows
section
variable {X : Cx} {p pos : Pos} {a b e : Expr} {es : List Expr} {t : TA}
def tFmt (te : TE) : TE := fun σ H Q => te σ H fun x H1 => match x with
 | .str z => z.length ≤ sizeLine ∧ Q (.str z) H1
 | .int i => i.natAbs.log2 < 1920 ∧ Q (.str (strI i)) H1
 | _ => False
theorem e_fmt {te : TE} (h : PE X e te) : PE X (.FormattedValue e (-1) none pos) (tFmt te) := by
 intro pins s σ H Q I q
 refine FormattedValue_plain (thn (h pins s σ H _ I q) fun u s1 ⟨x, H1, I1, r1, q1⟩ => ?_)
 dsimp only at q1
 split at q1
 ·obtain ⟨t, rfl⟩ := r1
  exact formatField_str (fun t' tk => ⟨.str _, H1, I1.tok _, ⟨_, rfl⟩, q1.2⟩) q1.1
 ·obtain ⟨t, rfl⟩ := r1
  exact formatField_int_small q1.1 ⟨.str _, H1, I1.tok _, ⟨_, rfl⟩, q1.2⟩
 ·exact q1.elim
def tJn : List TE → Str → TE
 | [], acc => fun _ H Q => acc.length ≤ sizeLine ∧ Q (.str acc) H
 | t :: ts, acc => fun σ H Q => t σ H fun x H1 => match x with
  | .str z => (acc ++ z).length ≤ sizeLine ∧ tJn ts (acc ++ z) σ H1 Q
  | _ => False
def PJ (X : Cx) (es : List Expr) (ts : List TE) : Prop := ∀ (acc : Str) (pins : List (Addr × Obj)) (s : Shared) (σ : St) (H : Hp) (Q : VK), Inv X pins σ H s → tJn ts acc σ H Q →
 wpAny (model X.prog X.w) X.A (joinParts acc (evalEach es X.env)) (EP X pins σ Q) X.xe s
theorem pj_nil : PJ X [] [] := fun acc pins s σ H Q I q => joinParts_nil ⟨.str _, H, I.tok _, ⟨_, rfl⟩, q.2⟩ q.1
theorem pj_cons {te : TE} {ts : List TE} (h : PE X e te) (hr : PJ X es ts) : PJ X (e :: es) (te :: ts) := by
 intro acc pins s σ H Q I q
 refine joinParts_cons (rest := evalEach es X.env) (thn (h pins s σ H _ I q) fun u s1 ⟨x, H1, I1, r1, q1⟩ => ?_)
 dsimp only at q1
 split at q1
 ·obtain ⟨t, rfl⟩ := r1
  exact ⟨q1.1, hr _ pins s1 σ H1 Q I1 q1.2⟩
 ·exact q1.elim
theorem e_fstr {ts : List TE} (h : PJ X (a :: b :: es) ts) : PE X (.JoinedStr (a :: b :: es) pos) (tJn ts Str.empty) := fun pins s σ H Q I q => JoinedStr_many (h _ pins s σ H Q I q)
end
end L2
namespace Om
end Om
end
section
namespace Om
abbrev Stp := (Nat × Nat) × (Nat × Nat)
abbrev R2n := Nat → Nat → Prop
def St (rows : Rows) (x y : Nat) (s : Stp) : Prop :=
 s.1.1 < (rows.getD x []).length ∧ s.1.2 < (rows.getD y []).length ∧ (step rows x s.1.1).1 = (step rows y s.1.2).1 ∧ s.2 = ((step rows x s.1.1).2, (step rows y s.1.2).2)
def StU (rows : Rows) (x y : Nat) (s : Stp) : Prop := St rows x y s ∧ s.1.1 ≠ s.1.2
def nextR (E : Nat → Nat → Stp → Prop) (R : R2n) : R2n := fun x' y' => ∃ x y s, R x y ∧ E x y s ∧ s.2 = (x', y')
def iterR (E : Nat → Nat → Stp → Prop) (R : R2n) : Nat → R2n
 | 0 => R
 | m + 1 => nextR E (iterR E R m)
def AllR (rows : Rows) : R2n := fun x y => x < rows.length ∧ y < rows.length
inductive Pth (rows : Rows) : Nat → List Nat → List Bool → Nat → Prop
 | nil {s : Nat} : s < rows.length → Pth rows 0 [] [] s
 | snoc {m : Nat} {t : List Nat} {w : List Bool} {p i : Nat} : Pth rows m t w p → i < (rows.getD p []).length → Pth rows (m + 1) (t ++ [i]) (w ++ (step rows p i).1) (step rows p i).2
section
variable {k n : Nat} {rows : Rows}
theorem CodeOk.stp (ok : CodeOk k n rows) {p i : Nat} (hi : i < (rows.getD p []).length) : p < rows.length ∧ (step rows p i).1.length = n ∧ (step rows p i).2 < rows.length := by
 by_cases hp : p < rows.length
 ·have e : rows.getD p [] = rows[p] := by simp [List.getD_eq_getElem?_getD, hp]
  rw [e] at hi
  have e2 : step rows p i = rows[p][i] := by unfold step; rw [e]; simp [List.getD_eq_getElem?_getD, hi]
  rw [e2]
  have := ok.row _ (List.getElem_mem hp) _ (List.getElem_mem hi)
  exact ⟨hp, this.1, this.2⟩
 ·have : rows.getD p [] = [] := by simp [List.getD_eq_getElem?_getD, List.getElem?_eq_none (Nat.le_of_not_lt hp)]
  rw [this] at hi
  simp at hi
theorem Pth.len {m : Nat} {t : List Nat} {w : List Bool} {p : Nat} (h : Pth rows m t w p) : t.length = m := by
 induction h with
 | nil => rfl
 | snoc _ _ ih => simp [ih]
theorem Pth.lt {m : Nat} {t : List Nat} {w : List Bool} {p : Nat} (ok : CodeOk k n rows) (h : Pth rows m t w p) : p < rows.length := by
 cases h with
 | nil h => exact h
 | snoc _ hi => exact (ok.stp hi).2.2
theorem Pth.inv {m : Nat} {t : List Nat} {w : List Bool} {p : Nat} (h : Pth rows (m + 1) t w p) : ∃ t1 w1 p1 i, Pth rows m t1 w1 p1 ∧ i < (rows.getD p1 []).length ∧ t = t1 ++ [i] ∧ w = w1 ++ (step rows p1 i).1 ∧ p = (step rows p1 i).2 := by
 cases h with
 | snoc h hi => exact ⟨_, _, _, _, h, hi, rfl, rfl, rfl⟩
theorem two_inv (ok : CodeOk k n rows) {m : Nat} {t t' : List Nat} {w : List Bool} {x y : Nat} (h : Pth rows (m + 1) t w x) (h' : Pth rows (m + 1) t' w y) :
  ∃ t1 t1' w1 x1 y1 s, Pth rows m t1 w1 x1 ∧ Pth rows m t1' w1 y1 ∧ St rows x1 y1 s ∧ s.2 = (x, y) ∧ t = t1 ++ [s.1.1] ∧ t' = t1' ++ [s.1.2] := by
 obtain ⟨t1, w1, p1, i, a1, a2, a3, a4, a5⟩ := h.inv
 obtain ⟨t2, w2, p2, j, b1, b2, b3, b4, b5⟩ := h'.inv
 have l1 := (ok.stp a2).2.1
 have l2 := (ok.stp b2).2.1
 have e : w1 ++ (step rows p1 i).1 = w2 ++ (step rows p2 j).1 := by rw [← a4, ← b4]
 obtain ⟨e1, e2⟩ := List.append_inj' e (by rw [l1, l2])
 subst e1
 exact ⟨t1, t2, w1, p1, p2, ((i, j), ((step rows p1 i).2, (step rows p2 j).2)), a1, b1, ⟨a2, b2, e2, rfl⟩, by rw [a5, b5], a3, b3⟩
theorem iter_iff (ok : CodeOk k n rows) : ∀ (m x y : Nat), iterR (St rows) (AllR rows) m x y ↔ ∃ t t' w, Pth rows m t w x ∧ Pth rows m t' w y
 | 0, x, y => by
  constructor
  ·rintro ⟨hx, hy⟩
   exact ⟨[], [], [], .nil hx, .nil hy⟩
  ·rintro ⟨t, t', w, h, h'⟩
   exact ⟨h.lt ok, h'.lt ok⟩
 | m + 1, x, y => by
  constructor
  ·rintro ⟨x1, y1, s, h, e, es⟩
   obtain ⟨t, t', w, a, b⟩ := (iter_iff ok m x1 y1).mp h
   obtain ⟨e1, e2, e3, e4⟩ := e
   have c := Pth.snoc b e2
   rw [← e3] at c
   rw [e4] at es
   cases es
   exact ⟨_, _, _, a.snoc e1, c⟩
  ·rintro ⟨t, t', w, h, h'⟩
   obtain ⟨t1, t1', w1, x1, y1, s, a, b, e, es, _, _⟩ := two_inv ok h h'
   exact ⟨x1, y1, s, (iter_iff ok m x1 y1).mpr ⟨_, _, _, a, b⟩, e, es⟩
def Clash (rows : Rows) (b m : Nat) (x y : Nat) : Prop := ∃ t t' w, Pth rows m t w x ∧ Pth rows m t' w y ∧ t.getD b 0 ≠ t'.getD b 0
theorem getD_snoc {t : List Nat} {i b : Nat} (h : t.length = b) : (t ++ [i]).getD b 0 = i := by subst h; simp [List.getD_eq_getElem?_getD]
theorem getD_early {t : List Nat} {i b : Nat} (h : b < t.length) : (t ++ [i]).getD b 0 = t.getD b 0 := by simp [List.getD_eq_getElem?_getD, List.getElem?_append_left h]
theorem clash_iff (ok : CodeOk k n rows) (b : Nat) : ∀ (a x y : Nat), iterR (St rows) (nextR (StU rows) (iterR (St rows) (AllR rows) b)) a x y ↔ Clash rows b (b + 1 + a) x y
 | 0, x, y => by
  constructor
  ·rintro ⟨x1, y1, s, h, ⟨e, ne⟩, es⟩
   obtain ⟨t, t', w, a, b'⟩ := (iter_iff ok b x1 y1).mp h
   obtain ⟨e1, e2, e3, e4⟩ := e
   have c := Pth.snoc b' e2
   rw [← e3] at c
   rw [e4] at es
   cases es
   exact ⟨_, _, _, a.snoc e1, c, by rw [getD_snoc a.len, getD_snoc b'.len]; exact ne⟩
  ·rintro ⟨t, t', w, h, h', ne⟩
   obtain ⟨t1, t1', w1, x1, y1, s, a, b', e, es, et, et'⟩ := two_inv ok h h'
   subst et et'
   rw [getD_snoc a.len, getD_snoc b'.len] at ne
   exact ⟨x1, y1, s, (iter_iff ok b x1 y1).mpr ⟨_, _, _, a, b'⟩, ⟨e, ne⟩, es⟩
 | a + 1, x, y => by
  constructor
  ·rintro ⟨x1, y1, s, h, e, es⟩
   obtain ⟨t, t', w, p, p', ne⟩ := (clash_iff ok b a x1 y1).mp h
   obtain ⟨e1, e2, e3, e4⟩ := e
   have c := Pth.snoc p' e2
   rw [← e3] at c
   rw [e4] at es
   cases es
   exact ⟨_, _, _, p.snoc e1, c, by rw [getD_early (by rw [p.len]; omega), getD_early (by rw [p'.len]; omega)]; exact ne⟩
  ·rintro ⟨t, t', w, h, h', ne⟩
   obtain ⟨t1, t1', w1, x1, y1, s, p, p', e, es, et, et'⟩ := two_inv ok (m := b + 1 + a) h h'
   subst et et'
   rw [getD_early (by rw [p.len]; omega), getD_early (by rw [p'.len]; omega)] at ne
   exact ⟨x1, y1, s, (clash_iff ok b a x1 y1).mpr ⟨_, _, _, p, p', ne⟩, e, es⟩
end
end Om
end
section
namespace L2
open PySem PySem.Spec PyProof.Rows
def kk (p : Nat × Nat) : List Key := [.inl ((p.1 : Nat) : Int), .inl ((p.2 : Nat) : Int)]
theorem kk_inj {p q : Nat × Nat} (h : kk p = kk q) : p = q := by
 obtain ⟨a, b⟩ := p
 obtain ⟨c, d⟩ := q
 unfold kk at h
 simp at h
 obtain ⟨h1, h2⟩ := h
 have : a = c := by omega
 have : b = d := by omega
 subst_vars; rfl
structure KD (ks : List (Nat × Nat)) (kvs : List (List Key × V)) : Prop where
 keys : kvs.map (·.1) = ks.map kk
 nd : ks.Nodup
 lt : ∀ p ∈ ks, p.1 < 8 ∧ p.2 < 8
section
variable {ks : List (Nat × Nat)} {kvs : List (List Key × V)} {p : Nat × Nat} {v : V}
theorem KD.nil : KD [] [] := ⟨rfl, List.nodup_nil, by simp⟩
def all64 : List (Nat × Nat) := (List.range 8).flatMap fun x => (List.range 8).map fun y => (x, y)
theorem KD.le (h : KD ks kvs) : ks.length ≤ 64 := by
 have : ks ⊆ all64 := fun p hp => by
  obtain ⟨h1, h2⟩ := h.lt p hp
  unfold all64
  rw [List.mem_flatMap]
  exact ⟨p.1, List.mem_range.mpr h1, List.mem_map.mpr ⟨p.2, List.mem_range.mpr h2, rfl⟩⟩
 have := List.Nodup.length_le_of_subset h.nd this
 have e : all64.length = 64 := by decide +kernel
 omega
theorem KD.len (h : KD ks kvs) : kvs.length = ks.length := by
 have := congrArg List.length h.keys
 simpa using this
theorem KD.lt_line (h : KD ks kvs) : kvs.length < sizeLine := by
 rw [h.len, sizeLine_eq]; have := h.le; omega
theorem valV_isSome_iff : ∀ {kvs : List (List Key × V)} {k : List Key}, (valV kvs k).isSome = true ↔ k ∈ kvs.map (·.1)
 | [], k => by simp [valV_nil]
 | q :: r, k => by
  by_cases e : q.1 = k
  ·rw [valV_pos e]; simp [e]
  ·rw [valV_neg e, valV_isSome_iff]
   simp only [List.map_cons, List.mem_cons]
   constructor
   ·exact fun h => .inr h
   ·rintro (h | h)
    ·exact absurd h.symm e
    ·exact h
theorem KD.mem (h : KD ks kvs) : (valV kvs (kk p)).isSome = true ↔ p ∈ ks := by
 rw [valV_isSome_iff, h.keys, List.mem_map]
 constructor
 ·rintro ⟨q, hq, e⟩; rw [← kk_inj e]; exact hq
 ·exact fun h => ⟨p, h, rfl⟩
theorem KD.none (h : KD ks kvs) (n : p ∉ ks) : valV kvs (kk p) = none := by
 cases e : valV kvs (kk p) with
 | none => rfl
 | some v => exact absurd (h.mem.mp (by rw [e]; rfl)) n
theorem KD.put (h : KD ks kvs) (n : p ∉ ks) (l1 : p.1 < 8) (l2 : p.2 < 8) : KD (ks ++ [p]) (putK kvs (kk p) v) := by
 rw [putK_new v (h.none n)]
 refine ⟨by simp [h.keys], ?_, fun q hq => ?_⟩
 ·rw [List.nodup_append]
  refine ⟨h.nd, by simp, fun a ha b hb => ?_⟩
  have : b = p := by simpa using hb
  subst this
  exact fun e => n (e ▸ ha)
 ·rcases List.mem_append.mp hq with hq | hq
  ·exact h.lt q hq
  ·have : q = p := by simpa using hq
   subst this; exact ⟨l1, l2⟩
theorem KD.at (h : KD ks kvs) {i : Nat} (hi : i < ks.length) : ∃ v, kvs[i]? = some (kk ks[i], v) := by
 have hi' : i < kvs.length := by rw [h.len]; exact hi
 have e := congrArg (fun l => l[i]?) h.keys
 simp only [List.getElem?_map, List.getElem?_eq_getElem hi, List.getElem?_eq_getElem hi', Option.map_some] at e
 exact ⟨kvs[i].2, by rw [List.getElem?_eq_getElem hi', ← Option.some.inj e]⟩
theorem Paired.getP {α β : Type} {F : α → β → Prop} : ∀ {l₁ : List α} {l₂ : List β}, Paired F l₁ l₂ → ∀ {i : Nat} {a : α}, l₁[i]? = some a → ∃ b, l₂[i]? = some b ∧ F a b
 | _, _, .nil, _, _, e => by simp at e
 | _, _, .cons r _, 0, _, e => by simp at e; subst e; exact ⟨_, rfl, r⟩
 | _, _, .cons _ t, i + 1, _, e => by
  obtain ⟨b, h1, h2⟩ := Paired.getP t (i := i) (by simpa using e)
  exact ⟨b, by simpa using h1, h2⟩
theorem KD.key {H : Hp} {bs : List Addr} (h : KD ks kvs) (hb : KeysAt H kvs bs) {i : Nat} {x : V} (hi : i < ks.length) (hx : (bs.map V.ref)[i]? = some x) : ∃ b, x = .ref b ∧ H b = some (.tup ((kk ks[i]).map kV)) := by
 obtain ⟨v, hv⟩ := h.at hi
 obtain ⟨b, h1, h2⟩ := Paired.getP hb hv
 rw [List.getElem?_map, h1] at hx
 exact ⟨b, (Option.some.inj hx).symm, h2⟩
theorem KD.blen {H : Hp} {bs : List Addr} (h : KD ks kvs) (hb : KeysAt H kvs bs) : (bs.map V.ref).length = ks.length := by
 rw [List.length_map, ← Paired.length hb, h.len]
end
def LyV (H : Hp) (v : V) (R : Om.R2n) : Prop := ∃ a o kvs ks, v = .ref a ∧ H a = some (.frz o (.dT kvs)) ∧ KD ks kvs ∧ ∀ x y, (x, y) ∈ ks ↔ R x y
def sD (s : Om.Stp) : PyData := .tuple [pairD s.1, pairD s.2]
def StL (H : Hp) (l : Addr) (ss : List Om.Stp) : Prop := DV H (.ref l) (.list (ss.map sD))
def GrV (H : Hp) (v : V) (R : Om.R2n) (E : Nat → Nat → Om.Stp → Prop) : Prop := ∃ a o kvs ks, v = .ref a ∧ H a = some (.frz o (.dT kvs)) ∧ KD ks kvs ∧ (∀ x y, (x, y) ∈ ks ↔ R x y) ∧
 ∀ p ∈ ks, ∃ l ss, valV kvs (kk p) = some (.ref l) ∧ StL H l ss ∧ ss.length ≤ 64 ∧ ∀ s, s ∈ ss ↔ E p.1 p.2 s
theorem StL.mono {H H' : Hp} {l : Addr} {ss : List Om.Stp} (h : StL H l ss) (s : Same H H') : StL H' l ss := (show DV H (.ref l) (.list (ss.map sD)) from h).mono s
theorem LyV.mono {H H' : Hp} {v : V} {R : Om.R2n} (h : LyV H v R) (s : Same H H') : LyV H' v R := by
 obtain ⟨a, o, kvs, ks, e, h1, h2⟩ := h
 exact ⟨a, o, kvs, ks, e, s _ _ h1, h2⟩
theorem GrV.mono {H H' : Hp} {v : V} {R : Om.R2n} {E : Nat → Nat → Om.Stp → Prop} (h : GrV H v R E) (s : Same H H') : GrV H' v R E := by
 obtain ⟨a, o, kvs, ks, e, h1, h2, h3, h4⟩ := h
 refine ⟨a, o, kvs, ks, e, s _ _ h1, h2, h3, fun p hp => ?_⟩
 obtain ⟨l, ss, q1, q2, q3⟩ := h4 p hp
 exact ⟨l, ss, q1, q2.mono s, q3⟩
theorem GrV.ly {H : Hp} {v : V} {R : Om.R2n} {E : Nat → Nat → Om.Stp → Prop} (h : GrV H v R E) : LyV H v R := by
 obtain ⟨a, o, kvs, ks, e, h1, h2, h3, h4⟩ := h
 exact ⟨a, o, kvs, ks, e, h1, h2, h3⟩
theorem sD_inv {H : Hp} {v : V} {s : Om.Stp} (h : DV H v (sD s)) : ∃ p a b, v = .ref p ∧ H p = some (.tup [.ref a, .ref b]) ∧ H a = some (.tup [.int (s.1.1 : Nat), .int (s.1.2 : Nat)]) ∧ H b = some (.tup [.int (s.2.1 : Nat), .int (s.2.2 : Nat)]) := by
 obtain ⟨p, xs, rfl, hp, hd⟩ := h.tup_inv
 cases hd with
 | cons h1 hd =>
  cases hd with
  | cons h2 hd =>
   cases hd
   obtain ⟨a, rfl, ha⟩ := pair_inv h1
   obtain ⟨b, rfl, hb⟩ := pair_inv h2
   exact ⟨p, a, b, rfl, hp, ha, hb⟩
structure Gd (G H0 H : Hp) (D : Addr) (kvs : List (List Key × V)) : Prop where
 s : Same G H
 s0 : Same H0 G
 gD : G D = none
 hD : H D = some (.dT kvs)
section
variable {G H0 H : Hp} {D p : Addr} {kvs : List (List Key × V)} {o : HO}
theorem Gd.start (h : H0 D = none) : Gd H0 H0 (upd H0 D (.dT [])) D [] := ⟨Same.upd h, Same.refl _, h, upd_same⟩
theorem Gd.all (g : Gd G H0 H D kvs) : Same H0 H := g.s0.trans g.s
theorem Gd.put (g : Gd G H0 H D kvs) (h : H p = none) : Gd (upd G p o) H0 (upd H p o) D kvs := by
 have pD : D ≠ p := ne_of_none g.hD h
 refine ⟨fun x u e => ?_, g.s0.trans (Same.upd (g.s.free h)), by rw [upd_ne pD]; exact g.gD, by rw [upd_ne pD]; exact g.hD⟩
 by_cases hx : x = p
 ·subst hx; rw [upd_same] at e ⊢; exact e
 ·rw [upd_ne hx] at e ⊢; exact g.s _ _ e
theorem Gd.up (g : Gd G H0 H D kvs) (h : H p = none) : Same G (upd G p o) := Same.upd (g.s.free h)
theorem Gd.set {kvs' : List (List Key × V)} (g : Gd G H0 H D kvs) : Gd G H0 (upd H D (.dT kvs')) D kvs' := by
 refine ⟨fun x u e => ?_, g.s0, g.gD, upd_same⟩
 have : x ≠ D := ne_of_none e g.gD
 rw [upd_ne this]; exact g.s _ _ e
theorem Gd.frz {ob : Obj} (g : Gd G H0 H D kvs) : Same G (upd H D (.frz ob (.dT kvs))) := fun x u e => by
 have : x ≠ D := ne_of_none e g.gD
 rw [upd_ne this]; exact g.s _ _ e
theorem Gd.free (g : Gd G H0 H D kvs) : H0 D = none := g.s0.free g.gD
theorem Gd.call {H' : Hp} (g : Gd G H0 H D kvs) (s : Same H H') : ∃ G', Gd G' H0 H' D kvs ∧ Same G G' ∧ ∀ x, x ≠ D → G' x = H' x := by
 refine ⟨fun x => if x = D then none else H' x, ⟨fun x u e => ?_, fun x u e => ?_, if_pos rfl, s _ _ g.hD⟩, fun x u e => ?_, fun x hx => if_neg hx⟩
 ·by_cases hx : x = D
  ·rw [if_pos hx] at e; cases e
  ·rw [if_neg hx] at e; exact e
 ·have hx : x ≠ D := ne_of_none (g.s0 _ _ e) g.gD
  show (if x = D then none else H' x) = some u
  rw [if_neg hx]; exact s _ _ (g.all _ _ e)
 ·have hx : x ≠ D := ne_of_none e g.gD
  show (if x = D then none else H' x) = some u
  rw [if_neg hx]; exact s _ _ (g.s _ _ e)
end
end L2
end
section
namespace L2
open PySem PySem.Spec PyProof.Rows
section
variable {X : Cx} {a : Expr} {p pos : Pos} {ta : TA}
def tRng1 (ta : TA) : TE := fun σ H Q => ta σ H fun vs H1 => match vs with
 | [.int j] => 0 ≤ j ∧ j < 2 ^ 24 ∧ ∀ q, H1 q = none → Q (.ref q) (upd H1 q (.rng 0 j))
 | _ => False
theorem e_rng1 {mg' : Str → Option Value} (hm : mg' "range" = none) (hX : X.mg = mg') (ha : PA X [a] ta) (hg : gB X "range" = true := by kernel_rfl) (hs : starEach [a] X.env = [(false, eval a X.env)] := by kernel_rfl) :
  PE X (.Call (.Name "range" p) [a] [] pos) (tRng1 ta) := by
 intro pins s σ H Q I h
 refine Call_ (ld_blt I (gl_of hg) (by rw [hX]; exact hm) boot_range (PyProof.Rows.callWith_type1 (thn (ha pos pins s σ H _ I h) fun us s1 ⟨vs, H1, I1, r1, q1⟩ => ?_) hs rfl))
 dsimp only at q1
 split at q1
 ·obtain ⟨q1, q2, q⟩ := q1
  obtain ⟨u, rfl, t, rfl⟩ := vals1 r1
  refine call_range_1 ?_
  exact ⟨.ref s1.heap.objs.size, _, I1.laid (o := .rng 0 _) (fun _ _ q => Heap.get?_push_of_some _ q) (Nat.le_refl _) ⟨_, _, _, Heap.get?_push_size _ rfl⟩, rfl, q _ (I1.hok.fresh (Nat.le_refl _))⟩
 ·exact q1.elim
def rListR : List V → Hp → VK → Prop := fun vs H Q => match vs with
 | [.ref p] => (∃ j : Nat, H p = some (.rng 0 j) ∧ j ≤ 2 ^ 24 ∧ ∀ l, H l = none → Q (.ref l) (upd H l (.lst ((List.range j).map fun i => V.int (i : Nat))))) ∨ rListOf vs H Q
 | _ => False
theorem vals_of : ∀ {xs : List V} {us : List Value}, xs.length = us.length → (∀ (i : Nat) (x : V) (u : Value), xs[i]? = some x → us[i]? = some u → RelV x u) → Vals xs us
 | [], [], _, _ => .nil
 | [], _ :: _, h, _ => by simp at h
 | _ :: _, [], h, _ => by simp at h
 | x :: xs, u :: us, h, r => .cons (r 0 x u rfl rfl) (vals_of (by simpa using h) fun i y v h1 h2 => r (i + 1) y v (by simpa using h1) (by simpa using h2))
theorem items_vals {acc : Array Value} {n : Nat} (h : ItemsOf (fun i v => ∃ t, v = .int (0 + (i : Nat) * 1) t) acc n) : Vals ((List.range n).map fun i => V.int (i : Nat)) acc.toList := by
 refine vals_of (by simp [h.1]) fun i x u hx hu => ?_
 have hu' : acc[i]? = some u := by simpa using hu
 obtain ⟨t, rfl⟩ := h.2 i u hu'
 rw [List.getElem?_map] at hx
 obtain ⟨j, h1, rfl⟩ := Option.map_eq_some_iff.mp hx
 have hj : j = i := by
  have hlt : i < n := by
   have := List.getElem?_eq_some_iff.mp h1
   obtain ⟨hl, _⟩ := this
   simpa using hl
  rw [List.getElem?_range hlt] at h1
  exact (Option.some.inj h1).symm
 subst hj
 exact ⟨t, by simp⟩
theorem call_listR (hc : X.calm = true) : CallR X (.type "list") rListR := by
 intro pins s σ H xs us Q I r h
 unfold rListR at h
 split at h
 ·rcases h with ⟨j, hp, hj, q⟩ | h
  ·obtain ⟨u, rfl, rx⟩ := vals1 r
   cases rx
   obtain ⟨t, u, v, e⟩ := I.hok _ _ hp
   refine call_list_range (I.ok.hd hc) e (small_one (by omega) (by omega) (by omega) (by omega)) (n := j) (by rw [rangeSize_one]; split <;> omega) hj fun h' tk acc' c' kp e' it => ?_
   have hv := items_vals it
   have hl : ((List.range j).map fun i => V.int (i : Nat)).length ≤ sizeLine := by rw [List.length_map, List.length_range, sizeLine_eq]; omega
   exact ⟨.ref s.heap.objs.size, _, I.laid (t' := tk) kp (Nat.le_refl _) (show ObjOk X.prog X.w _ h' _ (.lst _) from ⟨hl, acc'.toList, c', hv, by simpa using e'⟩), rfl, q _ (I.hok.fresh (Nat.le_refl _))⟩
  ·exact call_listU pins s σ H _ us Q I r h
 ·exact h.elim
theorem fn_listR {e : Expr} {es : List Expr} {t : TA} {mg' : Str → Option Value} (hm : mg' "list" = none) (hX : X.mg = mg') (ha : PA X (e :: es) t) (hc : X.calm = true := by kernel_rfl) (hg : gB X "list" = true := by kernel_rfl) (he : starEach (e :: es) X.env = (false, eval e X.env) :: starEach es X.env := by kernel_rfl) (hpl : (backTo pos (starEach es X.env)).any (·.1) = false := by kernel_rfl) :
  PE X (.Call (.Name "list" p) (e :: es) [] pos) (tCB rListR t) := pe_callTy (call_listR hc) (gl_of hg) (by rw [hX]; exact hm) PyProof.Rows.boot_list ha (he := he) (hpl := hpl)
end
end L2
end
section
namespace L2
open PySem PySem.Spec PyProof.Rows
structure Lt (H H' : Hp) : Prop where
 l : ∀ a xs, H a = some (.lst xs) → H' a = some (.lst xs)
 t : ∀ a xs, H a = some (.tup xs) → H' a = some (.tup xs)
 d : ∀ a, H a = some (.dK []) → H' a = some (.dK [])
mutual
theorem DV.lt {H H' : Hp} (k : Lt H H') : ∀ {v : V} {d : PyData}, DV H v d → DV H' v d
 | _, _, .non => .non
 | _, _, .bl b => .bl b
 | _, _, .int i => .int i
 | _, _, .str x => .str x
 | _, _, .lst h r => .lst (k.l _ _ h) (DVs.lt k r)
 | _, _, .tup h r => .tup (k.t _ _ h) (DVs.lt k r)
 | _, _, .dic h => .dic (k.d _ h)
theorem DVs.lt {H H' : Hp} (k : Lt H H') : ∀ {vs : List V} {ds : List PyData}, DVs H vs ds → DVs H' vs ds
 | _, _, .nil => .nil
 | _, _, .cons h r => .cons (DV.lt k h) (DVs.lt k r)
end
theorem Lt.but {H G : Hp} {D : Addr} {kvs : List (List Key × V)} (hD : H D = some (.dT kvs)) (h : ∀ x, x ≠ D → G x = H x) : Lt H G :=
 ⟨fun a xs e => by rw [h a (ne_of e hD (fun z => nomatch z))]; exact e, fun a xs e => by rw [h a (ne_of e hD (fun z => nomatch z))]; exact e, fun a e => by rw [h a (ne_of e hD (fun z => nomatch z))]; exact e⟩
def Vals2 (G : Hp) (kvs : List (List Key × V)) (ks : List (Nat × Nat)) (E : Nat → Nat → Om.Stp → Prop) : Prop :=
 ∀ p ∈ ks, ∃ l ss, valV kvs (kk p) = some (.ref l) ∧ StL G l ss ∧ ss.length ≤ 64 ∧ ∀ s, s ∈ ss ↔ E p.1 p.2 s
theorem Vals2.mono {G G' : Hp} {kvs : List (List Key × V)} {ks : List (Nat × Nat)} {E : Nat → Nat → Om.Stp → Prop} (h : Vals2 G kvs ks E) (s : Same G G') : Vals2 G' kvs ks E := fun p hp => by
 obtain ⟨l, ss, h1, h2, h3⟩ := h p hp
 exact ⟨l, ss, h1, h2.mono s, h3⟩
theorem Vals2.put {G : Hp} {kvs : List (List Key × V)} {ks : List (Nat × Nat)} {E : Nat → Nat → Om.Stp → Prop} {p : Nat × Nat} {l : Addr} {ss : List Om.Stp} (h : Vals2 G kvs ks E) (n : p ∉ ks) (hl : StL G l ss) (h64 : ss.length ≤ 64) (hs : ∀ s, s ∈ ss ↔ E p.1 p.2 s) :
  Vals2 G (putK kvs (kk p) (.ref l)) (ks ++ [p]) E := fun q hq => by
 rw [valV_put]
 rcases List.mem_append.mp hq with hq | hq
 ·have : kk q ≠ kk p := fun z => n (kk_inj z ▸ hq)
  rw [if_neg this]
  exact h q hq
 ·have : q = p := by simpa using hq
  subst this
  rw [if_pos rfl]
  exact ⟨l, ss, rfl, hl, h64, hs⟩
end L2
end
section
namespace Om
abbrev Rw := List Nat × List Bool × Nat
def ext (rows : Rows) (r : Rw) : List Rw := (List.range (rows.getD r.2.2 []).length).map fun l => (r.1 ++ [l], r.2.1 ++ (step rows r.2.2 l).1, (step rows r.2.2 l).2)
section
variable {k n : Nat} {rows : Rows}
theorem Pth.wlen (ok : CodeOk k n rows) {m : Nat} {t : List Nat} {w : List Bool} {p : Nat} (h : Pth rows m t w p) : w.length = m * n := by
 induction h with
 | nil => simp
 | snoc _ hi ih => rw [List.length_append, ih, (ok.stp hi).2.1, Nat.add_mul, Nat.one_mul]
end
end Om
namespace L2
open PySem PySem.Spec PyProof.Rows
end L2
end
section
namespace L2
open PySem PySem.Spec PyProof.Rows
section
variable {prog : Program} {w : World} {A : Around} {E : Value → Shared → Prop} {s : Shared}
theorem walksKeys (hh : A.handled = none) (I d : Addr) (hne : d ≠ I) {od : Obj} {es : Array DictEntry} {ep : Nat} (hdat : od.data = .dict es ep) :
  Walks prog w A I [I, d] [I] es.size (fun i v => ∃ e, es[i]? = some e ∧ v = e.key) (fun i h => h.IsKeyIter I d i es.size ep ∧ h.get? d = some od) where
 sub := fun b hb => by simp at hb; simp [hb]
 frame := fun _ _ _ st hk => ⟨st.1.at fun o e => hk I (by simp) o e, hk d (by simp) _ st.2⟩
 item := fun i s Q E hi st hQ => by
  have he : es[i]? = some es[i] := by simp [hi]
  refine keyNext st.1 st.2 hdat he fun h' hit' hs' => ?_
  exact hQ _ h' s.toks ⟨_, he, rfl⟩ ⟨hit', hs'.extBut d _ hne st.2⟩ fun b o hb e => hs'.extBut b o (fun h => hb (by simp [h])) e
 done := fun s Q E st hQ => keyEnd hh st.1 st.2 hdat (Nat.le_refl _) fun h' he' => hQ h' s.toks fun b o hb e => he' b o (fun h => hb (by simp [h])) e
 self := fun _ _ _ _ st hQ => wpAny_pyIter_keyiter st.1 hQ
theorem hint_dict {d : Addr} {Q : Bool → Shared → Prop} (hT : s.TypeIs (.ref d) "dict") (h : Q false s) : wpAny (model prog w) A (Builtin.List.listLengthHint (.ref d)) Q E s := by
 unfold Builtin.List.listLengthHint
 refine wpAny_bind (wpAny_specialOf hT F.slot_dict_len.lookup ?_)
 generalize hid : ("dict.__len__" : String) = id0
 wp_delta
 rw [show splitId id0 = some ("dict", "__len__") from by subst hid; decide +kernel]
 subst hid
 refine wpAny_bind (wpAny_isInstance (T := "dict") (b := true) hT (by rw [isSubtype_type]; kernel_rfl) ?_)
 refine wpAny_ite_split (fun hab => absurd hab (by decide)) (fun _ => ?_)
 refine wpAny_ite_split (fun _ => ?_) (fun hab => absurd (by decide +kernel) hab)
 refine wpAny_bind (wpAny_typeOf (T := "dict") hT ?_)
 exact wpAny_pure h
theorem extend_dict {R : Result → Shared → Prop} {d : Addr} {od : Obj} {es : Array DictEntry} {ep : Nat} (hh : A.handled = none) (hd : (d == sysModules) = false) (hT : s.TypeIs (.ref d) "dict") (ho : s.heap.get? d = some od) (hdat : od.data = .dict es ep) (hlen : es.size ≤ sizeLine) (S : Addr) (res : Value) (c₀ : Nat) (hS : s.heap.get? S = some { cls := .type "list", data := .seq #[] c₀ })
  (hR : ∀ h' tk acc' c', (∀ b o, b ≠ S → s.heap.get? b = some o → h'.get? b = some o) → h'.get? S = some { cls := .type "list", dict := none, data := .seq acc' c', slots := #[] } →
   ItemsOf (fun i v => ∃ e, es[i]? = some e ∧ v = e.key) acc' es.size → R (.ok (.ret res)) { s with heap := h', toks := tk }) :
  wpAny (model prog w) A.in1 (Builtin.List.listExtendWith (.ref S) (.ref d) res)
   (fun fin s' => match fin with | .done f => R (.ok f) s' | .again c' => c'.quiet = true ∧ codeAny (model prog w) A c' R s') (fun e s' => R (.error e) s') s := by
 have hSr : S ≠ d := fun e => by rw [e, ho] at hS; cases hS; cases hdat
 have hSlt : S < s.heap.objs.size := Heap.lt_size hS
 have hSI : S ≠ s.heap.objs.size := Nat.ne_of_lt hSlt
 have hdI : d ≠ s.heap.objs.size := Nat.ne_of_lt (Heap.lt_size ho)
 have hSf : S ∉ [s.heap.objs.size, d] := fun hm => by simp at hm; rcases hm with h | h; exact hSI h; exact hSr h
 have W := (walksKeys (prog := prog) (w := w) (A := A.in1) hh s.heap.objs.size d hdI hdat).toS
 unfold Builtin.List.listExtendWith
 refine wpAny_bind (wpAny_typeOf (T := "dict") hT ?_)
 have h1 : Builtin.List.listSameRef (.ref S) (.ref d) = false := by simp [Builtin.List.listSameRef, hSr]
 have h2 : (Value.type "dict" == Value.type "list") = false := by decide
 have h3 : (Value.type "dict" == Value.type "tuple") = false := by decide
 simp only [h1, h2, h3, Bool.or_false, Bool.false_eq_true, if_false]
 refine wpAny_bind (keyIter hd hT ho hdat ?_)
 have hT1 : (⟨s.heap.push { cls := .type "dict_keyiterator", data := .fields #[.ref d, .int 0 0, .int es.size 0, .int ep 0] }, s.gens, s.drawn, s.toks, s.os⟩ : Shared).TypeIs (.ref d) "dict" := by
  obtain ⟨o, e1, e2⟩ := hT
  exact ⟨o, Heap.get?_push_of_some _ e1, e2⟩
 refine wpAny_bind (wpAny_holding (hint_dict hT1 ?_))
 have hit₁ : (s.heap.push { cls := .type "dict_keyiterator", data := .fields #[.ref d, .int 0 0, .int es.size 0, .int ep 0] }).IsKeyIter s.heap.objs.size d 0 es.size ep := ⟨_, Heap.get?_push_size _ rfl, rfl, rfl⟩
 have hS₁ := Heap.get?_push_of_some { cls := .type "dict_keyiterator", data := .fields #[.ref d, .int 0 0, .int es.size 0, .int ep 0] } hS
 have hd₁ := Heap.get?_push_of_some { cls := .type "dict_keyiterator", data := .fields #[.ref d, .int 0 0, .int es.size 0, .int ep 0] } ho
 have key : ∀ (h : Heap) (c₁ tk : Nat), h.IsKeyIter s.heap.objs.size d 0 es.size ep → h.get? d = some od → (∀ b o, b ≠ S → s.heap.get? b = some o → h.get? b = some o) →
   h.get? S = some { cls := .type "list", data := .seq #[] c₁ } → codeAny (model prog w) A (.builtin "list.extend.loop" ⟨[.ref S, .ref s.heap.objs.size, res], []⟩) R { s with heap := h, toks := tk } := by
  intro h c₁ tk hit hdd hk hS₁
  refine codeAny_extend_loopS W hlen S hSf res es.size 0 _ #[] c₁ rfl (Nat.zero_le _) ⟨hit, hdd⟩ hS₁ (ItemsOf.nil _) fun s' acc' c' hm hS' hacc => ?_
  rw [Moved.eq_with hm]
  refine hR s'.heap s'.toks acc' c' (fun b o hb e => hm.heap b o (fun hmem => ?_) (hk b o hb e)) hS' hacc
  rcases List.mem_cons.mp hmem with e' | hmem
  ·exact hb e'
  ·exact absurd (Heap.lt_size e) (by rw [List.mem_singleton.mp hmem]; exact Nat.lt_irrefl _)
 refine wpAny_ite_split (fun _ => ?_) (fun _ => wpAny_pure ⟨plainId_quiet F.plain_extend_loop _, key _ c₀ _ hit₁ hd₁ (fun b o _ e => Heap.get?_push_of_some _ e) hS₁⟩)
 refine wpAny_bind (wpAny_rule ?_)
 refine wpAny_bind ?_
 show wpAny _ _ (updateSeq S (·.push .none) >>= fun _ => updateSeq S (·.pop)) _ _ _
 refine wpAny_bind (wpAny_updateSeq hS₁ rfl ?_)
 have hS₂ := Heap.get?_update_self (Obj.mapSeq (·.push Value.none)) hS₁ rfl
 refine wpAny_updateSeq (hz := by seq_fits) hS₂ rfl ?_
 have hS₃ := Heap.get?_update_self (Obj.mapSeq (·.pop)) hS₂ rfl
 refine wpAny_pure ⟨plainId_quiet F.plain_extend_loop _, key _ _ _ ?_ ?_ (fun b o hb e => ?_) hS₃⟩
 ·exact hit₁.at fun o e => (Heap.get?_update_other _ _ hSI).trans ((Heap.get?_update_other _ _ hSI).trans e)
 ·exact (Heap.get?_update_other _ _ hSr).trans ((Heap.get?_update_other _ _ hSr).trans hd₁)
 ·exact (Heap.get?_update_other _ _ (Ne.symm hb)).trans ((Heap.get?_update_other _ _ (Ne.symm hb)).trans (Heap.get?_push_of_some _ e))
theorem call_list_dict {Q : Value → Shared → Prop} {d : Addr} {od : Obj} {es : Array DictEntry} {ep : Nat} (hh : A.handled = none) (hd : (d == sysModules) = false) (hT : s.TypeIs (.ref d) "dict") (ho : s.heap.get? d = some od) (hdat : od.data = .dict es ep) (hlen : es.size ≤ sizeLine)
  (hQ : ∀ h' tk acc' c', (∀ b o, s.heap.get? b = some o → h'.get? b = some o) →
   h'.get? s.heap.objs.size = some { cls := .type "list", dict := none, data := .seq acc' c', slots := #[] } → ItemsOf (fun i v => ∃ e, es[i]? = some e ∧ v = e.key) acc' es.size → Q (.ref s.heap.objs.size) { s with heap := h', toks := tk }) :
  wpAny (model prog w) A (call (.type "list") [.ref d]) Q E s := by
 refine callType_codes (Q₁ := fun obj s₁ => obj = .ref s.heap.objs.size ∧ s₁ = { s with heap := s.heap.push { cls := .type "list", data := .seq #[] } }) F.called_list (F.typeCall_list_1 _) F.entry_list_init
  (code_list_new _ ⟨rfl, rfl⟩) fun obj s₁ h₁ => ?_
 obtain ⟨rfl, rfl⟩ := h₁
 have hS : (s.heap.push { cls := .type "list", data := .seq #[] }).get? s.heap.objs.size = some { cls := .type "list", data := .seq #[] } := Heap.get?_push_size _ rfl
 have hSr : s.heap.objs.size ≠ d := Nat.ne_of_gt (Heap.lt_size ho)
 refine ⟨⟨_, hS, rfl⟩, F.args_list_init_2 _ _, ?_⟩
 show wpAny _ _ (do let old ← Builtin.List.listItems (.ref s.heap.objs.size); Builtin.List.listUpdate (.ref s.heap.objs.size) (fun _ => #[]); letGo old.toList.reverse; Builtin.List.listExtendWith (.ref s.heap.objs.size) (.ref d) .none) _ _ _
 refine wpAny_bind ?_
 unfold Builtin.List.listItems
 refine wpAny_bind (wpAny_seqItems hS rfl (wpAny_pure ?_))
 show wpAny _ _ (updateSeq s.heap.objs.size (fun _ => #[]) >>= fun _ => letGo (#[] : Array Value).toList.reverse >>= fun _ => Builtin.List.listExtendWith (.ref s.heap.objs.size) (.ref d) .none) _ _ _
 refine wpAny_bind (wpAny_updateSeq hS rfl ?_)
 have hS₂ := Heap.get?_update_self (Obj.mapSeq (fun _ => (#[] : Array Value))) hS rfl
 have oth : ∀ b o, b ≠ s.heap.objs.size → (s.heap.push { cls := .type "list", data := .seq #[] }).get? b = some o → ((s.heap.push { cls := .type "list", data := .seq #[] }).update s.heap.objs.size (Obj.mapSeq (fun _ => (#[] : Array Value)))).get? b = some o :=
  fun b o hb e => (Heap.get?_update_other _ _ (Ne.symm hb)).trans e
 refine wpAny_bind (wpAny_letGo ?_)
 have ho2 := oth d _ (Ne.symm hSr) (Heap.get?_push_of_some _ ho)
 refine extend_dict (A := A.in1) hh hd ?_ ho2 hdat hlen _ .none _ hS₂ fun h' tk acc' c' hk hS' hacc => ?_
 ·obtain ⟨o, e1, e2⟩ := hT
  rw [ho] at e1; cases e1
  exact ⟨_, ho2, e2⟩
 ·exact ⟨rfl, hQ h' tk acc' c' (fun b o e => hk b o (Nat.ne_of_lt (Heap.lt_size e)) (oth b o (Nat.ne_of_lt (Heap.lt_size e)) (Heap.get?_push_of_some _ e))) hS' hacc⟩
end
end L2
end
section
namespace L2
open PySem PySem.Spec PyProof.Rows
section
variable {X : Cx} {p pos : Pos}
theorem items_keys {es : Array DictEntry} {acc : Array Value} {xs : List V} (h : ItemsOf (fun i v => ∃ e, es[i]? = some e ∧ v = e.key) acc es.size) (r : Vals xs (es.toList.map (·.key))) : Vals xs acc.toList := by
 have : acc.toList = es.toList.map (·.key) := by
  apply List.ext_getElem?
  intro i
  rw [List.getElem?_map]
  by_cases hi : i < es.size
  ·have hi' : i < acc.size := by rw [h.1]; exact hi
   obtain ⟨e, e1, e2⟩ := h.2 i acc[i] (by simp [hi'])
   have e3 : es.toList[i]? = some e := by simpa using e1
   rw [e3]
   simp [hi', e2]
  ·have : ¬ i < acc.size := by rw [h.1]; exact hi
   simp [Nat.le_of_not_lt hi, Nat.le_of_not_lt this]
 rw [this]; exact r
def rListD : List V → Hp → VK → Prop := fun vs H Q => match vs with
 | [.ref p] => (∃ kvs, H p = some (.dT kvs) ∧ ∀ o bs l, KeysAt H kvs bs → H l = none → Q (.ref l) (upd (upd H p (.frz o (.dT kvs))) l (.lst (bs.map V.ref)))) ∨
   (∃ o kvs, H p = some (.frz o (.dT kvs)) ∧ ∀ bs l, KeysAt H kvs bs → H l = none → Q (.ref l) (upd H l (.lst (bs.map V.ref)))) ∨
   (∃ o kvs, H p = some (.frz o (.dK kvs)) ∧ ∀ l, H l = none → Q (.ref l) (upd H l (.lst (kvs.map fun p => kV p.1)))) ∨ rListR vs H Q
 | _ => False
theorem call_listD (hc : X.calm = true) : CallR X (.type "list") rListD := by
 have hT2 : ∀ (pins : List (Addr × Obj)) (s : Shared) (σ : St) (H : Hp) (a : Addr) (Q : VK) (o : Obj) (kvs : List (List Key × V)), Inv X pins σ H s → H a = some (.frz o (.dT kvs)) →
   (∀ bs l, KeysAt H kvs bs → H l = none → Q (.ref l) (upd H l (.lst (bs.map V.ref)))) → wpAny (model X.prog X.w) X.A (call (.type "list") [.ref a]) (EP X pins σ Q) X.xe s := by
  intro pins s σ H a Q o kvs I hq q
  have ho := I.frozen hq
  obtain ⟨_, z, hd, xs, r, o', es, ep, h1, h2, h3, h4, h5⟩ := I.hok a _ hq
  rw [ho] at h1; cases h1
  have hT : s.TypeIs (.ref a) "dict" := let ⟨_, _, _, _, dd⟩ := dt_rd I.hok (.inr ⟨o, hq⟩); dd.typeIs
  have rel : Vals ((xs.map (·.2.1)).map V.ref) (es.toList.map (·.key)) := by
   rw [h4]
   clear h4 h5 r
   induction xs with
   | nil => exact .nil
   | cons x xs ih => exact .cons rfl ih
  have le : es.size ≤ sizeLine := by
   have e1 := congrArg List.length h4
   have e2 := Paired.length r
   simp at e1
   omega
  refine call_list_dict (I.ok.hd hc) hd hT ho h3 le fun h' tk acc' c' kp e' it => ?_
  have hl : ((xs.map (·.2.1)).map V.ref).length ≤ sizeLine := by
   have := rel.length
   simp at this ⊢
   omega
  exact ⟨.ref s.heap.objs.size, _, I.laid (t' := tk) kp (Nat.le_refl _) (show ObjOk X.prog X.w _ h' _ (.lst _) from ⟨hl, acc'.toList, c', items_keys it rel, by simpa using e'⟩), rfl, q _ _ (keys_tup r) (I.hok.fresh (Nat.le_refl _))⟩
 intro pins s σ H xs us Q I r h
 unfold rListD at h
 split at h
 ·rename_i a
  have r' := r
  obtain ⟨u, rfl, rx⟩ := vals1 r
  cases rx
  rcases h with ⟨kvs, hq, q⟩ | ⟨o, kvs, hq, q⟩ | ⟨o, kvs, hq, q⟩ | h
  ·obtain ⟨o, ho⟩ := I.obj hq
   refine hT2 pins s σ _ a Q o kvs (I.freeze hq trivial ho) upd_same fun bs l kb hl => ?_
   have hla : l ≠ a := fun z => by subst z; rw [upd_same] at hl; cases hl
   rw [upd_ne hla] at hl
   refine q o bs l ?_ hl
   refine Paired.mapP kb fun x b e => ?_
   have : b ≠ a := fun z => by subst z; rw [upd_same] at e; cases e
   rw [upd_ne this] at e; exact e
  ·exact hT2 pins s σ H a Q o kvs I hq q
  ·have ho := I.frozen hq
   obtain ⟨_, z, hd, vs, r, o', es, ep, h1, h2, h3, h4, h5, h6⟩ := I.hok a _ hq
   rw [ho] at h1; cases h1
   have hT : s.TypeIs (.ref a) "dict" := let ⟨_, _, _, _, dd⟩ := dk_rd I.hok (.inr ⟨o, hq⟩); dd.typeIs
   have rel := keys_mix r h5
   have le : es.size ≤ sizeLine := by
    have e1 := rel.length
    simp at e1
    omega
   refine call_list_dict (I.ok.hd hc) hd hT ho h3 le fun h' tk acc' c' kp e' it => ?_
   have hl : (kvs.map fun p => kV p.1).length ≤ sizeLine := by
    have := rel.length
    simp at this ⊢
    omega
   exact ⟨.ref s.heap.objs.size, _, I.laid (t' := tk) kp (Nat.le_refl _) (show ObjOk X.prog X.w _ h' _ (.lst _) from ⟨hl, acc'.toList, c', items_keys it rel, by simpa using e'⟩), rfl, q _ (I.hok.fresh (Nat.le_refl _))⟩
  ·exact call_listR hc pins s σ H _ _ Q I r' h
 ·exact h.elim
theorem fn_listD {e : Expr} {es : List Expr} {t : TA} {mg' : Str → Option Value} (hm : mg' "list" = none) (hX : X.mg = mg') (ha : PA X (e :: es) t) (hc : X.calm = true := by kernel_rfl) (hg : gB X "list" = true := by kernel_rfl) (he : starEach (e :: es) X.env = (false, eval e X.env) :: starEach es X.env := by kernel_rfl) (hpl : (backTo pos (starEach es X.env)).any (·.1) = false := by kernel_rfl) :
  PE X (.Call (.Name "list" p) (e :: es) [] pos) (tCB rListD t) := pe_callTy (call_listD hc) (gl_of hg) (by rw [hX]; exact hm) PyProof.Rows.boot_list ha (he := he) (hpl := hpl)
def iLstF (K : PySem.W.Frag) (tl : TE) : TI := fun σ H R => tl σ H fun x H1 => match x with
 | .ref a => (∃ kvs, H1 a = some (.dT kvs) ∧ ∀ o bs, KeysAt H1 kvs bs → R (Itk a o (bs.map V.ref)) (upd H1 a (.frz o (.dT kvs)))) ∨ iLstD K (fun _ H Q => Q (.ref a) H) σ H1 R
 | _ => False
end
section
variable {prog : Program} {w : World} {A : Around} {E : Value → Shared → Prop} {s : Shared}
theorem entries_tup {id : String} {d : Addr} {o : Obj} {es : Array DictEntry} {ep : Nat} {Q : Array DictEntry → Shared → Prop} (ho : s.heap.get? d = some o) (hd : o.data = .dict es ep)
  (ht : ∀ e ∈ es.toList, ∃ b, e.key = .ref b ∧ s.TypeIs (.ref b) "tuple" ∧ ¬ (es.filter (·.hash == e.hash)).size > 1) (h : Q es s) : wpAny (model prog w) A (Builtin.Dict.entriesForEmpty id d) Q E s := by
 unfold Builtin.Dict.entriesForEmpty
 refine wpAny_bind (wpAny_dictEntries ho hd ?_)
 refine wpAny_bind ?_
 rw [← Array.forIn_toList]
 have key : ∀ (l : List DictEntry), (∀ e ∈ l, e ∈ es.toList) → ∀ Q' : PUnit → Shared → Prop, Q' ⟨⟩ s → wpAny (model prog w) A (forIn l PUnit.unit fun e (_ : PUnit) => (do
   let q ← Builtin.Dict.quietEq e.key
   if (!q) = true then
    if (es.filter (·.hash == e.hash)).size > 1 then (do let _ ← (unsupported s!"{id}:keys-of-equal-hash" : Sem PUnit); pure (ForInStep.yield PUnit.unit)) else pure (ForInStep.yield PUnit.unit)
   else pure (ForInStep.yield PUnit.unit) : Sem (ForInStep PUnit))) Q' E s := by
  intro l
  induction l with
  | nil => intro _ Q' q; exact wpAny_pure q
  | cons e l ih =>
   intro hs Q' q
   obtain ⟨b, e1, e2, e3⟩ := ht e (hs e List.mem_cons_self)
   rw [List.forIn_cons]
   refine wpAny_bind ?_
   rw [e1]
   unfold Builtin.Dict.quietEq
   refine wpAny_bind (wpAny_bind (wpAny_specialOf e2 F.slot_tuple_eq.lookup (wpAny_pure ?_)))
   have fin : wpAny (model prog w) A (pure (ForInStep.yield PUnit.unit) : Sem (ForInStep PUnit)) (fun x s' => wpAny (model prog w) A (match x with | .done b => pure b | .yield b => forIn l b fun e (_ : PUnit) => (do
    let q ← Builtin.Dict.quietEq e.key
    if (!q) = true then
     if (es.filter (·.hash == e.hash)).size > 1 then (do let _ ← (unsupported s!"{id}:keys-of-equal-hash" : Sem PUnit); pure (ForInStep.yield PUnit.unit)) else pure (ForInStep.yield PUnit.unit)
    else pure (ForInStep.yield PUnit.unit) : Sem (ForInStep PUnit))) Q' E s') E s := wpAny_pure (ih (fun x hx => hs x (List.mem_cons_of_mem _ hx)) Q' q)
   refine wpAny_ite_split (fun _ => ?_) (fun _ => fin)
   rw [if_neg e3]
   exact fin
 exact key es.toList (fun _ h => h) _ (wpAny_pure h)
theorem call_dict_tup {o : Addr} {oo : Obj} {es : Array DictEntry} {ep : Nat} {Q : Value → Shared → Prop} (hoS : (o == sysModules) = false) (ho : s.heap.get? o = some oo) (hx : oo.ExactDict) (hd : oo.data = .dict es ep) (hsz : es.size ≤ sizeLine) (h0 : 0 < es.size)
  (ht : ∀ e ∈ es.toList, ∃ b, e.key = .ref b ∧ s.TypeIs (.ref b) "tuple" ∧ ¬ (es.filter (·.hash == e.hash)).size > 1)
  (h : ∀ h' o', (∀ b u, s.heap.get? b = some u → h'.get? b = some u) → h'.get? s.heap.objs.size = some o' → o'.ExactDict → o'.data = .dict es 1 → Q (.ref s.heap.objs.size) { s with heap := h' }) :
  wpAny (model prog w) A (call (.type "dict") [.ref o]) Q E s := by
 have hT : s.TypeIs (.ref o) "dict" := ⟨oo, ho, hx.1⟩
 refine callType_codes (Q₁ := fun obj s₁ => obj = .ref s.heap.objs.size ∧ s₁ = { s with heap := s.heap.push { cls := .type "dict", data := .dict #[] } }) F.kt_called_dict (F.kt_typeCall_dict_1 _) F.entry_dict_init (kt_code_dict_new _ ⟨rfl, rfl⟩) ?_
 rintro obj s₁ ⟨rfl, rfl⟩
 have hnew : (s.heap.push { cls := .type "dict", data := .dict #[] }).get? s.heap.objs.size = some { cls := .type "dict", data := .dict #[] } := Heap.get?_push_size _ rfl
 have ho' := Heap.get?_push_of_some { cls := .type "dict", data := .dict #[] } ho
 have hTn : (⟨s.heap.push { cls := .type "dict", data := .dict #[] }, s.gens, s.drawn, s.toks, s.os⟩ : Shared).TypeIs (.ref s.heap.objs.size) "dict" := ⟨_, hnew, rfl⟩
 have hT' : (⟨s.heap.push { cls := .type "dict", data := .dict #[] }, s.gens, s.drawn, s.toks, s.os⟩ : Shared).TypeIs (.ref o) "dict" := ⟨_, ho', hx.1⟩
 have hdo : s.heap.objs.size ≠ o := Nat.ne_of_gt (Heap.lt_size ho)
 refine ⟨hTn, F.args_dict_init_2 _ _, ?_⟩
 unfold Builtin.«dict.__init__»
 refine wpAny_bind ?_
 unfold Builtin.Dict.selfAndRest
 refine wpAny_bind (wpAny_notOrdered_dict hTn ?_)
 show wpAny _ _ (pure (s.heap.objs.size, [Value.ref o])) _ _ _
 refine wpAny_pure ?_
 show wpAny _ _ (Builtin.Dict.updateFrom "dict.__init__" s.heap.objs.size (.ref o) [] .none) _ _ _
 unfold Builtin.Dict.updateFrom
 refine wpAny_bind (wpAny_typeOf hT' ?_)
 rw [if_neg (by decide)]
 refine wpAny_bind ?_
 unfold Builtin.Dict.merge
 refine wpAny_bind ?_
 unfold Builtin.Dict.readDirectly
 refine wpAny_bind (wpAny_isInstance hT' isSubtype_dict_dict ?_)
 simp only [Bool.not_true, Bool.false_eq_true, if_false]
 refine wpAny_bind (wpAny_specialOf hT' F.slot_dict_iter.lookup (wpAny_pure ?_))
 simp only [beq_self_eq_true, if_true]
 refine wpAny_bind (wpAny_pure ?_)
 unfold Builtin.Dict.mergeDict
 rw [if_neg (by simpa using hdo)]
 refine wpAny_bind ?_
 unfold Builtin.Dict.showsAll
 rw [if_neg (by rw [hoS]; exact Bool.false_ne_true)]
 refine wpAny_pure ?_
 refine wpAny_bind (wpAny_dictEntries ho' hd ?_)
 have few : (decide (es.size ≤ 8) && es.all fun e => (keyPart e.key).isSome) = false := by
  obtain ⟨b, e1, _⟩ := ht es[0] (by simp)
  rw [Bool.and_eq_false_iff]
  right
  rw [Bool.eq_false_iff]
  intro hall
  rw [Array.all_eq_true] at hall
  have := hall 0 h0
  rw [e1] at this
  cases this
 dsimp only
 rw [few]
 simp only [Bool.not_false, if_true]
 refine wpAny_bind (wpAny_dictEntries hnew rfl ?_)
 rw [if_pos (by rfl)]
 have hlift : ∀ e ∈ es.toList, ∃ b, e.key = .ref b ∧ (⟨s.heap.push { cls := .type "dict", data := .dict #[] }, s.gens, s.drawn, s.toks, s.os⟩ : Shared).TypeIs (.ref b) "tuple" ∧ ¬ (es.filter (·.hash == e.hash)).size > 1 := fun e he => by
  obtain ⟨b, e1, ⟨ob, e2, e3⟩, e4⟩ := ht e he
  exact ⟨b, e1, ⟨ob, Heap.get?_push_of_some _ e2, e3⟩, e4⟩
 refine wpAny_bind (entries_tup ho' hd hlift ?_)
 have hne : (!es.isEmpty) = true := by
  simp only [Bool.not_eq_true', Array.isEmpty, decide_eq_false_iff_not]
  omega
 rw [if_pos hne]
 refine wpAny_bind (wpAny_updateDictKeysTo hnew rfl (wpAny_pure ?_) (Nat.le_succ_of_le hsz))
 show wpAny _ _ (Builtin.Dict.addKeywords s.heap.objs.size [] >>= _) _ _ _
 refine wpAny_bind (wpAny_pure (wpAny_pure ⟨rfl, h _ _ ?_ (Heap.get?_update_self _ hnew (Obj.isFreed_of_dict (Obj.data_mapDictKeys rfl _))) (Obj.ExactDict.mapDictKeys (o := { cls := .type "dict", data := .dict #[] }) ⟨rfl, rfl, rfl⟩ _) (Obj.data_mapDictKeys rfl _)⟩))
 intro b u e
 exact (Heap.get?_update_other _ _ (Nat.ne_of_gt (Heap.lt_size e))).trans (Heap.get?_push_of_some _ e)
end
end L2
end
section
namespace L2
open PySem PySem.Spec PyProof.Rows
def pairHash (p : Nat × Nat) : Int := reduceHash (Builtin.Tuple.tupleHashOf [hashInt (p.1 : Int), hashInt (p.2 : Int)])
theorem hash_nd : (all64.map pairHash).Nodup := by decide +kernel
theorem nodup_inj {α β : Type} {f : α → β} : ∀ {l : List α}, (l.map f).Nodup → ∀ {a b : α}, a ∈ l → b ∈ l → f a = f b → a = b
 | [], _, _, _, h, _, _ => nomatch h
 | x :: l, nd, a, b, ha, hb, e => by
  rw [List.map_cons, List.nodup_cons] at nd
  rcases List.mem_cons.mp ha with h1 | h1 <;> rcases List.mem_cons.mp hb with h2 | h2
  ·rw [h1, h2]
  ·exact absurd (List.mem_map.mpr ⟨b, h2, by rw [← e, h1]⟩) nd.1
  ·exact absurd (List.mem_map.mpr ⟨a, h1, by rw [e, h2]⟩) nd.1
  ·exact nodup_inj nd.2 h1 h2 e
theorem mem_all64 {p : Nat × Nat} (h1 : p.1 < 8) (h2 : p.2 < 8) : p ∈ all64 := by
 unfold all64
 rw [List.mem_flatMap]
 exact ⟨p.1, List.mem_range.mpr h1, List.mem_map.mpr ⟨p.2, List.mem_range.mpr h2, rfl⟩⟩
theorem pairHash_inj {p q : Nat × Nat} (hp : p.1 < 8 ∧ p.2 < 8) (hq : q.1 < 8 ∧ q.2 < 8) (e : pairHash p = pairHash q) : p = q := nodup_inj hash_nd (mem_all64 hp.1 hp.2) (mem_all64 hq.1 hq.2) e
theorem filter_one {α : Type} {f : α → Int} {h : Int} : ∀ {l : List α}, (l.map f).Nodup → (l.filter fun x => f x == h).length ≤ 1
 | [], _ => by simp
 | x :: l, nd => by
  rw [List.map_cons, List.nodup_cons] at nd
  have ih := filter_one (f := f) (h := h) nd.2
  by_cases e : f x = h
  ·have : (l.filter fun y => f y == h) = [] := by
    rw [List.filter_eq_nil_iff]
    intro y hy hh
    have : f y = h := by simpa using hh
    exact nd.1 (List.mem_map.mpr ⟨y, hy, by rw [this, e]⟩)
   rw [List.filter_cons, this]
   split <;> simp
  ·rw [List.filter_cons, if_neg (by simpa using e)]
   exact ih
theorem nodup_map_of {α β : Type} {f : α → β} : ∀ {l : List α}, (∀ a ∈ l, ∀ b ∈ l, f a = f b → a = b) → l.Nodup → (l.map f).Nodup
 | [], _, _ => List.nodup_nil
 | x :: l, h, nd => by
  rw [List.nodup_cons] at nd
  rw [List.map_cons, List.nodup_cons]
  refine ⟨fun z => ?_, nodup_map_of (fun a ha b hb => h a (List.mem_cons_of_mem _ ha) b (List.mem_cons_of_mem _ hb)) nd.2⟩
  obtain ⟨y, hy, e⟩ := List.mem_map.mp z
  exact nd.1 (h y (List.mem_cons_of_mem _ hy) x List.mem_cons_self e ▸ hy)
theorem kt_keys {H : Hp} : ∀ {kvs : List (List Key × V)} {xs : List (List Key × Addr × Value)}, KT H kvs xs → xs.map (·.1) = kvs.map (·.1)
 | _, _, .nil => rfl
 | _, _, .cons h t => by rw [List.map_cons, List.map_cons, kt_keys t, h.1]
theorem kt_types {P : Program} {w : World} {H : Hp} {s : Shared} (ok : HOk P w H s.heap) : ∀ {kvs : List (List Key × V)} {xs : List (List Key × Addr × Value)}, KT H kvs xs → ∀ x ∈ xs, s.TypeIs (.ref x.2.1) "tuple"
 | _, _, .nil => fun x hx => nomatch hx
 | _, _, .cons h t => fun x hx => by
  rcases List.mem_cons.mp hx with e | hx
  ·subst e
   have k : IsTupleKey (mixKind P w) s.heap _ _ := key_of ok h.2.1
   exact k.typeIs
  ·exact kt_types ok t x hx
section
variable {X : Cx} {p pos : Pos}
theorem pi_lstF {tg l : Expr} {tl : TE} (hl : PE X l tl) : PI X tg l (iLstF X.K tl) := by
 intro pins s σ H R I h
 refine thn (hl pins s σ H _ I h) fun v s1 ⟨x, H1, I1, r1, q1⟩ => ?_
 dsimp only at q1
 split at q1
 ·rename_i a
  cases r1
  rcases q1 with ⟨kvs, hq, q⟩ | q
  ·obtain ⟨o, ho⟩ := I1.obj hq
   have J := I1.freeze hq trivial ho
   have hq' : upd H1 a (.frz o (.dT kvs)) a = some (.frz o (.dT kvs)) := upd_same
   obtain ⟨_, z, hd, xs, r, o', es, ep, h1, h2, h3, h4, h5⟩ := J.hok a _ hq'
   rw [ho] at h1; cases h1
   have hT : s1.TypeIs (.ref a) "dict" := let ⟨_, _, _, _, dd⟩ := dt_rd J.hok (.inr ⟨o, hq'⟩); dd.typeIs
   have rel : Vals ((xs.map (·.2.1)).map V.ref) (es.toList.map (·.key)) := by
    rw [h4]
    clear h4 h5 r
    induction xs with
    | nil => exact .nil
    | cons x xs ih => exact .cons rfl ih
   refine keyIter hd hT ho h3 ?_
   refine ⟨s1.heap.objs.size, [s1.heap.objs.size], _, _, _, rfl, J.kept (t' := s1.toks) fun b o e => Heap.get?_push_of_some _ e, turn_keys h3 rel, ⟨_, Heap.get?_push_size _ rfl, rfl, rfl⟩, fun b hb => ?_, q o _ ?_⟩
   ·have e : b = s1.heap.objs.size := by simpa using hb
    subst e
    exact J.fpOk (Nat.le_refl _) (J.hok.fresh (Nat.le_refl _))
   ·refine Paired.mapP (keys_tup r) fun x b e => ?_
    have : b ≠ a := fun z => by subst z; rw [upd_same] at e; cases e
    rw [upd_ne this] at e; exact e
  ·obtain ⟨⟨xs, hq⟩, q⟩ | ⟨o, kvs, hq, q⟩ | ⟨o, kvs, hq, q⟩ := q
   ·obtain ⟨its, rv, p, hz⟩ := I1.list hq
    refine wpAny_pyIter_list p.isList ?_
    refine ⟨s1.heap.objs.size, [s1.heap.objs.size], _, _, H1, rfl, I1.kept (t' := s1.toks) fun b o e => Heap.get?_push_of_some _ e, turn_list a _, ⟨_, Heap.get?_push_size _ rfl, rfl, rfl⟩, fun b hb => ?_, q⟩
    have e : b = s1.heap.objs.size := by simpa using hb
    subst e
    exact I1.fpOk (Nat.le_refl _) (I1.hok.fresh (Nat.le_refl _))
   ·have ho := I1.frozen hq
    obtain ⟨_, z, hd, xs, r, o', es, ep, h1, h2, h3, h4, h5⟩ := I1.hok a _ hq
    rw [ho] at h1; cases h1
    have hT : s1.TypeIs (.ref a) "dict" := let ⟨_, _, _, _, dd⟩ := dt_rd I1.hok (.inr ⟨o, hq⟩); dd.typeIs
    have rel : Vals ((xs.map (·.2.1)).map V.ref) (es.toList.map (·.key)) := by
     rw [h4]
     clear h4 h5 r
     induction xs with
     | nil => exact .nil
     | cons x xs ih => exact .cons rfl ih
    refine keyIter hd hT ho h3 ?_
    refine ⟨s1.heap.objs.size, [s1.heap.objs.size], _, _, H1, rfl, I1.kept (t' := s1.toks) fun b o e => Heap.get?_push_of_some _ e, turn_keys h3 rel, ⟨_, Heap.get?_push_size _ rfl, rfl, rfl⟩, fun b hb => ?_, q _ (keys_tup r)⟩
    have e : b = s1.heap.objs.size := by simpa using hb
    subst e
    exact I1.fpOk (Nat.le_refl _) (I1.hok.fresh (Nat.le_refl _))
   ·have ho := I1.frozen hq
    obtain ⟨_, z, hd, vs, r, o', es, ep, h1, h2, h3, h4, h5, h6⟩ := I1.hok a _ hq
    rw [ho] at h1; cases h1
    have hT : s1.TypeIs (.ref a) "dict" := let ⟨_, _, _, _, dd⟩ := dk_rd I1.hok (.inr ⟨o, hq⟩); dd.typeIs
    refine keyIter hd hT ho h3 ?_
    refine ⟨s1.heap.objs.size, [s1.heap.objs.size], _, _, H1, rfl, I1.kept (t' := s1.toks) fun b o e => Heap.get?_push_of_some _ e, turn_keys h3 (keys_mix r h5), ⟨_, Heap.get?_push_size _ rfl, rfl, rfl⟩, fun b hb => ?_, q⟩
    have e : b = s1.heap.objs.size := by simpa using hb
    subst e
    exact I1.fpOk (Nat.le_refl _) (I1.hok.fresh (Nat.le_refl _))
 ·exact q1.elim
def rDictO : List V → Hp → VK → Prop := fun vs H Q => match vs with
 | [.ref p] => ∃ (kvs : List (List Key × V)) (ks : List (Nat × Nat)), Rd H p (.dT kvs) ∧ KD ks kvs ∧ ks ≠ [] ∧ ∀ l, H l = none → Q (.ref l) (upd H l (.dT kvs))
 | _ => False
theorem call_dictO : CallR X (.type "dict") rDictO := by
 intro pins s σ H xs us Q I r h
 unfold rDictO at h
 split at h
 ·rename_i a
  obtain ⟨kvs, ks, hq, kd, ne, q⟩ := h
  obtain ⟨u, rfl, rx⟩ := vals1 r
  cases rx
  obtain ⟨z, hd, xs, r, o, es, ep, h1, h2, h3, h4, h5⟩ := (show ObjOk X.prog X.w H s.heap a (.dT kvs) from rd_of I.hok hq)
  have kx : xs.map (·.1) = ks.map kk := by
   rw [← kd.keys]
   exact kt_keys r
  have xl : xs.length = ks.length := by have := congrArg List.length kx; simpa using this
  have esl : es.size = ks.length := by have := congrArg List.length h4; simp at this; omega
  have ty : ∀ x ∈ xs, s.TypeIs (.ref x.2.1) "tuple" := by
   exact kt_types I.hok r
  have hnd : (es.toList.map (·.hash)).Nodup := by
   have e : es.toList.map (·.hash) = ks.map pairHash := by
    rw [h4, List.map_map, show ks.map pairHash = (ks.map kk).map (tupleKeyHash (mixKind X.prog X.w)) by rw [List.map_map]; rfl, ← kx, List.map_map]
    rfl
   rw [e]
   exact nodup_map_of (fun a ha b hb => pairHash_inj (kd.lt a ha) (kd.lt b hb)) kd.nd
  refine call_dict_tup hd h1 h2 h3 (by rw [esl]; have := kd.le; rw [sizeLine_eq]; omega) (by rw [esl]; exact List.length_pos_iff.mpr ne) (fun e he => ?_) fun h' o' kp e1 e2 e3 => ?_
  ·rw [h4] at he
   obtain ⟨x, hx, rfl⟩ := List.mem_map.mp he
   refine ⟨x.2.1, rfl, ty x hx, ?_⟩
   have := filter_one (f := DictEntry.hash) (h := (entryOfKey (tupleKind (mixKind X.prog X.w)) x).hash) hnd
   have e : (es.filter fun e => e.hash == (entryOfKey (tupleKind (mixKind X.prog X.w)) x).hash).size = (es.toList.filter fun e => e.hash == (entryOfKey (tupleKind (mixKind X.prog X.w)) x).hash).length := by
    rw [← Array.toList_filter, Array.length_toList]
   omega
  ·refine ⟨.ref s.heap.objs.size, _, I.laid (t' := s.toks) kp (Nat.le_refl _) (show ObjOk X.prog X.w _ h' _ (.dT kvs) from ⟨z, ?_, xs, ?_, o', es, 1, e1, e2, e3, h4, h5⟩), rfl, q _ (I.hok.fresh (Nat.le_refl _))⟩
   ·obtain ⟨_, e, _⟩ := dt_empty (P := X.prog) (w := X.w) (H := H) s.heap I.big
    exact e
   ·refine Paired.mapP r fun p q h => ⟨h.1, ?_, h.2.2⟩
    rw [upd_ne (ne_of_none h.2.1 (I.hok.fresh (Nat.le_refl _)))]
    exact h.2.1
 ·exact h.elim
theorem fn_dictO {e : Expr} {es : List Expr} {t : TA} {mg' : Str → Option Value} (hm : mg' "dict" = none) (hX : X.mg = mg') (ha : PA X (e :: es) t) (hg : gB X "dict" = true := by kernel_rfl) (he : starEach (e :: es) X.env = (false, eval e X.env) :: starEach es X.env := by kernel_rfl) (hpl : (backTo pos (starEach es X.env)).any (·.1) = false := by kernel_rfl) :
  PE X (.Call (.Name "dict" p) (e :: es) [] pos) (tCB rDictO t) := pe_callTy call_dictO (gl_of hg) (by rw [hX]; exact hm) PyProof.Rows.boot_dict ha (he := he) (hpl := hpl)
def rInT (neg : Bool) : R2 := fun x y H Q => ∃ (a p : Addr) (k : List Key) (xs : List V), x = .ref a ∧ y = .ref p ∧ H a = some (.tup (k.map kV)) ∧ H p = some (.lst xs) ∧ (∀ v ∈ xs, ∃ (c : Addr) (k' : List Key), v = .ref c ∧ H c = some (.tup (k'.map kV))) ∧
 ∀ r : Bool, (r = true ↔ ∃ c, V.ref c ∈ xs ∧ H c = some (.tup (k.map kV))) → Q (.bl (if neg then !r else r)) H
open Classical in
noncomputable def eqT (H : Hp) (k : List Key) (u : Value) : Bool := match u with
 | .ref c => decide (H c = some (.tup (k.map kV)))
 | _ => false
theorem key_any {P P' : Program} {w w' : World} {H : Hp} {h : Heap} {a : Addr} {ks : List Key} (ok : HOk P w H h) (e : H a = some (.tup (ks.map kV))) : IsTupleKey (mixKind P' w') h ks a := by
 obtain ⟨_, its, r, o, h1, h2, n, h3⟩ := (show ObjOk P w H h a (.tup (ks.map kV)) from ok a _ e)
 exact ⟨o, its.toArray, n, h1, h2, h3, by simpa using items_are r⟩
theorem mem_eqT {A : Around} {s : Shared} {P : Program} {w : World} {H : Hp} {a : Addr} {k : List Key} (hu : A.units < cLine) (ok : HOk P w H s.heap) (ha : H a = some (.tup (k.map kV))) :
  ∀ {xs : List V} {us : List Value}, Vals xs us → (∀ v ∈ xs, ∃ (c : Addr) (k' : List Key), v = .ref c ∧ H c = some (.tup (k'.map kV))) → ∀ u ∈ us, SeqAt.EqAt A s u (.ref a) (eqT H k u)
 | _, _, .nil, _ => fun u hu => by cases hu
 | y :: xs, u :: us, .cons r t, f => fun u' hu' => by
  rcases List.mem_cons.mp hu' with e | hu'
  ·subst e
   obtain ⟨c, k', rfl, hc⟩ := f y List.mem_cons_self
   cases r
   intro prog' w' E Q q
   have k1 : IsTupleKey (mixKind prog' w') s.heap k' c := key_any ok hc
   have k2 : IsTupleKey (mixKind prog' w') s.heap k a := key_any ok ha
   refine wpAny_eqBool_tuple hu k1 k2 ?_
   have : decide (k' = k) = eqT H k (.ref c) := by
    unfold eqT
    dsimp only
    rw [hc]
    apply decide_eq_decide.mpr
    constructor
    ·intro e; rw [e]
    ·intro e
     have e1 := Option.some.inj e
     injection e1 with e2
     exact kVs_inj e2
   rw [this]; exact q
  ·exact mem_eqT hu ok ha t (fun v hv => f v (List.mem_cons_of_mem _ hv)) u' hu'
open Classical in
theorem any_eqT {H : Hp} {k : List Key} : ∀ {xs : List V} {us : List Value}, Vals xs us → (∀ v ∈ xs, ∃ (c : Addr) (k' : List Key), v = .ref c ∧ H c = some (.tup (k'.map kV))) → (us.any (eqT H k) = true ↔ ∃ c, V.ref c ∈ xs ∧ H c = some (.tup (k.map kV)))
 | _, _, .nil, _ => by simp
 | y :: xs, u :: us, .cons r t, f => by
  obtain ⟨c, k', rfl, hc⟩ := f y List.mem_cons_self
  cases r
  rw [List.any_cons, Bool.or_eq_true, any_eqT t (fun v hv => f v (List.mem_cons_of_mem _ hv))]
  have e0 : eqT H k (.ref c) = true ↔ H c = some (.tup (k.map kV)) := by unfold eqT; dsimp only; exact (by classical exact decide_eq_true_iff)
  rw [e0]
  constructor
  ·rintro (h | ⟨d, h1, h2⟩)
   ·exact ⟨c, List.mem_cons_self, h⟩
   ·exact ⟨d, List.mem_cons_of_mem _ h1, h2⟩
  ·rintro ⟨d, h1, h2⟩
   rcases List.mem_cons.mp h1 with e | h1
   ·injection e with e; subst e; exact .inl h2
   ·exact .inr ⟨d, h1, h2⟩
end
end L2
end
section
namespace Om
def Win (rows : Rows) (b a : Nat) : Prop := ∀ x y, ¬ Clash rows b (b + 1 + a) x y
def Go (E : Nat → Nat → Stp → Prop) : Nat → R2n
 | 0 => fun _ _ => True
 | m + 1 => fun x y => ∃ s, E x y s ∧ Go E m s.2.1 s.2.2
def On (rows : Rows) : Nat → R2n
 | 0 => AllR rows
 | m + 1 => fun x y => On rows m x y ∧ ∃ s, St rows x y s ∧ On rows m s.2.1 s.2.2
theorem Go.less {E : Nat → Nat → Stp → Prop} : ∀ (m : Nat) (x y : Nat), Go E (m + 1) x y → Go E m x y
 | 0, _, _, _ => trivial
 | m + 1, x, y, ⟨s, h1, h2⟩ => ⟨s, h1, Go.less m _ _ h2⟩
theorem on_iff {k n : Nat} {rows : Rows} (ok : CodeOk k n rows) : ∀ (m x y : Nat), On rows m x y ↔ AllR rows x y ∧ Go (St rows) m x y
 | 0, x, y => ⟨fun h => ⟨h, trivial⟩, fun h => h.1⟩
 | m + 1, x, y => by
  constructor
  ·rintro ⟨h1, s, h2, h3⟩
   exact ⟨((on_iff ok m x y).mp h1).1, s, h2, ((on_iff ok m _ _).mp h3).2⟩
  ·rintro ⟨h1, h2⟩
   refine ⟨(on_iff ok m x y).mpr ⟨h1, Go.less m _ _ h2⟩, ?_⟩
   obtain ⟨s, h3, h4⟩ := h2
   refine ⟨s, h3, (on_iff ok m _ _).mpr ⟨?_, h4⟩⟩
   obtain ⟨g1, g2, g3, g4⟩ := h3
   rw [g4]
   exact ⟨(ok.stp g1).2.2, (ok.stp g2).2.2⟩
theorem on_all {rows : Rows} : ∀ {m x y : Nat}, On rows m x y → AllR rows x y
 | 0, _, _, h => h
 | _ + 1, _, _, h => on_all h.1
theorem iter_front {E : Nat → Nat → Stp → Prop} : ∀ (m : Nat) (R : R2n) (x y : Nat), iterR E R (m + 1) x y ↔ iterR E (nextR E R) m x y
 | 0, _, _, _ => Iff.rfl
 | m + 1, R, x, y => by
  constructor
  ·rintro ⟨x1, y1, s, h1, h2, h3⟩
   exact ⟨x1, y1, s, (iter_front m R x1 y1).mp h1, h2, h3⟩
  ·rintro ⟨x1, y1, s, h1, h2, h3⟩
   exact ⟨x1, y1, s, (iter_front m R x1 y1).mpr h1, h2, h3⟩
theorem iter_go {E : Nat → Nat → Stp → Prop} : ∀ (m : Nat) (R : R2n), (∃ x y, iterR E R m x y) ↔ ∃ x y, R x y ∧ Go E m x y
 | 0, R => by
  constructor
  ·rintro ⟨x, y, h⟩; exact ⟨x, y, h, trivial⟩
  ·rintro ⟨x, y, h, _⟩; exact ⟨x, y, h⟩
 | m + 1, R => by
  have e : (∃ x y, iterR E R (m + 1) x y) ↔ ∃ x y, iterR E (nextR E R) m x y := by
   constructor
   ·rintro ⟨x, y, h⟩; exact ⟨x, y, (iter_front m R x y).mp h⟩
   ·rintro ⟨x, y, h⟩; exact ⟨x, y, (iter_front m R x y).mpr h⟩
  rw [e, iter_go m]
  constructor
  ·rintro ⟨x', y', ⟨x, y, s, h1, h2, h3⟩, h4⟩
   refine ⟨x, y, h1, s, h2, ?_⟩
   rw [h3]; exact h4
  ·rintro ⟨x, y, h1, s, h2, h3⟩
   exact ⟨s.2.1, s.2.2, ⟨x, y, s, h1, h2, rfl⟩, h3⟩
theorem iter_all {k n : Nat} {rows : Rows} (ok : CodeOk k n rows) : ∀ (m x y : Nat), iterR (St rows) (AllR rows) m x y → AllR rows x y
 | 0, _, _, h => h
 | m + 1, x, y, ⟨x1, y1, s, _, h2, h3⟩ => by
  obtain ⟨g1, g2, g3, g4⟩ := h2
  rw [g4] at h3
  injection h3 with e1 e2
  rw [← e1, ← e2]
  exact ⟨(ok.stp g1).2.2, (ok.stp g2).2.2⟩
theorem win_iff {k n : Nat} {rows : Rows} (ok : CodeOk k n rows) (b a : Nat) :
  Win rows b a ↔ ∀ x y, iterR (St rows) (AllR rows) b x y → ∀ s, St rows x y s → s.1.1 ≠ s.1.2 → ¬ On rows a s.2.1 s.2.2 := by
 have e : (∃ x y, Clash rows b (b + 1 + a) x y) ↔ ∃ x y, nextR (StU rows) (iterR (St rows) (AllR rows) b) x y ∧ Go (St rows) a x y := by
  rw [← iter_go]
  constructor
  ·rintro ⟨x, y, h⟩; exact ⟨x, y, (clash_iff ok b a x y).mpr h⟩
  ·rintro ⟨x, y, h⟩; exact ⟨x, y, (clash_iff ok b a x y).mp h⟩
 constructor
 ·intro h x y h1 s h2 h3 h4
  obtain ⟨x', y', h5⟩ := e.mpr ⟨s.2.1, s.2.2, ⟨x, y, s, h1, ⟨h2, h3⟩, rfl⟩, ((on_iff ok a _ _).mp h4).2⟩
  exact h x' y' h5
 ·intro h x y h1
  obtain ⟨x', y', ⟨x1, y1, s, h2, h3, h4⟩, h5⟩ := e.mp ⟨x, y, h1⟩
  refine h x1 y1 h2 s h3.1 h3.2 ((on_iff ok a _ _).mpr ⟨?_, by rw [h4]; exact h5⟩)
  obtain ⟨⟨g1, g2, g3, g4⟩, _⟩ := h3
  rw [g4]
  exact ⟨(ok.stp g1).2.2, (ok.stp g2).2.2⟩
def rowW (t b : Nat) : List (Nat × Nat) := (List.range b).map fun i => (i, t - i)
def allW : List (Nat × Nat) := (List.range 7).flatMap fun t => rowW t (t + 1)
def preW (t b : Nat) : List (Nat × Nat) := (List.range t).flatMap (fun t => rowW t (t + 1)) ++ rowW t b
theorem preW_succ (t b : Nat) : preW t (b + 1) = preW t b ++ [(b, t - b)] := by
 unfold preW rowW
 rw [List.range_succ, List.map_append, List.append_assoc]; rfl
theorem preW_end (t : Nat) : preW t (t + 1) = preW (t + 1) 0 := by
 unfold preW
 rw [List.range_succ, List.flatMap_append, List.flatMap_singleton]
 simp [rowW]
theorem preW_all : preW 7 0 = allW := by decide
theorem allW_mem : ∀ b < 7, ∀ a < 7 - b, (b, a) ∈ allW := by decide
theorem preW_len : ∀ t < 7, ∀ b < t + 2, (preW t b).length ≤ 28 := by decide
open Classical in
noncomputable def wf (rows : Rows) (p : Nat × Nat) : Bool := decide (Win rows p.1 p.2)
open Classical in
theorem wf_iff {rows : Rows} {p : Nat × Nat} : wf rows p = true ↔ Win rows p.1 p.2 := by unfold wf; exact decide_eq_true_iff
noncomputable def wins (rows : Rows) : List (Nat × Nat) := allW.filter (wf rows)
end Om
namespace L2
open PySem PySem.Spec PyProof.Rows
def Gr3 (H : Hp) (S : Addr) (rows : Om.Rows) : Prop := ∃ (o : Obj) (kvs : List (List Key × V)) (ks : List (Nat × Nat)), H S = some (.frz o (.dT kvs)) ∧ KD ks kvs ∧ (∀ x y, (x, y) ∈ ks ↔ Om.AllR rows x y) ∧
 ∀ p ∈ ks, ∃ (l : Addr) (ss : List Om.Stp), valV kvs (kk p) = some (.ref l) ∧ DV H (.ref l) (.list (ss.map stepD)) ∧ ss.length ≤ 64 ∧ ∀ s, s ∈ ss ↔ Om.St rows p.1 p.2 s
theorem Gr3.mono {H H' : Hp} {S : Addr} {rows : Om.Rows} (h : Gr3 H S rows) (s : Same H H') : Gr3 H' S rows := by
 obtain ⟨o, kvs, ks, h1, h2, h3, h4⟩ := h
 refine ⟨o, kvs, ks, s _ _ h1, h2, h3, fun p hp => ?_⟩
 obtain ⟨l, ss, q1, q2, q3⟩ := h4 p hp
 exact ⟨l, ss, q1, q2.mono s, q3⟩
def Vals3 (G : Hp) (kvs : List (List Key × V)) (ks : List (Nat × Nat)) (E : Nat → Nat → Om.Stp → Prop) : Prop :=
 ∀ p ∈ ks, ∃ (l : Addr) (ss : List Om.Stp), valV kvs (kk p) = some (.ref l) ∧ DV G (.ref l) (.list (ss.map stepD)) ∧ ss.length ≤ 64 ∧ ∀ s, s ∈ ss ↔ E p.1 p.2 s
theorem Vals3.mono {G G' : Hp} {kvs : List (List Key × V)} {ks : List (Nat × Nat)} {E : Nat → Nat → Om.Stp → Prop} (h : Vals3 G kvs ks E) (s : Same G G') : Vals3 G' kvs ks E := fun p hp => by
 obtain ⟨l, ss, h1, h2, h3⟩ := h p hp
 exact ⟨l, ss, h1, h2.mono s, h3⟩
theorem Vals3.put {G : Hp} {kvs : List (List Key × V)} {ks : List (Nat × Nat)} {E : Nat → Nat → Om.Stp → Prop} {p : Nat × Nat} {l : Addr} {ss : List Om.Stp} (h : Vals3 G kvs ks E) (n : p ∉ ks) (hl : DV G (.ref l) (.list (ss.map stepD))) (h64 : ss.length ≤ 64) (hs : ∀ s, s ∈ ss ↔ E p.1 p.2 s) :
  Vals3 G (putK kvs (kk p) (.ref l)) (ks ++ [p]) E := fun q hq => by
 rw [valV_put]
 rcases List.mem_append.mp hq with hq | hq
 ·have : kk q ≠ kk p := fun z => n (kk_inj z ▸ hq)
  rw [if_neg this]
  exact h q hq
 ·have : q = p := by simpa using hq
  subst this
  rw [if_pos rfl]
  exact ⟨l, ss, rfl, hl, h64, hs⟩
theorem KD.again {ks : List (Nat × Nat)} {kvs : List (List Key × V)} {p : Nat × Nat} {v : V} (h : KD ks kvs) (hp : p ∈ ks) : KD ks (putK kvs (kk p) v) := by
 refine ⟨?_, h.nd, h.lt⟩
 rw [← h.keys]
 unfold putK
 have : (kvs.any fun kv => decide (kv.1 = kk p)) = true := by
  have hm : kk p ∈ kvs.map (·.1) := by rw [h.keys]; exact List.mem_map.mpr ⟨p, hp, rfl⟩
  obtain ⟨q, hq, e⟩ := List.mem_map.mp hm
  exact List.any_eq_true.mpr ⟨q, hq, by simpa using e⟩
 rw [if_pos this, List.map_map]
 apply List.map_congr_left
 intro q _
 simp only [Function.comp]
 split <;> rfl
theorem KD.set {ks : List (Nat × Nat)} {kvs : List (List Key × V)} {p : Nat × Nat} {v : V} (h : KD ks kvs) (l1 : p.1 < 8) (l2 : p.2 < 8) : ∃ ks', KD ks' (putK kvs (kk p) v) ∧ ∀ q, q ∈ ks' ↔ q ∈ ks ∨ q = p := by
 by_cases hp : p ∈ ks
 ·exact ⟨ks, h.again hp, fun q => ⟨.inl, fun e => e.elim id fun e => e ▸ hp⟩⟩
 ·exact ⟨ks ++ [p], h.put hp l1 l2, fun q => by rw [List.mem_append, List.mem_singleton]⟩
theorem keys_DVs {H : Hp} : ∀ {ks : List (Nat × Nat)} {kvs : List (List Key × V)} {bs : List Addr}, kvs.map (·.1) = ks.map kk → KeysAt H kvs bs → DVs H (bs.map V.ref) (ks.map pairD)
 | [], [], _, _, .nil => .nil
 | p :: ks, _ :: kvs, b :: bs, e, .cons h t => by
  rw [List.map_cons, List.map_cons] at e
  injection e with e1 e2
  rw [e1] at h
  exact .cons (pair_DV h) (keys_DVs e2 t)
 | [], _ :: _, _, e, _ => by simp at e
 | _ :: _, [], _, e, _ => by simp at e
def Ch (F B : Addr) (H H' : Hp) : Prop := ∀ x u, x ≠ F → x ≠ B → H x = some u → H' x = some u ∨ ∃ o kvs, u = .dT kvs ∧ H' x = some (.frz o (.dT kvs))
theorem Ch.refl {F B : Addr} {H : Hp} : Ch F B H H := fun _ _ _ _ h => .inl h
theorem Ch.trans {F B : Addr} {H H1 H2 : Hp} (a : Ch F B H H1) (b : Ch F B H1 H2) : Ch F B H H2 := fun x u h1 h2 h => by
 rcases a x u h1 h2 h with q | ⟨o, kvs, rfl, q⟩
 ·exact b x u h1 h2 q
 ·rcases b x _ h1 h2 q with q | ⟨_, _, e, _⟩
  ·exact .inr ⟨o, kvs, rfl, q⟩
  ·cases e
theorem Ch.same {F B : Addr} {H H' : Hp} (s : Same H H') : Ch F B H H' := fun x u _ _ h => .inl (s _ _ h)
theorem Ch.setF {F B : Addr} {H : Hp} {u : HO} : Ch F B H (upd H F u) := fun x v h1 _ h => .inl (by rw [upd_ne h1]; exact h)
theorem Ch.setB {F B : Addr} {H : Hp} {u : HO} : Ch F B H (upd H B u) := fun x v _ h2 h => .inl (by rw [upd_ne h2]; exact h)
theorem Ch.frz {F B a : Addr} {H : Hp} {o : Obj} {kvs : List (List Key × V)} (ha : H a = some (.dT kvs)) : Ch F B H (upd H a (.frz o (.dT kvs))) := fun x v _ _ h => by
 by_cases e : x = a
 ·subst e
  rw [ha] at h
  cases h
  exact .inr ⟨o, kvs, rfl, upd_same⟩
 ·exact .inl (by rw [upd_ne e]; exact h)
def FrL (H : Hp) (F B : Addr) (v : V) (R : Om.R2n) : Prop := ∃ (l : Addr) (xs : List V) (ps : List (Nat × Nat)), v = .ref l ∧ l ≠ F ∧ l ≠ B ∧ H l = some (.lst xs) ∧ DVs H xs (ps.map pairD) ∧ ps.length ≤ 64 ∧ ∀ x y, (x, y) ∈ ps ↔ R x y
def BkD (H : Hp) (v : V) (R : Om.R2n) : Prop := ∃ (a : Addr) (kvs : List (List Key × V)) (ks : List (Nat × Nat)), v = .ref a ∧ Rd H a (.dT kvs) ∧ KD ks kvs ∧ ∀ x y, (x, y) ∈ ks ↔ R x y
theorem FrL.ch {H H' : Hp} {F B : Addr} {v : V} {R : Om.R2n} {fs gs : List V} (hF : H F = some (.lst fs)) (hB : H B = some (.lst gs)) (h : FrL H F B v R) (c : Ch F B H H') : FrL H' F B v R := by
 obtain ⟨l, xs, ps, e, h1, h2, h3, h4, h5⟩ := h
 refine ⟨l, xs, ps, e, h1, h2, ?_, ?_, h5⟩
 ·rcases c l _ h1 h2 h3 with q | ⟨_, _, e, _⟩
  ·exact q
  ·cases e
 ·refine DVs.imp (fun x d hd q => ?_) h4
  obtain ⟨p, _, rfl⟩ := List.mem_map.mp hd
  obtain ⟨b, rfl, hb⟩ := pair_inv q
  refine pair_DV ?_
  rcases c b _ (ne_of hb hF (fun z => nomatch z)) (ne_of hb hB (fun z => nomatch z)) hb with q | ⟨_, _, e, _⟩
  ·exact q
  ·cases e
theorem BkD.ch {H H' : Hp} {F B : Addr} {v : V} {R : Om.R2n} {fs gs : List V} (hF : H F = some (.lst fs)) (hB : H B = some (.lst gs)) (h : BkD H v R) (c : Ch F B H H') : BkD H' v R := by
 obtain ⟨a, kvs, ks, e, h1, h2⟩ := h
 refine ⟨a, kvs, ks, e, ?_, h2⟩
 rcases h1 with h1 | ⟨o, h1⟩
 ·rcases c a _ (ne_of h1 hF (fun z => nomatch z)) (ne_of h1 hB (fun z => nomatch z)) h1 with q | ⟨o, _, e, q⟩
  ·exact .inl q
  ·cases e; exact .inr ⟨o, q⟩
 ·rcases c a _ (ne_of h1 hF (fun z => nomatch z)) (ne_of h1 hB (fun z => nomatch z)) h1 with q | ⟨_, _, e, _⟩
  ·exact .inr ⟨o, q⟩
  ·cases e
end L2
end
section
namespace L2
open PySem PySem.Spec PyProof.Rows
section
variable {prog : Program} {w : World} {A : Around} {E : Value → Shared → Prop} {s : Shared}
end
section
variable {X : Cx} {p pos : Pos}
end
section
variable {G H0 H : Hp} {D q : Addr} {kvs : List (List Key × V)} {ks : List (Nat × Nat)} {c : Nat} {E : Nat × Nat → Om.Stp → Prop} {o : HO}
end
end L2
namespace Om
end Om
end
section
namespace L2
open PySem PySem.Spec PyProof.Rows
section
variable {prog : Program} {w : World} {A : Around} {E : Value → Shared → Prop} {s : Shared}
theorem iadd_dict {R : Result → Shared → Prop} {d : Addr} {od : Obj} {es : Array DictEntry} {ep : Nat} (hh : A.handled = none) (hd : (d == sysModules) = false) (hT : s.TypeIs (.ref d) "dict") (ho : s.heap.get? d = some od) (hdat : od.data = .dict es ep) (hlen : es.size ≤ sizeLine) (S : Addr) (c₀ : Nat) (hS : s.heap.get? S = some { cls := .type "list", data := .seq #[] c₀ })
  (hR : ∀ h' tk acc' c', (∀ b o, b ≠ S → s.heap.get? b = some o → h'.get? b = some o) → h'.get? S = some { cls := .type "list", dict := none, data := .seq acc' c', slots := #[] } →
   ItemsOf (fun i v => ∃ e, es[i]? = some e ∧ v = e.key) acc' es.size → R (.ok (.ret (.ref S))) { s with heap := h', toks := tk }) :
  codeAny (model prog w) A (.builtin "list.__iadd__" ⟨[.ref S, .ref d], []⟩) R s := by
 refine codeAny_builtin entry_list_iadd' ?_
 rw [Around.under_plainId (by decide +kernel) _]
 exact extend_dict hh hd hT ho hdat hlen S (.ref S) c₀ hS hR
theorem collect_dict {d : Addr} {od : Obj} {es : Array DictEntry} {ep : Nat} {Q : List Value → Shared → Prop} (hh : A.handled = none) (hd : (d == sysModules) = false) (hT : s.TypeIs (.ref d) "dict") (ho : s.heap.get? d = some od) (hdat : od.data = .dict es ep) (hlen : es.size ≤ sizeLine)
  (h : ∀ (h' : Heap) (tk : Tok) (acc : Array Value), (∀ b o, s.heap.get? b = some o → h'.get? b = some o) → s.heap.objs.size < h'.objs.size → ItemsOf (fun i v => ∃ e, es[i]? = some e ∧ v = e.key) acc es.size → Q acc.toList { s with heap := h', toks := tk }) :
  wpAny (model prog w) A (collect (.ref d)) Q E s := by
 unfold collect
 refine wpAny_bind (wpAny_runValue (codeAny_builtin entry_proto_collect' ?_))
 show wpAny _ _ (do again (.builtin "list.__iadd__" ⟨[← newList [], .ref d], []⟩)) _ _ s
 refine wpAny_bind (wpAny_newList (wpAny_pure ⟨Code.quiet_builtin _ (by decide +kernel), ?_⟩))
 have hT' : (⟨s.heap.push (seqObj "list" #[] 0), s.gens, s.drawn, s.toks, s.os⟩ : Shared).TypeIs (.ref d) "dict" := by
  obtain ⟨o, e1, e2⟩ := hT
  exact ⟨o, Heap.get?_push_of_some _ e1, e2⟩
 refine iadd_dict hh hd hT' (Heap.get?_push_of_some _ ho) hdat hlen s.heap.objs.size 0 (Heap.get?_push_size _ rfl) fun h' tk acc' c' hk hS' hacc => ?_
 show wpAny (model prog w) A (do
   let o ← load s.heap.objs.size
   match o.data with
   | .seq xs _ => pure xs.toList
   | _ => unsupported "internal:collect") Q E { s with heap := h', toks := tk }
 refine wpAny_bind (wpAny_load hS' ?_)
 exact wpAny_pure (h h' tk acc' (fun b o e => hk b o (Nat.ne_of_lt (Heap.lt_size e)) (Heap.get?_push_of_some _ e)) (Heap.lt_size hS') hacc)
theorem sorted_dict {d : Addr} {od : Obj} {es : Array DictEntry} {ep : Nat} {ns : List Int} {Q : Value → Shared → Prop} (hh : A.handled = none) (hd : (d == sysModules) = false) (hT : s.TypeIs (.ref d) "dict") (ho : s.heap.get? d = some od) (hdat : od.data = .dict es ep) (hI : IntsAre (es.toList.map (·.key)) ns) (h64 : es.size < 64)
  (h : ∀ (h' : Heap) (tk : Tok) (l : Addr) (out : Array Value) (ns' : List Int) (e : Nat), (∀ b o, s.heap.get? b = some o → h'.get? b = some o) → s.heap.objs.size ≤ l → h'.get? l = some (seqObj "list" out e) → IntsAre out.toList ns' → ns'.Perm ns → ns'.Pairwise (· ≤ ·) → Q (.ref l) { s with heap := h', toks := tk }) :
  wpAny (model prog w) A (call (.builtin "sorted") [.ref d]) Q E s := by
 refine Calls.call_function_entry kind_sorted plain_sorted entry_sorted (args_sorted1 _) ?_
 unfold Builtin.«sorted»
 refine wpAny_bind (m := checkCount "sorted" 1 1 _) (wpAny_pure ?_)
 refine wpAny_bind (collect_dict hh hd hT ho hdat (by rw [sizeLine_eq]; omega) fun h1 tk acc kp lt it => ?_)
 have ea : acc.toList = es.toList.map (·.key) := by
  apply List.ext_getElem?
  intro i
  rw [List.getElem?_map]
  by_cases hi : i < es.size
  ·have hi' : i < acc.size := by rw [it.1]; exact hi
   obtain ⟨e, e1, e2⟩ := it.2 i acc[i] (by simp [hi'])
   have e3 : es.toList[i]? = some e := by simpa using e1
   rw [e3]
   simp [hi', e2]
  ·have : ¬ i < acc.size := by rw [it.1]; exact hi
   simp [Nat.le_of_not_lt hi, Nat.le_of_not_lt this]
 rw [ea]
 generalize hvs : es.toList.map (·.key) = vs at *
 have hv64 : vs.length < 64 := by rw [← hvs]; simpa using h64
 refine wpAny_bind (wpAny_newList ?_)
 have hoL : (h1.push (seqObj "list" vs.toArray 0)).get? h1.objs.size = some (seqObj "list" vs.toArray 0) := Heap.get?_push_size _ rfl
 refine wpAny_bind (wpAny_holding (wpAny_call_entry slot_list_sort ⟨_, hoL, rfl⟩ entry_list_sort (list_sort_tree hoL hI hv64 fun out ns' a1 a2 a3 => ⟨_, rfl, ?_⟩) (args_list_sort _)))
 obtain ⟨e, he⟩ := sortedHeap_at (out := out) hoL
 refine wpAny_pure ⟨_, rfl, h _ tk h1.objs.size out ns' e (fun b o hb => ?_) (Nat.le_of_lt lt) he a1 a2 a3⟩
 have hb1 := kp b o hb
 have bl := Heap.lt_size hb1
 rw [sortedHeap_old (Nat.ne_of_lt bl) (by rw [size_push']; exact Nat.lt_succ_of_lt bl)]
 exact Heap.get?_push_of_some _ hb1
end
section
variable {X : Cx} {p pos : Pos}
def rSortedD : List V → Hp → VK → Prop := fun vs H Q => (∃ (a : Addr) (kvs : List (Key × V)) (ns : List Int), vs = [.ref a] ∧ Rd H a (.dK kvs) ∧ kvs.map (·.1) = ns.map Sum.inl ∧ ns.length < 64 ∧
  ∀ (l : Addr) (ns' : List Int), H l = none → ns'.Perm ns → ns'.Pairwise (· ≤ ·) → Q (.ref l) (upd H l (.lst (ns'.map V.int)))) ∨ rSorted vs H Q
theorem call_sortedD (hc : X.calm = true) : CallR X (.builtin "sorted") rSortedD := by
 intro pins s σ H xs us Q I r h
 rcases h with ⟨a, kvs, ns, rfl, rd, hk, hl, q⟩ | h
 ·obtain ⟨u, rfl, rx⟩ := vals1 r
  cases rx
  obtain ⟨z, hd, vs, kv, o, es, ep, h1, h2, h3, h4, h5, h6⟩ := dk_rd I.hok rd
  have hT : s.TypeIs (.ref a) "dict" := ⟨o, h1, h2.1⟩
  have rel := keys_mix kv h5
  have e1 : (kvs.map fun p => kV p.1) = ns.map V.int := by
   have : (kvs.map fun p => kV p.1) = (kvs.map (·.1)).map kV := by rw [List.map_map]; rfl
   rw [this, hk, List.map_map]
   rfl
  rw [e1] at rel
  have hI := vals_intsA rel
  have es64 : es.size < 64 := by
   have := rel.length
   simp at this
   omega
  refine sorted_dict (I.ok.hd hc) hd hT h1 h3 hI es64 fun h' tk l out ns' e kp hl' he a1 a2 a3 => ?_
  have hz : (ns'.map V.int).length ≤ sizeLine := by rw [List.length_map, a2.length_eq]; exact le_line (by omega)
  exact ⟨.ref l, upd H l (.lst (ns'.map V.int)), I.laid (t' := tk) kp hl' ⟨hz, out.toList, e, ints_vals a1, by simpa using he⟩, rfl, q _ _ (I.hok.fresh hl') a2 a3⟩
 ·exact call_sortedU pins s σ H xs us Q I r h
theorem fn_sortedD {e : Expr} {es : List Expr} {t : TA} {mg' : Str → Option Value} (hm : mg' "sorted" = none) (hX : X.mg = mg') (ha : PA X (e :: es) t) (hc : X.calm = true := by kernel_rfl) (hg : gB X "sorted" = true := by kernel_rfl) (he : starEach (e :: es) X.env = (false, eval e X.env) :: starEach es X.env := by kernel_rfl) (hpl : (backTo pos (starEach es X.env)).any (·.1) = false := by kernel_rfl) :
  PE X (.Call (.Name "sorted" p) (e :: es) [] pos) (tCB rSortedD t) := pe_callB (call_sortedD hc) (gl_of hg) (by rw [hX]; exact hm) PyProof.Rows.boot_sorted ha (he := he) (hpl := hpl)
end
end L2
end
section
namespace Om
theorem flatB_len {α : Type} {n : Nat} : ∀ {cs : List (List α)}, (∀ c ∈ cs, c.length = n) → cs.flatten.length = cs.length * n
 | [], _ => by simp
 | c :: cs, h => by
  rw [List.flatten_cons, List.length_append, h c List.mem_cons_self, flatB_len fun x hx => h x (List.mem_cons_of_mem _ hx), List.length_cons, Nat.add_mul, Nat.one_mul, Nat.add_comm]
abbrev Sn := Nat → Prop
def aft (rows : Rows) (S : Sn) (w : List Bool) : Sn := fun y => ∃ x i, S x ∧ i < (rows.getD x []).length ∧ step rows x i = (w, y)
def afts (rows : Rows) (S : Sn) (ws : List (List Bool)) : Sn := ws.foldl (aft rows) S
theorem aft_lt {k n : Nat} {rows : Rows} (ok : CodeOk k n rows) {S : Sn} {w : List Bool} {y : Nat} (h : aft rows S w y) : y < rows.length := by
 obtain ⟨x, i, _, h2, h3⟩ := h
 have := (ok.stp h2).2.2
 rw [h3] at this; exact this
end Om
namespace L2
open PySem PySem.Spec PyProof.Rows
def SL (H : Hp) (v : V) (S : Om.Sn) : Prop := ∃ (l : Addr) (ns : List Nat), v = .ref l ∧ H l = some (.lst (ns.map fun i => V.int (i : Nat))) ∧ ns.length ≤ 8 ∧ ∀ x, x ∈ ns ↔ S x
theorem SL.mono {H H' : Hp} {v : V} {S : Om.Sn} (h : SL H v S) (s : Same H H') : SL H' v S := by
 obtain ⟨l, ns, e, h1, h2⟩ := h
 exact ⟨l, ns, e, s _ _ h1, h2⟩
structure KN (ks : List Nat) (kvs : List (Key × V)) : Prop where
 keys : kvs.map (·.1) = ks.map fun (i : Nat) => (Sum.inl (i : Int) : Key)
 nd : ks.Nodup
 lt : ∀ x ∈ ks, x < 8
section
variable {ks : List Nat} {kvs : List (Key × V)} {x : Nat} {v : V}
theorem KN.nil : KN [] [] := ⟨rfl, List.nodup_nil, by simp⟩
theorem KN.le (h : KN ks kvs) : ks.length ≤ 8 := by
 have : ks ⊆ List.range 8 := fun p hp => List.mem_range.mpr (h.lt p hp)
 have := List.Nodup.length_le_of_subset h.nd this
 simpa using this
theorem KN.len (h : KN ks kvs) : kvs.length = ks.length := by have := congrArg List.length h.keys; simpa using this
theorem KN.set (h : KN ks kvs) (hx : x < 8) : ∃ ks', KN ks' (putK kvs (Sum.inl (x : Int) : Key) v) ∧ ∀ y, y ∈ ks' ↔ y ∈ ks ∨ y = x := by
 have inj : ∀ {a b : Nat}, (Sum.inl (a : Int) : Key) = Sum.inl (b : Int) → a = b := fun {a b} e => by
  have := Sum.inl.inj e
  omega
 by_cases hm : x ∈ ks
 ·have any : (kvs.any fun kv => decide (kv.1 = (Sum.inl (x : Int) : Key))) = true := by
   have hm' : (Sum.inl (x : Int) : Key) ∈ kvs.map (·.1) := by rw [h.keys]; exact List.mem_map.mpr ⟨x, hm, rfl⟩
   obtain ⟨q, hq, e⟩ := List.mem_map.mp hm'
   exact List.any_eq_true.mpr ⟨q, hq, by simpa using e⟩
  refine ⟨ks, ⟨?_, h.nd, h.lt⟩, fun y => ⟨.inl, fun e => e.elim id fun e => e ▸ hm⟩⟩
  rw [← h.keys]
  unfold putK
  rw [if_pos any, List.map_map]
  apply List.map_congr_left
  intro q _
  simp only [Function.comp]
  split <;> rfl
 ·have any : ¬ (kvs.any fun kv => decide (kv.1 = (Sum.inl (x : Int) : Key))) = true := fun z => by
   obtain ⟨q, hq, e⟩ := List.any_eq_true.mp z
   have e' : q.1 = (Sum.inl (x : Int) : Key) := by simpa using e
   have hm' : (Sum.inl (x : Int) : Key) ∈ kvs.map (·.1) := List.mem_map.mpr ⟨q, hq, e'⟩
   rw [h.keys] at hm'
   obtain ⟨y, hy, e2⟩ := List.mem_map.mp hm'
   exact hm (inj e2 ▸ hy)
  refine ⟨ks ++ [x], ⟨?_, ?_, fun y hy => ?_⟩, fun y => by rw [List.mem_append, List.mem_singleton]⟩
  ·unfold putK
   rw [if_neg any, List.map_append, List.map_append, h.keys]
   rfl
  ·rw [List.nodup_append]
   refine ⟨h.nd, by simp, fun a ha b hb => ?_⟩
   have : b = x := by simpa using hb
   subst this
   exact fun e => hm (e ▸ ha)
  ·rcases List.mem_append.mp hy with hy | hy
   ·exact h.lt y hy
   ·have : y = x := by simpa using hy
    subst this; exact hx
end
structure Gk (G H0 H : Hp) (D : Addr) (kvs : List (Key × V)) : Prop where
 s : Same G H
 s0 : Same H0 G
 gD : G D = none
 hD : H D = some (.dK kvs)
theorem Gk.start {H : Hp} {D : Addr} (h : H D = none) : Gk H H (upd H D (.dK [])) D [] := ⟨Same.upd h, Same.refl _, h, upd_same⟩
theorem Gk.all {G H0 H : Hp} {D : Addr} {kvs : List (Key × V)} (g : Gk G H0 H D kvs) : Same H0 H := g.s0.trans g.s
theorem Gk.set {G H0 H : Hp} {D : Addr} {kvs kvs' : List (Key × V)} (g : Gk G H0 H D kvs) : Gk G H0 (upd H D (.dK kvs')) D kvs' := ⟨fun x u e => by rw [upd_ne (ne_of_none e g.gD)]; exact g.s _ _ e, g.s0, g.gD, upd_same⟩
end L2
end
section
namespace Om
def allS (rows : Rows) : Sn := fun x => x < rows.length
def byL (rows : Rows) (S : Sn) (w : List Bool) (l : Nat) : Sn := fun y => ∃ x, S x ∧ l < (rows.getD x []).length ∧ step rows x l = (w, y)
def Goes (rows : Rows) (ws : List (List Bool)) (b l : Nat) : Prop := ∃ z, afts rows (byL rows (afts rows (allS rows) (ws.take b)) (ws.getD b []) l) (ws.drop (b + 1)) z
open Classical in
noncomputable def rd (rows : Rows) (k b : Nat) (ws : List (List Bool)) : Option Nat := (List.range (2 ^ k)).find? fun l => decide (Goes rows ws b l)
theorem afts_lt {k n : Nat} {rows : Rows} (ok : CodeOk k n rows) : ∀ {ws : List (List Bool)} {S : Sn}, (∀ x, S x → x < rows.length) → ∀ x, afts rows S ws x → x < rows.length
 | [], _, h => h
 | w :: ws, S, _ => afts_lt ok (ws := ws) (S := aft rows S w) fun _ hx => aft_lt ok hx
theorem byL_lt {k n : Nat} {rows : Rows} (ok : CodeOk k n rows) {S : Sn} {w : List Bool} {l : Nat} (y : Nat) (h : byL rows S w l y) : y < rows.length := by
 obtain ⟨x, _, h2, h3⟩ := h
 have := (ok.stp h2).2.2
 rw [h3] at this; exact this
noncomputable def readL (rows : Rows) (k b a : Nat) (cs : List (List Bool)) : List (Option Nat) := (List.range (cs.length + 1 - (b + 1 + a))).map fun p => rd rows k b ((cs.drop p).take (b + 1 + a))
theorem readL_len {rows : Rows} {k b a : Nat} {cs : List (List Bool)} : (readL rows k b a cs).length = cs.length + 1 - (b + 1 + a) := by unfold readL; simp
theorem readL_at {rows : Rows} {k b a p : Nat} {cs : List (List Bool)} (h : p < cs.length + 1 - (b + 1 + a)) : (readL rows k b a cs)[p]? = some (rd rows k b ((cs.drop p).take (b + 1 + a))) := by unfold readL; rw [List.getElem?_map, List.getElem?_range h]; rfl
end Om
namespace L2
open PySem PySem.Spec PyProof.Rows
structure Gm (H0 H : Hp) (L : Addr) (ts : List Addr) (yss : Nat → List Nat) : Prop where
 s : Same H0 H
 hL : H L = some (.lst (ts.map V.ref))
 h0 : H0 L = none
 nd : ts.Nodup
 t0 : ∀ t ∈ ts, H0 t = none
 ht : ∀ l t, ts[l]? = some t → H t = some (.lst ((yss l).map fun i => V.int (i : Nat))) ∧ t ≠ L
section
variable {H0 H : Hp} {L q : Addr} {ts : List Addr} {yss : Nat → List Nat}
theorem Gm.put {o : HO} (g : Gm H0 H L ts yss) (h : H q = none) : Gm H0 (upd H q o) L ts yss :=
 ⟨g.s.trans (Same.upd h), Same.upd h _ _ g.hL, g.h0, g.nd, g.t0, fun l t e => ⟨Same.upd h _ _ (g.ht l t e).1, (g.ht l t e).2⟩⟩
theorem Gm.app (g : Gm H0 H L ts yss) {l y : Nat} {t : Addr} (e : ts[l]? = some t) : Gm H0 (upd H t (.lst ((yss l ++ [y]).map fun i => V.int (i : Nat)))) L ts (fun j => if j = l then yss l ++ [y] else yss j) := by
 have hm := List.mem_of_getElem? e
 refine ⟨fun x u hx => ?_, ?_, g.h0, g.nd, g.t0, fun j t' e' => ?_⟩
 ·rw [upd_ne (ne_of_none hx (g.t0 t hm))]; exact g.s _ _ hx
 ·rw [upd_ne (Ne.symm (g.ht l t e).2)]; exact g.hL
 ·by_cases h : j = l
  ·subst h
   rw [e] at e'
   cases e'
   rw [if_pos rfl]
   exact ⟨upd_same, (g.ht _ _ e).2⟩
  ·have ne : t' ≠ t := fun z => by
    subst z
    obtain ⟨h1, e1⟩ := List.getElem?_eq_some_iff.mp e
    obtain ⟨h2, e2⟩ := List.getElem?_eq_some_iff.mp e'
    exact h ((List.getElem_inj g.nd).mp (e2.trans e1.symm))
   rw [if_neg h, upd_ne ne]
   exact g.ht j t' e'
theorem Gm.more (g : Gm H0 H L ts fun _ => []) {t : Addr} (h : H t = none) : Gm H0 (upd (upd H t (.lst [])) L (.lst (ts.map V.ref ++ [.ref t]))) L (ts ++ [t]) fun _ => [] := by
 have tL : t ≠ L := fun z => by subst z; rw [g.hL] at h; cases h
 have t0 : H0 t = none := g.s.free h
 have tn : t ∉ ts := fun z => by
  obtain ⟨l, h1, e⟩ := List.mem_iff_getElem.mp z
  have := (g.ht l t (by rw [List.getElem?_eq_getElem h1, e])).1
  rw [h] at this; cases this
 refine ⟨fun x u hx => ?_, by rw [upd_same, List.map_append]; rfl, g.h0, ?_, fun x hx => ?_, fun l x e => ?_⟩
 ·rw [upd_ne (ne_of_none hx g.h0), upd_ne (ne_of_none hx t0)]; exact g.s _ _ hx
 ·rw [List.nodup_append]
  exact ⟨g.nd, by simp, fun a ha b hb => by have : b = t := (by simpa using hb); subst this; exact fun z => tn (z ▸ ha)⟩
 ·rcases List.mem_append.mp hx with hx | hx
  ·exact g.t0 x hx
  ·have : x = t := by simpa using hx
   subst this; exact t0
 ·by_cases hl : l < ts.length
  ·rw [List.getElem?_append_left hl] at e
   have := g.ht l x e
   exact ⟨by rw [upd_ne this.2, upd_ne (fun z => by subst z; exact tn (List.mem_of_getElem? e))]; exact this.1, this.2⟩
  ·rw [List.getElem?_append_right (by omega)] at e
   have : x = t := by
    have hm := List.mem_of_getElem? e
    simpa using hm
   subst this
   exact ⟨by rw [upd_ne tL, upd_same]; rfl, tL⟩
end
def BL (H : Hp) (v : V) (m : Nat) (S : Nat → Om.Sn) : Prop := ∃ (L : Addr) (ts : List Addr), v = .ref L ∧ H L = some (.lst (ts.map V.ref)) ∧ ts.length = m ∧ ∀ l t, ts[l]? = some t → SL H (.ref t) (S l)
def optV : Option Nat → V
 | none => .non
 | some l => .int (l : Nat)
end L2
namespace L2
open PySem PySem.Spec PyProof.Rows
section
variable {X : Cx}
end
end L2
namespace Om
theorem rd_first {rows : Rows} {k b i : Nat} {ws : List (List Bool)} (hi : i < 2 ^ k) (h : Goes rows ws b i) (no : ∀ l, l < i → ¬ Goes rows ws b l) : rd rows k b ws = some i := by
 unfold rd
 rw [List.find?_range_eq_some]
 exact ⟨by simpa using h, List.mem_range.mpr hi, fun j hj => by simpa using no j hj⟩
theorem rd_no {rows : Rows} {k b : Nat} {ws : List (List Bool)} (no : ∀ l, l < 2 ^ k → ¬ Goes rows ws b l) : rd rows k b ws = none := by
 unfold rd
 rw [List.find?_eq_none]
 intro l hl
 simpa using no l (List.mem_range.mp hl)
end Om
namespace L2
open PySem PySem.Spec PyProof.Rows
theorem cutH (xs : List V) (b : Nat) (h : b ≤ xs.length) : cutV xs none (some (b : Int)) = xs.take b := by
 have := cut_nat xs 0 b (Nat.zero_le _) h
 rw [List.drop_zero, Nat.sub_zero] at this
 rw [← this]
 rfl
theorem cutT (xs : List V) (a : Nat) (h : a ≤ xs.length) : cutV xs (some (a : Int)) none = xs.drop a := by
 have := cut_nat xs a xs.length h (Nat.le_refl _)
 rw [List.take_of_length_le (by rw [List.length_drop]; exact Nat.le_refl _)] at this
 rw [← this]
 unfold cutV
 congr 2
 have e := HT.sIx_nat xs.length xs.length xs.length
 rw [e, Nat.min_self]
 rfl
end L2
end
section
namespace Om
theorem words_n {k n : Nat} {rows : Rows} (ok : CodeOk k n rows) : ∀ {ls : List Nat} {s : Nat}, s < rows.length → (∀ l ∈ ls, l < 2 ^ k) → ∀ c ∈ words rows s ls, c.length = n
 | [], _, _, _, c, hc => nomatch hc
 | l :: ls, s, hs, hl, c, hc => by
  obtain ⟨st, e1, e2, e3, e4⟩ := step_get ok hs (hl l List.mem_cons_self)
  rcases List.mem_cons.mp (show c ∈ (step rows s l).1 :: words rows (step rows s l).2 ls from hc) with rfl | hc
  ·exact e3
  ·exact words_n ok e4 (fun x hx => hl x (List.mem_cons_of_mem _ hx)) c hc
end Om
namespace L2
open PySem PySem.Spec PyProof.Rows
end L2
namespace L2
theorem if_negP {c A B : Prop} [Decidable c] (hc : ¬ c) (h : B) : if c then A else B := by rw [if_neg hc]; exact h
end L2
namespace L2
end L2
end
section
namespace L2
open PySem PySem.Spec PyProof.Rows
section
variable {X : Cx} {p pos : Pos}
end
end L2
namespace Om
end Om
end
section
namespace L2
open PySem PySem.Spec PyProof.Rows
end L2
namespace L2
open PySem PySem.Spec PyProof.Rows
end L2
namespace L2
open PySem PySem.Spec PyProof.Rows
end L2
end
section
namespace L2
open PySem PySem.Spec PyProof.Rows
section
variable {X : Cx} {p pos : Pos}
def rLenW (K : PySem.W.Frag) : List V → Hp → VK → Prop := fun vs H Q => (∃ a ys, vs = [.ref a] ∧ SqL K H a ys ∧ Q (.int (ys.length : Nat)) H) ∨ rLen vs H Q
theorem call_lenW : CallR X (.builtin "len") (rLenW X.K) := by
 intro pins s σ H xs us Q I r h
 rcases h with ⟨a, ys, rfl, h1, q⟩ | h
 ·exact call_len_seq pins s σ H _ us Q I r ⟨a, ys, rfl, .inl h1, q⟩
 ·exact call_lenU pins s σ H xs us Q I r h
theorem fn_lenW {e : Expr} {es : List Expr} {t : TA} {mg' : Str → Option Value} (hm : mg' "len" = none) (hX : X.mg = mg') (ha : PA X (e :: es) t) (hg : gB X "len" = true := by kernel_rfl) (he : starEach (e :: es) X.env = (false, eval e X.env) :: starEach es X.env := by kernel_rfl) (hpl : (backTo pos (starEach es X.env)).any (·.1) = false := by kernel_rfl) :
  PE X (.Call (.Name "len" p) (e :: es) [] pos) (tCB (rLenW X.K) t) := pe_callB call_lenW (gl_of hg) (by rw [hX]; exact hm) boot_len ha (he := he) (hpl := hpl)
end
end L2
end
section
namespace L2
open PySem PySem.Spec PyProof.Rows PySem.W
def TrD (h base : Heap) (e : Addr) (c a0 : Value) (dd : Option Addr) (fl : Value) : Prop :=
 ∃ (oe : Obj) (vs : Array Value) (T : Addr) (oT : Obj) (ts : Array Value), h.get? e = some oe ∧ oe.cls = c ∧ oe.dict = dd ∧ vs[0]? = some a0 ∧ oe.data = .fields vs ∧ vs[1]? = some (.ref T) ∧ base.get? T = none ∧ T ≠ e ∧ h.get? T = some oT ∧ oT.data = .fields ts ∧ ts[3]? = some fl
def FlyD (base : Heap) (l : List Env) (e : Addr) (c a0 : Value) (dd : Option Addr) (h : Heap) : Prop := base.StaysIn h ∧ base.get? e = none ∧ h.FunFrames base l ∧ TrD h base e c a0 dd .none
def HldD (base : Heap) (l : List Env) (e : Addr) (c a0 : Value) (dd : Option Addr) (L : Addr) (h : Heap) : Prop := base.StaysIn h ∧ base.get? e = none ∧ h.FunFrames base l ∧ TrD h base e c a0 dd (rawInt L)
theorem TrD.there {h base : Heap} {e : Addr} {c a0 fl : Value} {dd : Option Addr} (x : TrD h base e c a0 dd fl) : ∃ o, h.get? e = some o ∧ o.cls = c ∧ o.dict = dd := by
 obtain ⟨oe, _, _, _, _, h1, h2, h3, _⟩ := x
 exact ⟨oe, h1, h2, h3⟩
theorem dict_mapFields (f : Array Value → Array Value) (o : Obj) : (Obj.mapFields f o).dict = o.dict := by
 unfold Obj.mapFields
 split <;> rfl
section
variable {M : Model} {A : Around} {E : Value → Shared → Prop} {s : Shared} {base : Heap} {env : Env} {outer : List Env} {L e : Addr} {a0 : Value} {Q : Unit → Shared → Prop}
theorem entry_D {oe : Obj} {vs : Array Value} {hd0 : Value} {had : Bool} (fr : A.frames = some (env :: outer)) (ff : s.heap.FunFrames base (env :: outer)) (lf : env.frame = some L) (ge : s.heap.get? e = some oe) (bs : base.StaysIn s.heap) (be : base.get? e = none)
  (dv : oe.data = .fields vs) (sz : 1 < vs.size) (v0 : vs[0]? = some a0)
  (k : ∀ h', base.StaysIn h' → h'.FunFrames base (env :: outer) → TrD h' base e oe.cls a0 oe.dict (rawInt L) → s.heap.UpToSlots h' → Q () { s with heap := h' }) :
  wpAny M A (do let x ← frameOf env; let y ← entryPlaceOf L had; let z ← EntryCells.newEntry hd0 x .none (rawInt L) .none y; setField (.ref e) 1 z) Q E s := by
 have ne : e ∉ (env :: outer).filterMap (·.frame) := fun m => by
  obtain ⟨_, o, ho, nf⟩ := ff.mem m
  rw [ge] at ho
  cases ho
  exact nf vs dv
 refine wpAny_bind (wpAny_frameOf_fun fr ff lf fun h1 so => wpAny_bind (wpAny_entryPlaceOf fun pl ip => ?_))
 unfold EntryCells.newEntry newFields
 refine wpAny_bind (wpAny_newObj_type ?_ (ip.sizeOk5 _ _ _ _ _))
 have e1 : h1.get? e = some oe := (so.2.1 e ne).trans ge
 have b1 : base.StaysIn h1 := fun b o q => (so.2.1 b fun m => by rw [(ff.mem m).1] at q; cases q).trans (bs b o q)
 have t3 : ([hd0, .ref L, .none, rawInt L, .none] ++ (if pl.isEmpty then List.replicate 6 Value.none else pl)).toArray[3]? = some (rawInt L) := by
  first | (simp; done) | (rcases ip with rfl | ⟨_, _, _, _, _, _, _, rfl⟩ <;> simp)
 generalize ([hd0, .ref L, .none, rawInt L, .none] ++ (if pl.isEmpty then List.replicate 6 Value.none else pl)).toArray = arr at t3 ⊢
 have e2 := Heap.get?_push_of_some (h := h1) { cls := .type "traceback", dict := none, data := .fields arr } e1
 have Te : h1.objs.size ≠ e := Nat.ne_of_gt (Heap.lt_size e1)
 have d3 := Obj.data_mapFields dv (·.setIfInBounds 1 (Value.ref h1.objs.size))
 have e3 := Heap.get?_update_self (Obj.mapFields (·.setIfInBounds 1 (Value.ref h1.objs.size))) e2 (Obj.isFreed_of_fields d3)
 have T3 := (Heap.get?_update_other (h1.push { cls := .type "traceback", dict := none, data := .fields arr }) (Obj.mapFields (·.setIfInBounds 1 (Value.ref h1.objs.size))) (Ne.symm Te)).trans (Heap.get?_push_size h1 rfl)
 have kb : ∀ b o, b ≠ e → h1.get? b = some o → ((h1.push { cls := .type "traceback", dict := none, data := .fields arr }).update e (Obj.mapFields (·.setIfInBounds 1 (Value.ref h1.objs.size)))).get? b = some o := fun b o n q => by
  rw [Heap.get?_update_other _ _ (Ne.symm n)]
  exact Heap.get?_push_of_some _ q
 have nr : ∀ b o, s.heap.get? b = some o → (∀ ws, o.data ≠ .fields ws) → b ≠ e := fun b o q nf z => by
  rw [z, ge] at q
  cases q
  exact nf vs dv
 refine wpAny_setField e2 dv sz (k _ (fun b o q => kb b o (fun z => by rw [z, be] at q; cases q) (b1 b o q)) (ff.of_keeps fun b o q nf => ?_) ⟨_, _, h1.objs.size, _, arr, e3, Obj.cls_mapFields _ _, ?_, by rw [Array.getElem?_setIfInBounds_ne (by decide)]; exact v0, d3, by simp [sz], b1.fresh, Te, T3, rfl, t3⟩ fun b o q nf => ?_)
 ·obtain ⟨sl, q1⟩ := so.2.2 b o q
  exact ⟨_, kb b _ (nr b o q nf) q1, rfl⟩
 ·exact dict_mapFields _ _
 ·obtain ⟨sl, q1⟩ := so.2.2 b o q
  exact ⟨sl, kb b _ (nr b o q nf) q1⟩
theorem note_D {oe : Obj} {vs : Array Value} (fr : A.frames = some (env :: outer)) (ff : s.heap.FunFrames base (env :: outer)) (lf : env.frame = some L) (ge : s.heap.get? e = some oe) (bs : base.StaysIn s.heap) (be : base.get? e = none)
  (dv : oe.data = .fields vs) (v0 : vs[0]? = some a0) (v1 : vs[1]? = some .none ∨ ∃ (T : Addr) (oT : Obj) (ts : Array Value), vs[1]? = some (.ref T) ∧ base.get? T = none ∧ T ≠ e ∧ s.heap.get? T = some oT ∧ oT.data = .fields ts ∧ ts[3]? = some .none)
  (k : ∀ h', base.StaysIn h' → h'.FunFrames base (env :: outer) → TrD h' base e oe.cls a0 oe.dict (rawInt L) → s.heap.UpToSlots h' → Q () { s with heap := h' }) : wpAny M A (noteFrame (.ref e) env) Q E s := by
 unfold noteFrame
 simp only [lf]
 rcases v1 with v1 | ⟨T, oT, ts, v1, bT, Te, gT, dT, t3⟩
 ·refine wpAny_bind (wpAny_field ge dv v1 ?_)
  rw [if_neg (show ¬ ((Value.none != Value.none) = true) by decide)]
  exact entry_D fr ff lf ge bs be dv (Array.getElem?_eq_some_iff.mp v1).1 v0 k
 ·refine wpAny_bind (wpAny_field ge dv v1 ?_)
  rw [if_pos (show (Value.ref T != Value.none) = true by simp)]
  refine wpAny_bind (wpAny_field gT dT t3 ?_)
  rw [if_neg (show ¬ ((Value.none == rawInt (L : Int)) = true) by simp [rawInt])]
  refine wpAny_bind (wpAny_setField gT dT (Array.getElem?_eq_some_iff.mp t3).1 ?_)
  have ot : ∀ b, b ≠ T → (s.heap.update T (Obj.mapFields (·.setIfInBounds 3 Value.none))).get? b = s.heap.get? b := fun b n => Heap.get?_update_other _ _ (Ne.symm n)
  have nr : ∀ b o, s.heap.get? b = some o → (∀ ws, o.data ≠ .fields ws) → b ≠ T := fun b o q nf z => by
   rw [z, gT] at q
   cases q
   exact nf ts dT
  refine entry_D fr (ff.of_keeps fun b o q nf => ⟨o, (ot b (nr b o q nf)).trans q, rfl⟩) lf ((ot e (Ne.symm Te)).trans ge) (fun b o q => (ot b fun z => by rw [z, bT] at q; cases q).trans (bs b o q)) be dv (Array.getElem?_eq_some_iff.mp v1).1 v0 fun h' k1 k2 k3 k4 => k h' k1 k2 k3 fun b o q nf => k4 b o ((ot b (nr b o q nf)).trans q) nf
theorem flight_D {c fl : Value} {dd : Option Addr} {l : List Env} (bs : base.StaysIn s.heap) (ff : s.heap.FunFrames base l) (tr : TrD s.heap base e c a0 dd fl)
  (k : ∀ h', base.StaysIn h' → h'.FunFrames base l → TrD h' base e c a0 dd .none → s.heap.UpToSlots h' → Q () { s with heap := h' }) : wpAny M A (setFlight (.ref e) none) Q E s := by
 obtain ⟨oe, vs, T, oT, ts, ge, hc, hd, v0, dv, v1, bT, Te, gT, dT, t3⟩ := tr
 have s3 : 3 < ts.size := (Array.getElem?_eq_some_iff.mp t3).1
 have ot : ∀ b, b ≠ T → (s.heap.update T (Obj.mapFields (·.setIfInBounds 3 ((none : Option Addr).elim Value.none fun f => rawInt f)))).get? b = s.heap.get? b := fun b n => Heap.get?_update_other _ _ (Ne.symm n)
 have nr : ∀ b o, s.heap.get? b = some o → (∀ ws, o.data ≠ .fields ws) → b ≠ T := fun b o q nf z => by
  rw [z, gT] at q
  cases q
  exact nf ts dT
 unfold setFlight
 refine wpAny_bind (wpAny_field ge dv v1 ?_)
 rw [if_pos (show (Value.ref T != Value.none) = true by simp)]
 refine wpAny_setField gT dT s3 (k _ (fun b o q => (ot b fun z => by rw [z, bT] at q; cases q).trans (bs b o q)) (ff.of_keeps fun b o q nf => ⟨o, (ot b (nr b o q nf)).trans q, rfl⟩) ?_ fun b o q nf => ⟨o.slots, (ot b (nr b o q nf)).trans q⟩)
 exact ⟨oe, vs, T, _, _, (ot e (Ne.symm Te)).trans ge, hc, hd, v0, dv, v1, bT, Te, Heap.get?_update_self _ gT (Obj.isFreed_of_fields (Obj.data_mapFields dT _)), Obj.data_mapFields dT _, by simp [s3]⟩
theorem TrD.note {h : Heap} {c : Value} {dd : Option Addr} (tr : TrD h base e c a0 dd .none) : ∃ (oe : Obj) (vs : Array Value), h.get? e = some oe ∧ oe.cls = c ∧ oe.dict = dd ∧ oe.data = .fields vs ∧ vs[0]? = some a0 ∧ ∃ (T : Addr) (oT : Obj) (ts : Array Value), vs[1]? = some (.ref T) ∧ base.get? T = none ∧ T ≠ e ∧ h.get? T = some oT ∧ oT.data = .fields ts ∧ ts[3]? = some .none := by
 obtain ⟨oe, vs, T, oT, ts, h1, h2, h3, h4, h5, h6⟩ := tr
 exact ⟨oe, vs, h1, h2, h3, h5, h4, T, oT, ts, h6⟩
theorem leave_new {oe : Obj} {vs : Array Value} (fr : A.frames = some (env :: outer)) (ff : s.heap.FunFrames base (env :: outer)) (lf : env.frame = some L) (ge : s.heap.get? e = some oe) (bs : base.StaysIn s.heap) (be : base.get? e = none)
  (dv : oe.data = .fields vs) (v0 : vs[0]? = some a0) (v1 : vs[1]? = some .none) (k : ∀ h', FlyD base outer e oe.cls a0 oe.dict h' → s.heap.UpToSlots h' → Q () { s with heap := h' }) : wpAny M A (leaving env (.ref e)) Q E s := by
 unfold leaving
 refine wpAny_bind (note_D fr ff lf ge bs be dv v0 (.inl v1) fun h1 k1 k2 k3 k4 => ?_)
 refine flight_D k1 k2 k3 fun h2 g1 g2 g3 g4 => k h2 ⟨g1, be, ?_, g3⟩ (k4.trans g4)
 obtain ⟨_, _, g2⟩ := g2
 exact g2
theorem leave_on {c : Value} {dd : Option Addr} (fr : A.frames = some (env :: outer)) (lf : env.frame = some L) (fl : FlyD base (env :: outer) e c a0 dd s.heap) (k : ∀ h', FlyD base outer e c a0 dd h' → s.heap.UpToSlots h' → Q () { s with heap := h' }) : wpAny M A (leaving env (.ref e)) Q E s := by
 obtain ⟨bs, be, ff, tr⟩ := fl
 obtain ⟨oe, vs, ge, rfl, rfl, dv, v0, more⟩ := tr.note
 unfold leaving
 refine wpAny_bind (note_D fr ff lf ge bs be dv v0 (.inr more) fun h1 k1 k2 k3 k4 => ?_)
 refine flight_D k1 k2 k3 fun h2 g1 g2 g3 g4 => k h2 ⟨g1, be, ?_, g3⟩ (k4.trans g4)
 obtain ⟨_, _, g2⟩ := g2
 exact g2
theorem look_D {c : Value} {dd : Option Addr} (fr : A.frames = some (env :: outer)) (lf : env.frame = some L) (fl : FlyD base (env :: outer) e c a0 dd s.heap) (k : ∀ h', HldD base (env :: outer) e c a0 dd L h' → s.heap.UpToSlots h' → Q () { s with heap := h' }) : wpAny M A (noteFrame (.ref e) env) Q E s := by
 obtain ⟨bs, be, ff, tr⟩ := fl
 obtain ⟨oe, vs, ge, rfl, rfl, dv, v0, more⟩ := tr.note
 exact note_D fr ff lf ge bs be dv v0 (.inr more) fun h1 k1 k2 k3 k4 => k h1 ⟨k1, be, k2, k3⟩ k4
theorem land_D {c : Value} {dd : Option Addr} {l : List Env} (hh : HldD base l e c a0 dd L s.heap) (k : ∀ h', FlyD base l e c a0 dd h' → s.heap.UpToSlots h' → Q () { s with heap := h' }) : wpAny M A (setFlight (.ref e) none) Q E s := by
 obtain ⟨bs, be, ff, tr⟩ := hh
 exact flight_D bs ff tr fun h1 k1 k2 k3 k4 => k h1 ⟨k1, be, k2, k3⟩ k4
theorem land_D2 {c : Value} {dd : Option Addr} {l : List Env} (hh : FlyD base l e c a0 dd s.heap) (k : ∀ h', FlyD base l e c a0 dd h' → s.heap.UpToSlots h' → Q () { s with heap := h' }) : wpAny M A (setFlight (.ref e) none) Q E s := by
 obtain ⟨bs, be, ff, tr⟩ := hh
 exact flight_D bs ff tr fun h1 k1 k2 k3 k4 => k h1 ⟨k1, be, k2, k3⟩ k4
end
end L2
end
section
namespace PySem.W
open PySem PySem.Spec PySem.Calls PyProof.Rows Builtin Builtin.ObjectAttr Builtin.Getset_descriptor
abbrev veM : List Value := [.type "ValueError", .type "Exception", .type "BaseException", .type "object"]
section
variable {prog : Program} {w : World} {A : Around} {E : Value → Shared → Prop} {h : Heap} {g : Array GenState} {dr : Drawn} {t : Nat} {os : OsState} {K : Frag}
variable {nm q : Str} {C N B x : Addr} {bs : List Value} {sn : List Str} {sub : List Value} {ab : Bool} {col : Option Bool} {dd : Option Addr} {k0 k1 k2 k3 k5 : Option Value} {name : Str} {v : Value} {o : Obj}
theorem store_exc {tk : Tok} {Q : PySem.Fin → Shared → Prop} (X : K.In h) (hC : h.get? C = some (excClassObj nm q C N bs (.ref B :: veM) true sn sub ab col dd k0 k1 k2 k3 k5 "ValueError.__new__")) (na : findIn K (.ref C) name = some none)
  (hx : h.get? x = some o) (hc : o.cls = .ref C) (hn : o.dict = none) (hnc : ∀ c, o.data ≠ .cls c)
  (k : ∀ h' d tk', h.get? d = none → d ≠ x → h'.Ns1 d (fun y => if y = name then some v else none) → h'.get? x = some { o with dict := some d } → (∀ b ob, b ≠ x → h.get? b = some ob → h'.get? b = some ob) → Q (.done (.ret .none)) ⟨h', g, dr, tk', os⟩) :
  wpAny (model prog w) A (Builtin.«object.__setattr__» ⟨[.ref x, .str name tk, v], []⟩) Q E ⟨h, g, dr, t, os⟩ := by
 have hpass := F.store_ValueError.passes (.ref x)
 have lk := looks_findIn (M := model prog w) X na
 unfold Builtin.«object.__setattr__»
 repeat (first | rw [refuse_eq] | (rw [refuseLoop_ref, refuseLoop_ref, hpass]) | (with_reducible refine wpAny_loadPart_at hx ?_; rw [hc]) | with_reducible refine wpAny_mroOf_exc hC ?_ | (with_reducible refine lk.at ?_) | wp_step)
 rw [hn]
 dsimp only
 rw [if_neg (show ¬ ((!true || !typeHasDict (Value.ref C)) = true) by simp [typeHasDict])]
 have x1 : (h.push { cls := .type "dict", data := .dict #[] }).get? x = some o := Heap.get?_push_of_some _ hx
 have xs : x ≠ h.objs.size := Nat.ne_of_lt (Heap.lt_size hx)
 split
 ·rename_i c hcd
  exact absurd hcd (hnc c)
 ·refine wpAny_bind (wpAny_alloc' (wpAny_bind (wpAny_update' x1 (wpAny_pure ?_))))
  have gd : ((h.push { cls := .type "dict", data := .dict #[] }).update x fun o => { cls := o.cls, dict := some h.objs.size, data := o.data, slots := o.slots }).get? h.objs.size = some { cls := .type "dict", data := .dict #[] } := (Heap.get?_update_ne _ _ _ _ xs.symm).trans (Heap.get?_push_at rfl rfl)
  have nd : ((h.push { cls := .type "dict", data := .dict #[] }).update x fun o => { cls := o.cls, dict := some h.objs.size, data := o.data, slots := o.slots }).Ns h.objs.size (fun _ => none) := ⟨_, #[], _, gd, rfl, fun e he => absurd he (by simp), fun _ => rfl⟩
  show wpAny _ _ (storeInDict h.objs.size (.str name tk) name v) _ _ _
  unfold storeInDict newKeyGuard
  refine wpAny_bind (wpAny_pure (wpAny_bind (wpAny_nsSet1 (Heap.Ns1.of_empty nd) fun h' n' hs => ?_)))
  obtain ⟨oD, eD, pD, gD, dD, cD⟩ := n'.count (Within.cons name v Within.nil)
  refine wpAny_bind (wpAny_lookBehind gD (by rw [dD]; exact pastItsLine_dict (Nat.le_trans cD (by rw [List.length_cons, List.length_nil, sizeLine_eq]; omega))) ?_)
  wp_walk
  refine k h' h.objs.size _ (Heap.get?_none_of_le (Nat.le_refl _)) xs.symm n' ((hs.2 x xs).trans (Heap.get?_update_self _ x1 ?_)) fun b ob n1 e1 => (hs.2 b (Nat.ne_of_lt (Heap.lt_size e1))).trans ((Heap.get?_update_ne _ _ _ _ n1).trans (Heap.get?_push_of_some _ e1))
  have hfr := (Heap.get?_some_iff.mp hx).2
  obtain ⟨oc, od, odt, osl⟩ := o
  cases odt <;> first | rfl | exact hfr
theorem ve_has (T : String) (hT : veM.contains (.type T) = true) : (Value.ref C :: .ref B :: veM).contains (.type T) = true := by
 rw [List.contains_cons, List.contains_cons, hT, Bool.or_true, Bool.or_true]
theorem check_sa_exc {M : Model} {nameV : Value} {Q : Unit → Shared → Prop} (hC : h.get? C = some (excClassObj nm q C N bs (.ref B :: veM) true sn sub ab col dd k0 k1 k2 k3 k5 "ValueError.__new__")) (hx : h.get? x = some o) (hc : o.cls = .ref C) (hq : Q () ⟨h, g, dr, t, os⟩) :
  wpAny M A (checkBuiltinCall "object.__setattr__" ⟨[.ref x, nameV, v], []⟩) Q E ⟨h, g, dr, t, os⟩ := by
 have SF := F.store_ValueError
 have co : (Value.ref C :: .ref B :: veM).contains (.type "object") = true := ve_has "object" (by decide)
 have ha := SF.args (.ref x) nameV v
 simp only [checkBuiltinCall, SF.kind, SF.split]
 refine wpAny_bind ?_
 unfold isInstance
 repeat (first | (with_reducible refine wpAny_loadPart_at hx ?_; rw [hc]) | (with_reducible refine wpAny_isSubtype_exc hC ?_; rw [co]) | wp_step)
 exact hq
theorem setAttr_exc {Q : Unit → Shared → Prop} (X : K.In h) (hC : h.get? C = some (excClassObj nm q C N bs (.ref B :: veM) true sn sub ab col dd k0 k1 k2 k3 k5 "ValueError.__new__")) (sa : findIn K (.ref C) "__setattr__" = some (some (.builtin "object.__setattr__"))) (na : findIn K (.ref C) name = some none)
  (hx : h.get? x = some o) (hc : o.cls = .ref C) (hn : o.dict = none) (hnc : ∀ c, o.data ≠ .cls c)
  (k : ∀ h' d tk', h.get? d = none → d ≠ x → h'.Ns1 d (fun y => if y = name then some v else none) → h'.get? x = some { o with dict := some d } → (∀ b ob, b ≠ x → h.get? b = some ob → h'.get? b = some ob) → Q () ⟨h', g, dr, tk', os⟩) :
  wpAny (model prog w) A (setAttr (.ref x) name v) Q E ⟨h, g, dr, t, os⟩ := by
 have SF := F.store_ValueError
 have f3 := SF.slot.bind (.ref x)
 have lk := looks_findIn (M := model prog w) X sa
 unfold setAttr callSpecial? specialOf
 repeat (any_goals (first | assumption | (with_reducible refine wpAny_loadPart_at hx ?_; rw [hc]) | (with_reducible refine lk.at ?_) | wp_step))
 refine codeAny_call_builtin SF.slot.plain SF.entry (check_sa_exc hC hx hc (store_exc X hC na hx hc hn hnc fun h' d tk' a1 a2 a3 a4 a5 => ?_))
 repeat (any_goals (first | assumption | wp_step))
 exact k h' d _ a1 a2 a3 a4 a5
theorem read_exc {Q : Value → Shared → Prop} {d : Addr} {mA : Str → Option Value} {ex : Bool} (X : K.In h) (hC : h.get? C = some (excClassObj nm q C N bs (.ref B :: veM) true sn sub ab col dd k0 k1 k2 k3 k5 "ValueError.__new__")) (ga : findIn K (.ref C) "__getattribute__" = some (some (.builtin "BaseException.__getattribute__"))) (gh : findIn K (.ref C) "__getattr__" = some none) (be : mroIn K C (.type "BaseException") = some true) (na : findIn K (.ref C) name = some none)
  (hx : h.get? x = some o) (hc : o.cls = .ref C) (hnc : ∀ c, o.data ≠ .cls c) (hd : o.dict = some d) (hn : h.Ns d mA) (hm : mA name = some v) (hv : handedIn v = true) (k : Q v ⟨h, g, dr, t + 1, os⟩) : wpAny (model prog w) A (getAttr (.ref x) name ex) Q E ⟨h, g, dr, t, os⟩ := by
 have t0 : Looks (model prog w) h (typeOf (.ref x)) (.ref C) := hc ▸ (Looks.ld hx).andThen .now
 have t1 := looks_findIn (M := model prog w) X ga
 have t3 := looks_findIn (M := model prog w) X gh
 have t5 := looks_mroIn (M := model prog w) X be
 have t6 := looks_findIn (M := model prog w) X na
 have hx2 : (onTheHeap (Value.ref C) && Value.builtin "BaseException.__getattribute__" == Value.builtin "object.__getattribute__") = false := by
  have : (Value.builtin "BaseException.__getattribute__" == Value.builtin "object.__getattribute__") = false := by decide +kernel
  rw [this, Bool.and_false]
 have hk : builtinKind "BaseException.__getattribute__" = some .slot := by decide +kernel
 have hsplit : splitId "BaseException.__getattribute__" = some ("BaseException", "__getattribute__") := by decide +kernel
 unfold getAttr getAttrBy
 refine wpAny_bind (wpAny_mkText (wpAny_holding (wpAny_bind (t0.at (wpAny_bind (t1.at ?_))))))
 show wpAny _ _ (if (onTheHeap (Value.ref C) && Value.builtin "BaseException.__getattribute__" == Value.builtin "object.__getattribute__") = true then _ else getAttrByItsOwn _ _ _ _ _ _) _ _ _
 rw [hx2, if_neg (by decide)]
 unfold getAttrByItsOwn
 refine wpAny_bind ?_
 show wpAny _ _ (typeLookup (.ref C) "__getattr__") _ _ _
 refine t3.at (wpAny_bind (wpAny_attempt (wpAny_holding ?_)))
 unfold callGetattribute
 try rw [show (ex && onTheHeap (Value.builtin "BaseException.__getattribute__")) = false by cases ex <;> rfl]
 try simp only [Bool.false_eq_true, if_false]
 show wpAny _ _ (boundAndCalled _ _ _) _ _ _
 unfold boundAndCalled
 rw [F.excAttr_ValueError.ga.bind (.ref x)]
 refine wpAny_bind (wpAny_pure ?_)
 show wpAny _ _ (call (.builtin "BaseException.__getattribute__") [.ref x, _]) _ _ _
 refine wpAny_call (codeAny_call_builtin F.excAttr_ValueError.ga.plain F.entry_bexc_ga ?_)
 have ha := F.args_bexc_ga (.ref x) (.str name t)
 simp only [checkBuiltinCall, hk, hsplit]
 unfold isInstance
 repeat lk
 split
 ·rename_i c z
  exact absurd z (hnc c)
 ·unfold instanceDict
  repeat (first | (with_reducible refine wpAny_loadPart_at hx ?_; rw [hc]) | with_reducible refine wpAny_loadPart_at hC ?_ | wp_step)
  rw [hd]
  refine wpAny_pure ?_
  show wpAny _ _ (nsGet d name) _ _ _
  refine wpAny_nsGet hn ?_
  rw [hm]
  refine wpAny_bind (wpAny_rule (wpAny_pure ?_))
  show wpAny _ _ (ret v) _ _ _
  refine wpAny_pure ?_
  show wpAny _ _ (handedOut v) _ _ _
  rw [handedOut_of hv]
  exact wpAny_pure k
theorem init_exc {y : Value} {ta : Addr} {vs : Array Value} {Q : Value → Shared → Prop} (T : OwnTail h veM (.ref B :: veM)) (hC : h.get? C = some (excClassObj nm q C N bs (.ref B :: veM) true sn sub ab col dd k0 k1 k2 k3 k5 "ValueError.__new__"))
  (hx : h.get? x = some o) (hc : o.cls = .ref C) (hd : o.data = .fields vs) (v0 : vs[0]? = some (.ref ta)) (k : Q .none ⟨(h.push { cls := .type "tuple", data := .seq #[y] }).update x (Obj.mapFields (·.setIfInBounds 0 (.ref h.objs.size))), g, dr, t, os⟩) :
  wpAny (model prog w) A (call (.builtin "ValueError.__init__") [.ref x, y]) Q E ⟨h, g, dr, t, os⟩ := by
 have Fb := F.excBase_ValueError
 refine wpAny_call (codeAny_call_builtin Fb.init.plain Fb.initEntry (wpAny_check_init_subT Fb T hC hx hc ?_))
 have x1 := Heap.get?_push_of_some { cls := .type "tuple", data := .seq #[y] } hx
 wp_walk
 rw [hd]
 refine wpAny_pure ?_
 dsimp only
 rw [v0]
 refine wpAny_pure (wpAny_bind (wpAny_setField x1 hd (Array.getElem?_eq_some_iff.mp v0).1 ?_))
 dsimp only
 wp_walk
 exact k
theorem tcall_own {mN : Str → Option Value} {rest : List Value} {fI : Addr} {oI : Obj} {Q : PySem.Fin → Shared → Prop} (T : OwnTail h veM (.ref B :: veM)) (hC : h.get? C = some (excClassObj nm q C N bs (.ref B :: veM) true sn sub ab col dd k0 k1 k2 k3 k5 "ValueError.__new__"))
  (hn : h.Ns N mN) (hi : mN "__init__" = some (.ref fI)) (gI : h.get? fI = some oI) (cI : oI.cls = .type "function")
  (k : ∀ h' e, Heap.MadeExcOf h h' e (.ref C) rest → h.objs.size ≤ e → wpAny (model prog w) A (call (.ref fI) (.ref e :: rest)) (fun r s' => r = .none ∧ Q (.done (.ret (.ref e))) s') E ⟨h', g, dr, t, os⟩) (hz : rest.length ≤ sizeLine) :
  wpAny (model prog w) A (Builtin.«type.__call__» ⟨.ref C :: rest, []⟩) Q E ⟨h, g, dr, t, os⟩ := by
 have Fb := F.excBase_ValueError
 repeat (first | with_reducible refine wpAny_loadPart_at hC ?_ | with_reducible refine wpAny_madeBy_exc hC ?_ | wp_step)
 refine codeAny_call_builtin_code (Code.quiet_builtin _ Fb.quiet) (wpAny_check_new_subT Fb T hC (codeAny_exc_new_subT Fb T hC ?_ hz))
 show wpAny _ _ _ _ _ _
 have kp : ∀ b o, h.get? b = some o → ((h.push { cls := .type "tuple", data := .seq rest.toArray }).push { cls := .ref C, data := .fields #[.ref h.objs.size, .none, .none, .none, .bool false, .none] }).get? b = some o := fun b o e => Heap.get?_push_of_some _ (Heap.get?_push_of_some _ e)
 have gx : ((h.push { cls := .type "tuple", data := .seq rest.toArray }).push { cls := .ref C, data := .fields #[.ref h.objs.size, .none, .none, .none, .bool false, .none] }).get? (h.objs.size + 1) = some { cls := .ref C, data := .fields #[.ref h.objs.size, .none, .none, .none, .bool false, .none] } := by heap_get
 have cC : (Value.ref C :: .ref B :: veM).contains (.ref C) = true := by simp
 have hC1 := kp _ _ hC
 have T1 := T.keeps kp
 unfold isInstance
 repeat (first | with_reducible refine wpAny_loadPart_at gx ?_ | (with_reducible refine wpAny_isSubtype_exc hC1 ?_; rw [cC]) | wp_step)
 show wpAny _ _ (typeLookup (.ref C) _) _ _ _
 refine wpAny_typeLookup_tail hC1 (hn.keeps kp) T1 Fb.mroIs Fb.init.lookup ?_
 rw [hi]
 refine wpAny_holding (wpAny_bind ?_)
 unfold bindSpecial
 refine wpAny_bind (wpAny_typeOf (T := "function") ⟨_, kp _ _ gI, cI⟩ ?_)
 rw [if_pos (show (Value.type "function" == Value.type "function" || Value.type "function" == Value.type "method_descriptor" || Value.type "function" == Value.type "wrapper_descriptor") = true by decide)]
 refine wpAny_pure (wpAny_bind (wpAny_mono (k _ (h.objs.size + 1) ⟨kp, Heap.get?_none_of_le (Nat.le_succ _), h.objs.size, gx, Heap.get?_none_of_le (Nat.le_refl _), Heap.get?_push_of_some _ (Heap.get?_push_at rfl rfl)⟩ (Nat.le_succ _)) (fun r s' hr => ?_) fun _ _ z => z))
 obtain ⟨rfl, hQ⟩ := hr
 wp_walk
 exact hQ
theorem call_own {mN : Str → Option Value} {rest : List Value} {fI : Addr} {oI : Obj} {Q : Value → Shared → Prop} (T : OwnTail h veM (.ref B :: veM)) (hC : h.get? C = some (excClassObj nm q C N bs (.ref B :: veM) true sn sub ab col dd k0 k1 k2 k3 k5 "ValueError.__new__"))
  (hn : h.Ns N mN) (hi : mN "__init__" = some (.ref fI)) (gI : h.get? fI = some oI) (cI : oI.cls = .type "function")
  (k : ∀ h' e, Heap.MadeExcOf h h' e (.ref C) rest → h.objs.size ≤ e → wpAny (model prog w) (A.under (.builtin "type.__call__" ⟨.ref C :: rest, []⟩)) (call (.ref fI) (.ref e :: rest)) (fun r s' => r = .none ∧ Q (.ref e) s') E ⟨h', g, dr, t, os⟩) (hz : rest.length ≤ sizeLine) :
  wpAny (model prog w) A (call (.ref C) rest) Q E ⟨h, g, dr, t, os⟩ := by
 have f1 := tc_lookup
 have f2 := tc_bind (.ref C)
 have hT : (⟨h, g, dr, t, os⟩ : Shared).TypeIs (.ref C) "type" := ⟨_, hC, rfl⟩
 refine wpAny_call (codeAny_of_tree ?_)
 show wpAny _ _ (callAny (.ref C) _) _ _ _
 repeat (any_goals (first | assumption | with_reducible refine wpAny_loadPart_at hC ?_ | wp_step))
 refine ⟨rfl, codeAny_call_builtin_at (Code.quiet_builtin _ (by decide +kernel)) entry_typeCall (wpAny_check_type_call_sub hC (tcall_own T hC hn hi gI cI (fun h' e hm le => ?_) hz))⟩
 exact k h' e hm le
theorem raise_made {M : Model} {env : Env} {s : Shared} {y : Sem Value} {Q : Flow → Shared → Prop} (hh : A.handled = none)
  (k : wpAny M A y (fun v s₁ => ∃ (e ta : Addr) (dc : Option Addr) (sl : Array (Option Value)), v = .ref e ∧ s₁.heap.get? C = some (excClassObj nm q C N bs (.ref B :: veM) true sn sub ab col dd k0 k1 k2 k3 k5 "ValueError.__new__") ∧ s₁.heap.get? e = some { cls := .ref C, dict := dc, data := .fields #[.ref ta, .none, .none, .none, .bool false, .none], slots := sl } ∧ E (.ref e) s₁) E s) : wpAny M A (raiseStmt env (some y) none) Q E s := by
 have cB : (Value.ref C :: .ref B :: veM).contains (.type "BaseException") = true := ve_has "BaseException" (by decide)
 unfold raiseStmt
 refine wpAny_bind (wpAny_mono k (fun v s₁ h₁ => ?_) fun _ _ x => x)
 obtain ⟨e, ta, dc, sl, rfl, hC, he, hE⟩ := h₁
 obtain ⟨hp, gg, dd', tk, oss⟩ := s₁
 repeat (first | with_reducible refine wpAny_loadPart_at he ?_ | with_reducible refine wpAny_loadPart_at hC ?_ | (with_reducible refine wpAny_isSubtype_exc hC ?_; rw [cB]) | wp_step)
 exact wpAny_raiseNew_none hh hE
end
end PySem.W
end
section
namespace L2
open PySem PySem.Spec PyProof.Rows PySem.W
theorem HOk.has {P : Program} {w : World} {H : Hp} {h : Heap} (x : HOk P w H h) {a : Addr} {u : HO} (e : H a = some u) : ∃ o, h.get? a = some o := by
 have lt := x.lt e
 cases q : h.get? a with
 | some o => exact ⟨o, rfl⟩
 | none =>
  exfalso
  have y := x a u e
  cases u with
  | lst xs => obtain ⟨_, _, _, _, z⟩ := y; rw [q] at z; cases z
  | tup xs => obtain ⟨_, _, _, ob, z, _⟩ := y; rw [q] at z; cases z
  | dK kvs => obtain ⟨_, _, _, _, o, _, _, z, _⟩ := y; rw [q] at z; cases z
  | dT kvs => obtain ⟨_, _, _, _, o, _, _, z, _⟩ := y; rw [q] at z; cases z
  | set S n => obtain ⟨o, _, _, _, z, _⟩ := y; rw [q] at z; cases z
  | ins C dx fs => obtain ⟨_, _, _, z, _⟩ := y; rw [q] at z; cases z
  | own y' => obtain ⟨_, z⟩ := y; rw [q] at z; cases z
  | xd fs => obtain ⟨_, ⟨_, _, _, z, _⟩, _⟩ := y; rw [q] at z; cases z
  | rng lo hi => obtain ⟨_, _, _, z⟩ := y; rw [q] at z; cases z
  | frz ob u => obtain ⟨z, _⟩ := y; rw [q] at z; cases z
  | tbl ps => have z : h.get? a = some _ := y; rw [q] at z; cases z
  | met f y' => have z : h.get? a = some _ := y; rw [q] at z; cases z
  | ext φ => obtain ⟨_, ⟨_, z⟩, _⟩ := y; rw [q] at z; cases z
section
variable {P : Program} {w : World} {K : PySem.W.Frag} {mg : Str → Option Value} {base : Heap} {N : List Str} {qual : Str} {scope : Scope} {f : Addr} {cd : Value} {A : Around} {outer : List Env} {s : Shared} {H : Hp} {E : XK}
end
end L2
end
section
namespace L2
open PySem PySem.Spec PyProof.Rows PySem.W
abbrev veM : List Value := [.type "ValueError", .type "Exception", .type "BaseException", .type "object"]
def ExnOk (K : PySem.W.Frag) (C : Addr) : Prop := ∃ (nm q : Str) (N : Addr) (bs bm : List Value) (hdct : Bool) (sn : List Str) (sub : List Value) (ab : Bool) (col : Option Bool) (dd : Option Addr) (k0 k1 k2 k3 k5 : Option Value) (mN : Str → Option Value), mN "__init__" = none ∧
 ∀ h : Heap, K.In h → h.get? C = some (excClassObj nm q C N bs bm hdct sn sub ab col dd k0 k1 k2 k3 k5 "ValueError.__new__") ∧ h.Ns N mN ∧ OwnTail h veM bm
def tRaise (E : XK) (C : Addr) (t : TA) : TS := fun _ σ H => t σ H fun vs H1 => vs.length ≤ 1000 ∧ E (.ref C) none H1
section
variable {P : Program} {w : World} {K : PySem.W.Frag} {mg : Str → Option Value} {base : Heap} {N : List Str} {qual : Str} {scope : Scope} {f : Addr} {cd : Value} {A : Around} {outer : List Env} {s : Shared} {H : Hp} {E : XK}
end
section
variable {X : Cx} {x : Str} {p pos epos : Pos} {e : Expr} {es : List Expr} {t : TA} {k : Nat} {ps : List Str} {sp : Sp}
end
end L2
end
section
namespace L2
open PySem PySem.Spec PyProof.Rows PySem.W
abbrev Cx.held (X : Cx) (x : Addr) : Cx := { X with A := X.A.mark (some (.ref x)), calm := false, xe := fun _ _ => False }
section
variable {X : Cx} {pins : List (Addr × Obj)} {σ : St} {H H' : Hp} {s s' : Shared}
theorem Cx.Ok.held {x : Addr} (ok : X.Ok) : (X.held x).Ok :=
 ⟨ok.mod, ok.kind, ok.glob, ok.blt, ok.above, ok.inj, ok.has, ok.cab, fun z => Bool.noConfusion z, ok.frames, ok.stk, ok.exf, ok.bs, ok.bsz, ok.noex, ok.exfs, ok.funs, ok.frf⟩
theorem Inv.held {x : Addr} (I : Inv X pins σ H s) : Inv (X.held x) pins σ H s := ⟨I.ok.held, I.os, I.bare, I.base, I.loc, I.cell, I.free, I.freeC, I.pin, I.hok, I.len⟩
theorem Inv.unheld {x : Addr} (ok : X.Ok) (I : Inv (X.held x) pins σ H s) : Inv X pins σ H s := ⟨ok, I.os, I.bare, I.base, I.loc, I.cell, I.free, I.freeC, I.pin, I.hok, I.len⟩
theorem name_goes {M : Model} {A : Around} {E : Value → Shared → Prop} {i : Nat} {x : Str} {pos : Pos} {Q : Unit → Shared → Prop} (I : Inv X pins σ H s) (hN : X.N.Nodup) (hi : X.N[i]? = some x) (hk : X.env.scope.names.lookup x = some .local)
  (h : ∀ s', Inv X pins (σ.set i none) H s' → Q () s') : wpAny M A (do bindName X.env x .none; unbindBehindTheSuite X.env x pos) Q E s := by
 obtain ⟨m, hn, hl⟩ := id I.loc
 have hcls : (X.env.scope.kind == .class || (X.env.scope.kind == .module && X.env.locals != X.env.globals)) = false := by rw [I.ok.kind]; rfl
 have cne := I.cne
 refine wpAny_nameGoes_keeps hk hn hcls fun h' v hn' hs => ?_
 obtain ⟨oL, _, _, hoL, _⟩ := id hn
 refine h _ ⟨I.ok, I.os, I.bare, ⟨fun b o e n hb hx => ?_, fun b o e n hb hx => ?_, I.base.free, fun b o e hx => ?_, I.base.tups, I.base.frzs, I.base.tbls⟩, ⟨_, hn', fun j y v' e1 e2 e3 => ?_⟩, fun y c e => ?_, I.free, I.freeC, fun p hp => ?_, fun b ob e => ?_, by simpa using I.len⟩
 ·exact (hs.2 b (Nat.ne_of_lt (Nat.lt_of_lt_of_le (Heap.lt_size e) I.ok.above))).trans (I.base.keep b o e n hb hx)
 ·obtain ⟨sl, e1⟩ := I.base.slot b o e n hb hx
  exact ⟨sl, (hs.2 b (Nat.ne_of_lt (Nat.lt_of_lt_of_le (Heap.lt_size e) I.ok.above))).trans e1⟩
 ·obtain ⟨o', e1⟩ := I.base.there b o e hx
  exact ⟨o', (hs.2 b (Nat.ne_of_lt (Nat.lt_of_lt_of_le (Heap.lt_size e) I.ok.above))).trans e1⟩
 ·by_cases hj : j = i
  ·subst hj
   have hiσ : j < σ.length := by rw [I.len]; exact (List.getElem?_eq_some_iff.mp hi).1
   rw [List.getElem?_set_self hiσ] at e2
   cases e2
  ·rw [List.getElem?_set_ne (Ne.symm hj)] at e2
   obtain ⟨u', r', q⟩ := hl j y v' e1 e2 e3
   refine ⟨u', r', ?_⟩
   rcases q with ⟨k, e⟩ | ⟨k, c, e, z⟩
   ·refine .inl ⟨k, ?_⟩
    have : y ≠ x := fun e => hj (nodup_ix hN e1 (e ▸ hi))
    simp [this, e]
   ·exact .inr ⟨k, c, e, z.sameBut hs (cne y c e)⟩
 ·obtain ⟨w', z⟩ := I.cell y c e
  exact ⟨w', z.sameBut hs (cne y c e)⟩
 ·obtain ⟨e, n, ne, nf, d⟩ := I.pin p hp
  exact ⟨(hs.2 p.1 ne).trans e, n, ne, nf, d⟩
 ·refine (I.hok b ob e).stay (fun c w' hc q => (hs.2 c ?_).trans q) (fun _ q => q) fun _ _ q => q
  rintro rfl
  rcases hc with rfl | hc
  ·rw [I.free] at e; cases e
  ·rw [I.free] at hc; cases hc
end
section
variable {X : Cx} {np hpos pos : Pos} {body suite : List Stmt} {b₀ : Stmt} {tb : XK → TS} {ts : TS}
end
end L2
end
section
namespace PySem.W
open PySem PySem.Spec PySem.Calls PyProof.Rows Builtin Builtin.ObjectAttr Builtin.Getset_descriptor
section
variable {prog : Program} {w : World} {A : Around} {E : Value → Shared → Prop} {s : Shared} {K : Frag} {x C : Addr}
structure ExCls (K : Frag) (C : Addr) : Prop where
 ga : findIn K (.ref C) "__getattribute__" = some (some (.builtin "BaseException.__getattribute__"))
 gh : findIn K (.ref C) "__getattr__" = some none
 be : mroIn K C (.type "BaseException") = some true
 cls : (clsIn K C).isSome = true
 at_ : findIn K (.ref C) "__class__" = some (some (.builtin "object.__class__"))
 sp : specialIn K (.builtin "object.__class__") "__get__" = some (some (.builtin "getset_descriptor.__get__"))
 tk : takesIn K (.builtin "object.__class__") = some true
 ob : mroIn K C (.type "object") = some true
theorem exc_find {M : Model} {h : Heap} (Z : ExCls K C) (X : K.In h) : Looks M h (find (.ref x) (.ref C) "__class__") (.bind (.builtin "getset_descriptor.__get__") (.builtin "object.__class__")) :=
 (looks_findIn X Z.at_).andThen (Looks.andThen (looks_specialIn X Z.sp) (Looks.andThen (a := some (Value.builtin "getset_descriptor.__get__", Value.builtin "object.__class__")) ((looks_takesIn X Z.tk).andThen .now) (Looks.tag .now)))
theorem exc_attr {Q : Option Value → Shared → Prop} (Z : ExCls K C) (X : K.In s.heap) (T : ∀ M, Looks M s.heap (typeOf (.ref x)) (.ref C)) (q : Q (some (.ref C)) { s with toks := s.toks + 1 }) : wpAny (model prog w) A (getAttr? (.ref x) "__class__") Q E s := by
 obtain ⟨hh, gg, dd, tt, oo⟩ := s
 have t0 := T (model prog w)
 have t1 := looks_findIn (M := model prog w) X Z.ga
 have t2 := exc_find (M := model prog w) (x := x) Z X
 have t3 := looks_findIn (M := model prog w) X Z.gh
 have t4 := looks_mroIn (M := model prog w) X Z.ob
 have t5 := looks_mroIn (M := model prog w) X Z.be
 have hx2 : (onTheHeap (Value.ref C) && Value.builtin "BaseException.__getattribute__" == Value.builtin "object.__getattribute__") = false := by
  have : (Value.builtin "BaseException.__getattribute__" == Value.builtin "object.__getattribute__") = false := by decide +kernel
  rw [this, Bool.and_false]
 have hk : builtinKind "BaseException.__getattribute__" = some .slot := by decide +kernel
 have hsplit : splitId "BaseException.__getattribute__" = some ("BaseException", "__getattribute__") := by decide +kernel
 unfold getAttr? getAttrBy? getAttrBy
 refine wpAny_bind (wpAny_mkText (wpAny_bind (wpAny_attempt (wpAny_holding (wpAny_bind (t0.at (wpAny_bind (t1.at ?_))))))))
 show wpAny _ _ (if (onTheHeap (Value.ref C) && Value.builtin "BaseException.__getattribute__" == Value.builtin "object.__getattribute__") = true then _ else getAttrByItsOwn _ _ _ _ _ _) _ _ _
 rw [hx2, if_neg (by decide)]
 unfold getAttrByItsOwn
 refine wpAny_bind ?_
 show wpAny _ _ (typeLookup (.ref C) "__getattr__") _ _ _
 refine t3.at (wpAny_bind (wpAny_attempt (wpAny_holding ?_)))
 show wpAny _ _ (boundAndCalled _ _ _) _ _ _
 unfold boundAndCalled
 rw [F.excAttr_ValueError.ga.bind (.ref x)]
 refine wpAny_bind (wpAny_pure ?_)
 show wpAny _ _ (call (.builtin "BaseException.__getattribute__") [.ref x, _]) _ _ _
 refine wpAny_call (codeAny_call_builtin F.excAttr_ValueError.ga.plain F.entry_bexc_ga ?_)
 have ha := F.args_bexc_ga (.ref x) (.str "__class__" tt)
 simp only [checkBuiltinCall, hk, hsplit]
 unfold isInstance
 repeat ((fail_if_success with_reducible refine wpAny_call ?_); lk)
 refine wpAny_call ?_
 refine codeAny_call_builtin KF.slot_gs.plain KF.entry_gs (KF.slot_gs.check _ _ _ _ _ _ _ _ KF.type_class (KF.args_gs _ _ _) ?_)
 unfold Builtin.«getset_descriptor.__get__» descrGet
 rw [dga_obj]
 refine wpAny_bind (wpAny_pure ?_)
 unfold descrGetter descrCheckInstance descrNameAndClass isInstance
 simp only [KF.owner_class]
 repeat lk
 refine ⟨Code.quiet_builtin _ (by decide +kernel), codeAny_builtin KF.entry_class ?_⟩
 unfold Builtin.«object.__class__» shownTypeOf
 repeat lk
 exact q
theorem kitx_exc (Z : ExCls K C) : KitX K (.ref x) (.ref C) (fun h => ∃ o, h.get? x = some o ∧ o.cls = .ref C) where
 ty := fun M h _ p => by
  obtain ⟨o, e, c⟩ := p
  exact c ▸ (Looks.ld e).andThen .now
 it := fun _ _ X _ => by
  obtain ⟨cd, hc⟩ := Option.isSome_iff_exists.mp Z.cls
  unfold clsIn at hc
  split at hc
  ·rename_i ho
   intro A' Q' E' s' k q
   unfold isType loadHead
   exact wpAny_bind (wpAny_loadPart (k _ _ (X _ _ ho)) (wpAny_pure q))
  ·cases hc
 ne := fun h tp dd its n sl X htp => by
  refine Bool.eq_false_iff.mpr fun q => ?_
  obtain rfl : C = tp := Value.ref.inj (beq_iff_eq.mp q)
  obtain ⟨cd, hc⟩ := Option.isSome_iff_exists.mp Z.cls
  unfold clsIn at hc
  split at hc
  ·rename_i ho
   have z := (X _ _ ho).symm.trans htp
   cases z
  ·cases hc
 ca := fun X p k => exc_attr Z X (fun M => by obtain ⟨o, e, c⟩ := p; exact c ▸ (Looks.ld e).andThen .now) k
end
end PySem.W
namespace L2
open PySem PySem.Spec PyProof.Rows PySem.W
section
variable {X : Cx} {p pos : Pos} {e : Expr} {es : List Expr} {t : TA}
theorem e_clsX (x : Str) {a : Addr} {mg' : Str → Option Value} (hm : mg' x = some (.ref a)) (hX : X.mg = mg') (hg : gB X x = true := by kernel_rfl) (hd : (x == ("__debug__" : Str)) = false := by kernel_rfl) : PE X (.Name x pos) (tC (.ref a)) :=
 pe_glob (gl_of hg) (by rw [hX]; exact hm) rfl hd
theorem e_tyVE {mg' : Str → Option Value} (hm : mg' "ValueError" = none) (hX : X.mg = mg') (hg : gB X "ValueError" = true := by kernel_rfl) : PE X (.Name "ValueError" pos) (tC (.ty "ValueError")) :=
 pe_bltn (gl_of hg) (by rw [hX]; exact hm) (u := .type "ValueError") (by first | rfl | kernel_rfl | exact PyProof.Rows.Boot.«ValueError») rfl
end
end L2
end
section
namespace L2
open PySem PySem.Spec PyProof.Rows PySem.W
def ExcD (a : Addr) (c : Value) (dd : Option Addr) : HO := .ext fun h => ∃ o, h.get? a = some o ∧ o.cls = c ∧ o.dict = dd ∧ ∃ vs, o.data = .fields vs
theorem ExcD.mk {P : Program} {w : World} {H : Hp} {h : Heap} {a : Addr} {c : Value} {dd : Option Addr} {o : Obj} {vs : Array Value} (e : h.get? a = some o) (hc : o.cls = c) (hd : o.dict = dd) (hv : o.data = .fields vs) : ObjOk P w H h a (ExcD a c dd) :=
 ⟨⟨o, e, hc, hd, vs, hv⟩, ⟨o, e⟩, fun h1 h2 ⟨o1, e1, c1⟩ k => ⟨o1, k o1 e1, c1⟩⟩
def CX2 (P : Program) (w : World) : CXT := fun outer H s E e s' => ∃ (x : Addr) (c a0 : Value) (dd : Option Addr) (B : Heap) (H' : Hp), e = .ref x ∧ s'.os = s.os ∧ AllBare s'.gens ∧ Un (frs outer) [] H H' s.heap s'.heap ∧ HOk P w H' s'.heap ∧ FlyD B outer x c a0 dd s'.heap ∧
 (∀ b o, s.heap.get? b = some o → H b = none → b ∉ frs outer → B.get? b = some o) ∧ (∀ b o, s.heap.get? b = some o → b ∉ frs outer → ∃ o', B.get? b = some o') ∧ (∀ b u, H' b = some u → ∀ o, s'.heap.get? b = some o → B.get? b = some o) ∧ E c dd H'
section
variable {P : Program} {w : World} {K : PySem.W.Frag} {mg : Str → Option Value} {base : Heap} {N : List Str} {qual : Str} {scope : Scope} {f : Addr} {cd : Value} {A : Around} {outer : List Env} {s : Shared} {H : Hp} {E : XK}
def ExcN (x C : Addr) (dd : Option Addr) : HO := .ext fun h => ∃ (ta : Addr) (sl : Array (Option Value)), h.get? x = some { cls := .ref C, dict := dd, data := .fields #[.ref ta, .none, .none, .none, .bool false, .none], slots := sl }
theorem ExcN.mk {P : Program} {w : World} {H : Hp} {h : Heap} {x C : Addr} {dd : Option Addr} {ta : Addr} {sl : Array (Option Value)} (e : h.get? x = some { cls := .ref C, dict := dd, data := .fields #[.ref ta, .none, .none, .none, .bool false, .none], slots := sl }) : ObjOk P w H h x (ExcN x C dd) :=
 ⟨⟨ta, sl, e⟩, ⟨_, e⟩, fun h1 h2 ⟨t1, s1, e1⟩ k => ⟨t1, s1, k _ e1⟩⟩
theorem esc3 {pins : List (Addr × Obj)} {σ : St} {H3 : Hp} {s3 : Shared} {x C : Addr} {dd : Option Addr} (I : Inv (cxOf (CX2 P w) P w K mg base N qual scope f cd A outer s H E) pins σ H3 s3) (hx : H3 x = some (ExcN x C dd)) (nx : ∀ b o, s.heap.get? b = some o → b ≠ x)
  (q : E (.ref C) dd (fun b => if b = x then none else H3 b)) : (cxOf (CX2 P w) P w K mg base N qual scope f cd A outer s H E).xe (.ref x) s3 := by
 obtain ⟨⟨ta, sl, gx⟩, _⟩ := I.hok x _ hx
 have fr : s3.heap.FunFrames base (envOfC qual scope s.heap.objs.size f cd :: outer) := I.stack
 have free : ∀ b ∈ frs (envOfC qual scope s.heap.objs.size f cd :: outer), H3 b = none := I.stkFree
 have un : Un (frs outer) [] H H3 s.heap s3.heap := I.base
 have notL : ∀ b o, s.heap.get? b = some o → b ∉ frs outer → b ∉ frs (envOfC qual scope s.heap.objs.size f cd :: outer) := fun b o e n hm => by
  have hm' : b ∈ s.heap.objs.size :: frs outer := hm
  rcases List.mem_cons.mp hm' with z | z
  ·exact absurd (Heap.lt_size e) (by rw [z]; exact Nat.lt_irrefl _)
  ·exact n z
 have wo : ∀ b u, H3 b = some u → b ≠ x → (fun b => if b = x then none else H3 b) b = some u := fun b u e n => by
  show (if b = x then none else H3 b) = some u
  rw [if_neg n]; exact e
 have wo' : ∀ b u, (fun b => if b = x then none else H3 b) b = some u → b ≠ x ∧ H3 b = some u := fun b u e => by
  have e : (if b = x then none else H3 b) = some u := e
  by_cases z : b = x
  ·rw [if_pos z] at e; cases e
  ·rw [if_neg z] at e; exact ⟨z, e⟩
 have hid : ∀ b o, s3.heap.get? b = some o → b ≠ x → b ∉ frs (envOfC qual scope s.heap.objs.size f cd :: outer) → (hideAll s3.heap (x :: frs (envOfC qual scope s.heap.objs.size f cd :: outer))).get? b = some o := fun b o e n m => hideAll_get _ e fun z => (List.mem_cons.mp z).elim n m
 refine leave_new (base := hideAll s3.heap (x :: frs (envOfC qual scope s.heap.objs.size f cd :: outer))) (L := s.heap.objs.size) I.ok.frames (funFrames_hide fr fun env he b hb => List.mem_cons_of_mem _ (List.mem_filterMap.mpr ⟨env, he, hb⟩)) rfl gx (fun b o z => of_hideAll _ z) (hideAll_none _ (List.mem_cons_self ..)) rfl rfl rfl fun h3 fl up => ?_
 have stay : ∀ b o, s3.heap.get? b = some o → b ≠ x → b ∉ frs (envOfC qual scope s.heap.objs.size f cd :: outer) → h3.get? b = some o := fun b o e n m => fl.1 b o (hid b o e n m)
 have trk : ∀ b u, H3 b = some u → b ∉ frs (envOfC qual scope s.heap.objs.size f cd :: outer) := fun b u e hm => by rw [free b hm] at e; cases e
 refine ⟨x, _, _, _, _, (fun b => if b = x then none else H3 b), rfl, I.os, I.bare, ⟨fun b o e n nf _ => ?_, fun b o e n hf _ => ?_, fun b o e n hb => ?_, fun b o e hb => ?_, fun b xs e => ?_, fun b o u e => ?_, fun b ps e => ?_⟩, fun b u e => ?_, fl, fun b o e n nf => ?_, fun b o e nf => ?_, fun b u e o ho => ?_, q⟩
 ·exact stay b o (un.keep b o e n nf (by simp)) (nx b o e) (notL b o e nf)
 ·obtain ⟨sl, e1⟩ := un.slot b o e n hf (by simp)
  have hm : b ∈ frs (envOfC qual scope s.heap.objs.size f cd :: outer) := List.mem_cons_of_mem _ hf
  obtain ⟨_, o', ho', nd⟩ := fr.mem hm
  rw [e1] at ho'
  cases ho'
  obtain ⟨sl2, e2⟩ := up b _ e1 nd
  exact ⟨sl2, e2⟩
 ·show (if b = x then none else H3 b) = none
  rw [un.free b o e n hb]
  split <;> rfl
 ·obtain ⟨o', e1⟩ := un.there b o e hb
  by_cases hm : b ∈ frs (envOfC qual scope s.heap.objs.size f cd :: outer)
  ·obtain ⟨_, o2, ho2, nd⟩ := fr.mem hm
   obtain ⟨sl2, e2⟩ := up b _ ho2 nd
   exact ⟨_, e2⟩
  ·exact ⟨o', stay b o' e1 (nx b o e) hm⟩
 ·have e' := un.tups b xs e
  exact wo b _ e' fun z => by rw [z, hx] at e'; cases e'
 ·have e' := un.frzs b o u e
  exact wo b _ e' fun z => by rw [z, hx] at e'; cases e'
 ·obtain ⟨m, e'⟩ := un.tbls b ps e
  exact ⟨m, wo b _ e' fun z => by rw [z, hx] at e'; cases e'⟩
 ·obtain ⟨nb, e⟩ := wo' b u e
  refine (I.hok b u e).stay (fun b' u' hb' e' => ?_) (fun b' z => ?_) fun b' xs z => ?_
  ·rcases hb' with rfl | z
   ·exact stay _ u' e' nb (trk _ _ e)
   ·exact stay _ u' e' (fun y => by rw [y, hx] at z; cases z) (trk _ _ z)
  ·exact wo _ _ z fun y => by rw [y, hx] at z; cases z
  ·exact wo _ _ z fun y => by rw [y, hx] at z; cases z
 ·exact hid b o (un.keep b o e n nf (by simp)) (nx b o e) (notL b o e nf)
 ·obtain ⟨o', e1⟩ := un.there b o e (by simp)
  exact ⟨o', hid b o' e1 (nx b o e) (notL b o e nf)⟩
 ·obtain ⟨nb, e⟩ := wo' b u e
  obtain ⟨o1, e1⟩ := I.hok.has e
  have := stay b o1 e1 nb (trk b u e)
  rw [ho] at this
  cases this
  exact hid b o e1 nb (trk b u e)
theorem pass2 {E' : XK} (hE : ∀ c dd H', E' c dd H' → E c dd H') : Passes (CX2 P w) (cxOf (CX2 P w) P w K mg base N qual scope f cd A outer s H E) E' := by
 rintro pins σ H1 s1 e s' I ⟨x, c, a0, dd, B, H', rfl, os, bare, un, ok', fl, k1, k3, k2, q⟩
 refine leave_on (L := s.heap.objs.size) I.ok.frames rfl fl fun h3 fl3 up => ?_
 obtain ⟨f1, f2, f3, f4⟩ := id fl
 have nofr : x ∉ frs (envOfC qual scope s.heap.objs.size f cd :: outer) := fun hm => by
  obtain ⟨_, o, ho, nd⟩ := f3.mem hm
  obtain ⟨oe, vs, _, _, _, he, _, _, _, hd, _⟩ := f4
  rw [he] at ho
  cases ho
  exact nd vs hd
 have unA : Un (frs outer) [] H H1 s.heap s1.heap := I.base
 have unB : Un (frs (envOfC qual scope s.heap.objs.size f cd :: outer)) [] H1 H' s1.heap s'.heap := un
 have notL : ∀ b o, s.heap.get? b = some o → b ∉ frs outer → b ∉ frs (envOfC qual scope s.heap.objs.size f cd :: outer) := fun b o e n hm => by
  have hm' : b ∈ s.heap.objs.size :: frs outer := hm
  rcases List.mem_cons.mp hm' with z | z
  ·exact absurd (Heap.lt_size e) (by rw [z]; exact Nat.lt_irrefl _)
  ·exact n z
 have freeS : ∀ b ∈ frs (envOfC qual scope s.heap.objs.size f cd :: outer), H1 b = none := I.stkFree
 have inB : ∀ b o, s.heap.get? b = some o → H b = none → b ∉ frs outer → B.get? b = some o := fun b o e n nf => k1 b o (unA.keep b o e n nf (by simp)) (unA.free b o e n (by simp)) (notL b o e nf)
 have inB3 : ∀ b o, s.heap.get? b = some o → b ∉ frs outer → ∃ o', B.get? b = some o' := fun b o e nf => by
  obtain ⟨o', e1⟩ := unA.there b o e (by simp)
  exact k3 b o' e1 (notL b o e nf)
 refine ⟨x, c, a0, dd, B, H', rfl, os.trans I.os, bare, ⟨fun b o e n nf _ => fl3.1 b o (inB b o e n nf), fun b o e n hf _ => ?_, fun b o e n hb => ?_, fun b o e hb => ?_, fun b xs e => unB.tups b xs (unA.tups b xs e), fun b o u e => unB.frzs b o u (unA.frzs b o u e), fun b ps e => ?_⟩, fun b u e => ?_, fl3, inB, inB3, fun b u e o ho => ?_, hE _ _ _ q⟩
 ·have hm : b ∈ frs (envOfC qual scope s.heap.objs.size f cd :: outer) := List.mem_cons_of_mem _ hf
  obtain ⟨sl, e1⟩ := unA.slot b o e n hf (by simp)
  obtain ⟨sl2, e2⟩ := unB.slot b _ e1 (freeS b hm) hm (by simp)
  obtain ⟨_, o', ho', nd⟩ := f3.mem hm
  rw [e2] at ho'
  cases ho'
  obtain ⟨sl3, e3⟩ := up b _ e2 nd
  exact ⟨sl3, e3⟩
 ·obtain ⟨o', e1⟩ := unA.there b o e hb
  exact unB.free b o' e1 (unA.free b o e n hb) (by simp)
 ·by_cases hm : b ∈ frs (envOfC qual scope s.heap.objs.size f cd :: outer)
  ·obtain ⟨_, o2, ho2, nd⟩ := f3.mem hm
   obtain ⟨sl2, e2⟩ := up b _ ho2 nd
   exact ⟨_, e2⟩
  ·obtain ⟨o', q'⟩ := inB3 b o e fun z => hm (List.mem_cons_of_mem _ z)
   exact ⟨o', fl3.1 b o' q'⟩
 ·obtain ⟨m1, e1⟩ := unA.tbls b ps e
  obtain ⟨m2, e2⟩ := unB.tbls b _ e1
  exact ⟨m1 ++ m2, by rw [e2, Array.append_assoc]⟩
 ·refine (ok' b u e).stay (fun b' u' hb' e' => ?_) (fun _ z => z) fun _ _ z => z
  rcases hb' with rfl | z
  ·exact fl3.1 _ u' (k2 _ _ e u' e')
  ·exact fl3.1 _ u' (k2 _ _ z u' e')
 ·obtain ⟨o1, e1⟩ := ok'.has e
  have b1 := k2 b u e o1 e1
  have := fl3.1 b o1 b1
  rw [ho] at this
  cases this
  exact b1
end
end L2
end
section
namespace L2
open PySem PySem.Spec PyProof.Rows PySem.W
def ExnI (K : PySem.W.Frag) (C fI : Addr) : Prop := ∃ (nm q : Str) (N B : Addr) (bs : List Value) (sn : List Str) (sub : List Value) (ab : Bool) (col : Option Bool) (dd : Option Addr) (k0 k1 k2 k3 k5 : Option Value) (mN : Str → Option Value) (oI : Obj), mN "__init__" = some (.ref fI) ∧ oI.cls = .type "function" ∧
 ∀ h : Heap, K.In h → h.get? C = some (excClassObj nm q C N bs (.ref B :: PySem.W.veM) true sn sub ab col dd k0 k1 k2 k3 k5 "ValueError.__new__") ∧ h.Ns N mN ∧ OwnTail h PySem.W.veM (.ref B :: PySem.W.veM) ∧ h.get? fI = some oI
def spInit (C : Addr) : Sp := fun vs H Q _ => match vs with
 | [.ref x, .int n] => (0 ≤ n ∧ n < 2048) ∧ H x = some (ExcN x C none) ∧ ∀ d, H d = none → d ≠ x → Q .non (upd (upd H x (ExcN x C (some d))) d (.xd [("at", .int n)]))
 | _ => False
section
variable {X : Cx} {pins : List (Addr × Obj)} {σ : St} {H : Hp} {s : Shared} {C fI : Addr} {fd : FuncData} {k : Nat}
theorem run_makeX {n : Int} {u : Value} {Q : Value → Shared → Prop} (Z : ExnI X.K C fI) (F : FnOk X.prog X.w X.K X.mg X.base CX0 k fI fd ["self", "at"] (spInit C)) (hr : Room (k + 1) X.A) (hb : Binds X.K fd ["self", "at"] []) (I : Inv X pins σ H s) (ru : RelV (.int n) u) (hn : 0 ≤ n ∧ n < 2048)
  (q : ∀ x d s', Inv X pins σ (upd (upd H x (ExcN x C (some d))) d (.xd [("at", .int n)])) s' → s.heap.get? x = none → H x = none → H d = none → d ≠ x → Q (.ref x) s') : wpAny (model X.prog X.w) X.A (call (.ref C) [u]) Q X.xe s := by
 obtain ⟨nm, q', N, B, bs, sn, sub, ab, col, dd, k0, k1, k2, k3, k5, mN, oI, hi, cI, hK⟩ := Z
 obtain ⟨hC, hN, hT, gI⟩ := hK s.heap I.kIn
 obtain ⟨hp, gg, dr, tk, os⟩ := s
 refine call_own hT hC hN hi gI cI (fun h' e hm le => ?_) (by show 1 ≤ sizeLine; decide)
 obtain ⟨ta, ge, _, _⟩ := hm.there
 have nH : H e = none := I.hok.fresh le
 have I2 : Inv X pins σ (upd H e (ExcN e C none)) ⟨h', gg, dr, tk, os⟩ := I.laid (a := e) (o := ExcN e C none) (t' := tk) hm.keeps le (ExcN.mk ge)
 have r2 : Vals [V.ref e, V.int n] [Value.ref e, u] := .cons rfl (.cons ru .nil)
 have sp : spInit C [V.ref e, V.int n] (upd H e (ExcN e C none)) (fun v H3 => v = .non ∧ ∃ d, H d = none ∧ d ≠ e ∧ H3 = upd (upd H e (ExcN e C (some d))) d (.xd [("at", .int n)])) E0 := ⟨hn, upd_same, fun d hd ne => ⟨rfl, d, by rw [upd_ne ne] at hd; exact hd, ne, by rw [upd_upd]⟩⟩
 refine wpAny_call (codeAny_mono (F.run _ X.stack _ _ ⟨[Value.ref e, u], []⟩ [Value.ref e, u] _ _ E0 (hr.make C [u] []) (I2.env0.make C [u] []) (hb _ [Value.ref e, u] I2.kIn rfl) r2 sp) fun r s' hq' => ?_)
 cases r with
 | error z => exact False.elim hq'
 | ok fl =>
  cases fl with
  | ret v =>
   obtain ⟨v', H', I3, rv, ev, d, hd, ne, eH⟩ := I2.after hq'
   subst ev
   subst eH
   exact ⟨rv, q e d s' I3 hm.new nH hd ne⟩
  | next => exact False.elim hq'
  | brk => exact False.elim hq'
  | cont => exact False.elim hq'
end
def tRaiseW (E : XK) (C : Addr) (t : TA) : TS := fun _ σ H => t σ H fun vs H1 => ∃ n : Int, vs = [.int n] ∧ (0 ≤ n ∧ n < 2048) ∧ ∀ d, H1 d = none → E (.ref C) (some d) (upd H1 d (.xd [("at", .int n)]))
section
variable {P : Program} {w : World} {K : PySem.W.Frag} {mg : Str → Option Value} {base : Heap} {N : List Str} {qual : Str} {scope : Scope} {f : Addr} {cd : Value} {A : Around} {outer : List Env} {s : Shared} {H : Hp} {E : XK}
theorem s_raiseW {x : Str} {C fI : Addr} {fd : FuncData} {k : Nat} {np cpos pos : Pos} {e : Expr} {t : TA} (Z : ExnI K C fI) (F : FnOk P w K mg base CX0 k fI fd ["self", "at"] (spInit C)) (hb : Binds K fd ["self", "at"] []) (hm : mg x = some (.ref C)) (hk : PySem.W.keepIn K (.ref C) = true)
  (hr : Room (k + 1) (cxOf (CX2 P w) P w K mg base N qual scope f cd A outer s H E).A) (ha : PA (cxOf (CX2 P w) P w K mg base N qual scope f cd A outer s H E) [e] t)
  (hg : gB (cxOf (CX2 P w) P w K mg base N qual scope f cd A outer s H E) x = true := by kernel_rfl) (hdb : (x == ("__debug__" : Str)) = false := by kernel_rfl)
  (he : starEach [e] (cxOf (CX2 P w) P w K mg base N qual scope f cd A outer s H E).env = (false, eval e (cxOf (CX2 P w) P w K mg base N qual scope f cd A outer s H E).env) :: starEach [] (cxOf (CX2 P w) P w K mg base N qual scope f cd A outer s H E).env := by kernel_rfl)
  (hpl : (backTo cpos (starEach [] (cxOf (CX2 P w) P w K mg base N qual scope f cd A outer s H E).env)).any (·.1) = false := by kernel_rfl) :
  PS (cxOf (CX2 P w) P w K mg base N qual scope f cd A outer s H E) (.Raise (some (.Call (.Name x np) [e] [] cpos)) none pos) (tRaiseW E C t) := by
 intro pins s1 σ H1 D I h
 obtain ⟨nm, q', Nn, B, bs, sn, sub, ab, col, dd, k0, k1, k2, k3, k5, mN, oI, hi, cI, hK⟩ := id Z
 rw [arm_exec_Raise]
 refine wpAny_bind (wpAny_standAt ?_)
 refine raise_made (C := C) (nm := nm) (q := q') (N := Nn) (B := B) (bs := bs) (sn := sn) (sub := sub) (ab := ab) (col := col) (dd := dd) (k0 := k0) (k1 := k1) (k2 := k2) (k3 := k3) (k5 := k5) (I.ok.hd rfl) (wpAny_bind ?_)
 refine wpAny_Call_Name_kw (ld_glob I (gl_of hg) hm ?_ hdb)
 refine PySem.W.callWith_K (h₀ := base) I.ok.mod.kin hk (thn (ha cpos pins s1 σ H1 _ I h) fun us s2 z => ?_) he hpl
 obtain ⟨vs, H2, I2, r, n, rfl, hn, q⟩ := z
 refine ⟨I2.kIn, ?_⟩
 obtain ⟨u, rfl, ru⟩ := vals1 r
 refine run_makeX Z F hr hb I2 ru hn fun y d s3 I3 ny Hy Hd ne => wpAny_bind (wpAny_standAt (wpAny_pure ?_))
 have hy : upd (upd H2 y (ExcN y C (some d))) d (.xd [("at", .int n)]) y = some (ExcN y C (some d)) := by rw [upd_ne (Ne.symm ne), upd_same]
 obtain ⟨⟨ta, sl, gy⟩, _⟩ := I3.hok y _ hy
 refine ⟨y, ta, some d, sl, rfl, (hK s3.heap I3.kIn).1, gy, esc3 I3 hy (fun b o eb z => ?_) ?_⟩
 ·have un : Un (frs outer) [] H H2 s.heap s2.heap := I2.base
  obtain ⟨o', e'⟩ := un.there b o eb (by simp)
  rw [z, ny] at e'
  cases e'
 ·have eH : (fun b => if b = y then none else upd (upd H2 y (ExcN y C (some d))) d (.xd [("at", .int n)]) b) = upd H2 d (.xd [("at", .int n)]) := by
   funext b
   by_cases z : b = y
   ·rw [if_pos z, z, upd_ne (Ne.symm ne), Hy]
   ·rw [if_neg z]
    by_cases z2 : b = d
    ·rw [z2, upd_same, upd_same]
    ·rw [upd_ne z2, upd_ne z2, upd_ne z]
  rw [eH]
  exact q d Hd
end
end L2
end
section
namespace L2
open PySem PySem.Spec PyProof.Rows PySem.W
structure ExnB (K : PySem.W.Frag) (B : Addr) : Prop where
 ga : PySem.W.specialIn K (.ref B) "__getattribute__" = some (some (.builtin "type.__getattribute__"))
 rd : PySem.W.readsIn K B (.type "type") = true
 fc : PySem.W.findCls K (.ref B) (.type "type") "__init__" = some (.val (.builtin "ValueError.__init__"))
structure ExnS (K : PySem.W.Frag) (C : Addr) : Prop where
 sa : PySem.W.findIn K (.ref C) "__setattr__" = some (some (.builtin "object.__setattr__"))
 na : PySem.W.findIn K (.ref C) "at" = some none
section
variable {X : Cx} {p pos apos epos : Pos} {b : Str} {B C fI : Addr} {e : Expr} {es : List Expr} {t : TA} {mg' : Str → Option Value}
def tInit1 (C : Addr) (t : TA) : TE := fun σ H Q => t σ H fun vs H1 => ∃ x z, vs = [.ref x, .str z] ∧ H1 x = some (ExcN x C none) ∧ Q .non H1
theorem upd_self {H : Hp} {x : Addr} {o : HO} (h : H x = some o) : upd H x o = H := by
 funext b
 by_cases z : b = x
 ·rw [z, upd_same, h]
 ·rw [upd_ne z]
theorem e_init1 {pl : Sem Bool} (Z : ExnI X.K C fI) (W : ExnB X.K B) (hm : mg' b = some (.ref B)) (hX : X.mg = mg') (ha : PA X (e :: es) t)
  (hg : gB X b = true := by kernel_rfl) (hdb : (b == ("__debug__" : Str)) = false := by kernel_rfl) (hst : starEach (e :: es) X.env = (false, eval e X.env) :: starEach es X.env := by kernel_rfl) (hpl : (backTo pos (starEach es X.env)).any (·.1) = false := by kernel_rfl)
  (ht : eval (.Call (.Attribute (.Name b p) "__init__" apos) (e :: es) [] pos) X.env = (do
   let ov ← eval (.Name b p) X.env
   standAt apos.atName
   let (f, first) ← holding [ov] (getMethod ov "__init__" pl)
   callWith pos f first (backTo pos (starEach (e :: es) X.env)) (backToKw pos (keywordEach [] X.env))) := by rfl) :
  PE X (.Call (.Attribute (.Name b p) "__init__" apos) (e :: es) [] pos) (tInit1 C t) := by
 obtain ⟨nm, q', Nn, B', bs, sn, sub, ab, col, dd, k0, k1, k2, k3, k5, mN, oI, hi, cI, hK⟩ := Z
 intro pins s σ H Q I h
 refine PySem.W.methodCall_KW (pl := pl) (ld_glob I (gl_of hg) (by rw [hX]; exact hm) ?_ hdb) ht
 refine PySem.W.method_cls I.kIn W.ga (PySem.W.cls_value I.kIn W.rd W.fc rfl ?_)
 refine PyProof.Rows.callWith_builtin1 (thn (ha pos pins _ σ H _ (I.tok _) h) fun us s2 z => ?_) hst hpl
 obtain ⟨vs, H1, I1, r, x, z, rfl, hx, q⟩ := z
 obtain ⟨u, v, rfl, r1, r2⟩ := vals2 r
 cases r1
 obtain ⟨⟨ta, sl, gx⟩, _⟩ := I1.hok x _ hx
 obtain ⟨hC, hN, hT, gI⟩ := hK s2.heap I1.kIn
 obtain ⟨hp, gg, dr, tk, os⟩ := s2
 show wpAny _ _ (call (.builtin "ValueError.__init__") [.ref x, v]) _ _ _
 refine init_exc hT hC gx rfl rfl rfl ?_
 have gx2 := Heap.get?_push_of_some { cls := .type "tuple", data := .seq #[v] } gx
 have I2 : Inv X pins σ H1 ⟨hp.push { cls := .type "tuple", data := .seq #[v] }, gg, dr, tk, os⟩ := I1.kept fun b o e => Heap.get?_push_of_some _ e
 have gx3 := Heap.get?_update_self (Obj.mapFields (·.setIfInBounds 0 (.ref hp.objs.size))) gx2 rfl
 have I3 := I2.write (x := x) (e := x) (o := ExcN x C none) (t' := tk) (by rw [hx]; exact True.intro) (.inl rfl) (h' := (hp.push { cls := .type "tuple", data := .seq #[v] }).update x (Obj.mapFields (·.setIfInBounds 0 (.ref hp.objs.size)))) (fun b o n e => (Heap.get?_update_other _ _ (Ne.symm n)).trans e) ⟨_, gx3⟩ (ExcN.mk (ta := hp.objs.size) (sl := sl) gx3)
 rw [upd_self hx] at I3
 exact ⟨.non, H1, I3, rfl, q⟩
end
section
variable {X : Cx} {pos pos' : Pos} {C fI : Addr} {o value : Expr} {ta tv : TE}
def sAt (C : Addr) (ta tv : TE) : TS := fun D σ H => tv σ H fun y H1 => ta σ H1 fun x H2 => ∃ a, x = .ref a ∧ H2 a = some (ExcN a C none) ∧ ∀ d, H2 d = none → d ≠ a → D.nx σ (upd (upd H2 a (ExcN a C (some d))) d (.xd [("at", y)]))
theorem s_at (Z : ExnI X.K C fI) (S : ExnS X.K C) (ha : PE X o ta) (hv : PE X value tv) (hs : swapsWith value (some (.Attribute o "at" pos')) pos.line X.env = pure false := by kernel_rfl) : PS X (.Assign [.Attribute o "at" pos'] value pos) (sAt C ta tv) := by
 obtain ⟨nm, q', Nn, B', bs, sn, sub, ab, col, dd, k0, k1, k2, k3, k5, mN, oI, hi, cI, hK⟩ := Z
 intro pins s σ H D I h
 refine plainObj_wpAny_Assign_Attribute (thn (hv pins s σ H _ I h) fun u s1 z => ?_) hs
 obtain ⟨y, H1, I1, ry, q⟩ := z
 refine thn (ha pins s1 σ H1 _ I1 q) fun ov s2 z => ?_
 obtain ⟨x, H2, I2, rx, a, rfl, hx, q2⟩ := z
 cases rx
 obtain ⟨⟨tt, sl, gx⟩, _⟩ := I2.hok a _ hx
 obtain ⟨hC, hN, hT, gI⟩ := hK s2.heap I2.kIn
 have kin := I2.kIn
 obtain ⟨hp, gg, dr, tk, os⟩ := s2
 refine setAttr_exc kin hC S.sa S.na gx rfl rfl (fun c z => nomatch z) fun h' d tk' nd ne ns gx' kp => ?_
 have Hd : H2 d = none := by
  cases e : H2 d with
  | none => rfl
  | some u' =>
   obtain ⟨o', e'⟩ := I2.hok.has e
   have e' : hp.get? d = some o' := e'
   rw [nd] at e'
   cases e'
 have tn : ∀ b u', H2 b = some u' → b ≠ a → upd (upd H2 a (ExcN a C (some d))) d (.xd [("at", y)]) b = some u' := fun b u' e n => by
  rw [upd_ne (fun z => by rw [z, Hd] at e; cases e), upd_ne n]; exact e
 have un : Un (frs X.stack) [] H2 (upd (upd H2 a (ExcN a C (some d))) d (.xd [("at", y)])) hp h' := by
  have na : ∀ b, H2 b = none → b ≠ a := fun b n z => by rw [z, hx] at n; cases n
  refine ⟨fun b o' e n _ _ => kp b o' (na b n) e, fun b o' e n _ _ => ⟨o'.slots, kp b o' (na b n) e⟩, fun b o' e n _ => ?_, fun b o' e _ => ?_, fun b xs e => ?_, fun b o' u' e => ?_, fun b ps e => ?_⟩
  ·rw [upd_ne (fun z => by rw [z, nd] at e; cases e), upd_ne (na b n)]; exact n
  ·by_cases z : b = a
   ·rw [z]; exact ⟨_, gx'⟩
   ·exact ⟨o', kp b o' z e⟩
  ·exact tn b _ e fun z => by rw [z, hx] at e; cases e
  ·exact tn b _ e fun z => by rw [z, hx] at e; cases e
  ·exact ⟨#[], by rw [Array.append_empty]; exact tn b _ e fun z => by rw [z, hx] at e; cases e⟩
 have ok : HOk X.prog X.w (upd (upd H2 a (ExcN a C (some d))) d (.xd [("at", y)])) h' := fun b u' e => by
  by_cases z1 : b = d
  ·subst z1
   rw [upd_same] at e
   cases e
   refine ⟨_, ns, fun f => ?_⟩
   show RelO (List.lookup f [("at", y)]) (if f = ("at" : Str) then some u else none)
   by_cases z : f = ("at" : Str)
   ·subst z
    rw [if_pos rfl]
    exact ry
   ·rw [if_neg z, List.lookup_cons, beq_false_of_ne z]
    exact True.intro
  ·rw [upd_ne z1] at e
   by_cases z2 : b = a
   ·subst z2
    rw [upd_same] at e
    cases e
    exact ExcN.mk gx'
   ·rw [upd_ne z2] at e
    refine (I2.hok b u' e).stay (fun b' o' hb' e' => ?_) (fun b' z => tn b' _ z fun y => by rw [y, hx] at z; cases z) fun b' xs z => tn b' _ z fun y => by rw [y, hx] at z; cases z
    rcases hb' with rfl | z
    ·exact kp _ o' z2 e'
    ·exact kp _ o' (fun y => by rw [y, hx] at z; cases z) e'
 exact ⟨σ, _, I2.call' (s' := ⟨h', gg, dr, tk', os⟩) (ch := []) rfl un ok I2.bare (fun b z => absurd z (by simp)), q2 d Hd ne⟩
end
end L2
end
section
namespace L2
open PySem PySem.Spec PyProof.Rows PySem.W
section
variable {X : Cx} {p pos : Pos} {e : Expr} {es : List Expr} {t : TA} {ta : TE}
def tAt (K : PySem.W.Frag) (ta : TE) : TE := fun σ H Q => ta σ H fun x H1 => ∃ a C fI d y, x = .ref a ∧ ExnI K C fI ∧ ExnS K C ∧ PySem.W.ExCls K C ∧ H1 a = some (ExcD a (.ref C) (some d)) ∧ H1 d = some (.xd [("at", y)]) ∧ Q y H1
theorem e_at (he : PE X e ta) (hb : attributeBase e "at" X.env (eval e X.env) = eval e X.env := by kernel_rfl) : PE X (.Attribute e "at" pos) (tAt X.K ta) := by
 intro pins s σ H Q I h
 refine attr_of hb (thn (he pins s σ H _ I h) fun o s1 z => ?_)
 obtain ⟨x, H1, I1, rx, a, C, fI, d, y, rfl, Z, S, Zc, hx, hd, q⟩ := z
 cases rx
 obtain ⟨nm, q', Nn, B', bs, sn, sub, ab, col, dd, k0, k1, k2, k3, k5, mN, oI, hi, cI, hK⟩ := Z
 obtain ⟨⟨o, gx, hc, hdd, vs, hv⟩, _⟩ := I1.hok a _ hx
 obtain ⟨mA, ns, rel⟩ := I1.hok d _ hd
 obtain ⟨u, hu, ru⟩ := RelO.some_of (v := y) (o := mA "at") (by
  have := rel "at"
  have e1 : List.lookup ("at" : Str) [("at", y)] = some y := by rw [List.lookup_cons]; simp
  rw [e1] at this
  exact this)
 obtain ⟨hC, hN, hT, gI⟩ := hK s1.heap I1.kIn
 have kin := I1.kIn
 have I2 := I1.tok (s1.toks + 1)
 obtain ⟨hp, gg, dr, tk, os⟩ := s1
 exact read_exc kin hC Zc.ga Zc.gh Zc.be S.na gx hc (fun c z => by rw [hv] at z; cases z) hdd ns.ns hu (handed_of ru) ⟨y, H1, I2, ru, q⟩
def rIsY (K : PySem.W.Frag) : List V → Hp → VK → Prop := fun vs H Q => match vs with
 | [.ref x, .ref D] => ∃ C dd b, PySem.W.ExCls K C ∧ H x = some (ExcD x (.ref C) dd) ∧ (PySem.W.kitOne K (.ref C) (.ref D) = some b ∨ ∃ ds : List Addr, H D = some (.tup (ds.map V.ref)) ∧ PySem.W.kitAny K (.ref C) (ds.map Value.ref) = some b) ∧ Q (.bl b) H
 | [.ref x, .ty T] => ∃ C dd b, PySem.W.ExCls K C ∧ H x = some (ExcD x (.ref C) dd) ∧ PySem.W.kitOne K (.ref C) (.type T) = some b ∧ Q (.bl b) H
 | _ => False
theorem vals_refs : ∀ {ds : List Addr} {us : List Value}, Vals (ds.map V.ref) us → us = ds.map Value.ref
 | [], _, r => by cases r; rfl
 | d :: ds, _, r => by
  cases r with
  | cons r1 r2 =>
   cases r1
   rw [vals_refs r2]; rfl
theorem call_isY : CallR X (.builtin "isinstance") (rIsY X.K) := by
 intro pins s σ H vs us Q I r h
 unfold rIsY at h
 split at h
 ·rename_i x D
  obtain ⟨C, dd, b, Z, hx, k, q⟩ := h
  obtain ⟨u, w', rfl, r1, r2⟩ := vals2 r
  cases r1
  cases r2
  obtain ⟨⟨o, gx, hc, _⟩, _⟩ := I.hok x _ hx
  rcases k with k | ⟨ds, hD, k⟩
  ·exact kia_one (kitx_exc Z) I.kIn ⟨o, gx, hc⟩ k (by intro z; cases z) fun tk => ⟨.bl b, H, I.tok _, rfl, q⟩
  ·obtain ⟨_, its, rv, o2, g2, c2, n2, d2⟩ := I.hok D _ hD
   have ei := vals_refs rv
   subst ei
   obtain ⟨oc, od, odt, osl⟩ := o2
   dsimp only at c2 d2
   subst c2
   subst d2
   exact kia_tup (kitx_exc Z) I.kIn ⟨o, gx, hc⟩ g2 k (by intro z; cases z) fun tk => ⟨.bl b, H, I.tok _, rfl, q⟩
 ·rename_i x T
  obtain ⟨C, dd, b, Z, hx, k, q⟩ := h
  obtain ⟨u, w', rfl, r1, r2⟩ := vals2 r
  cases r1
  obtain rfl : w' = .type T := r2
  obtain ⟨⟨o, gx, hc, _⟩, _⟩ := I.hok x _ hx
  exact kia_one (kitx_exc Z) I.kIn ⟨o, gx, hc⟩ k (by intro z; cases z) fun tk => ⟨.bl b, H, I.tok _, rfl, q⟩
 ·exact h.elim
theorem fn_isY {mg' : Str → Option Value} (hm : mg' "isinstance" = none) (hX : X.mg = mg') (ha : PA X (e :: es) t) (hg : gB X "isinstance" = true := by kernel_rfl) (he : starEach (e :: es) X.env = (false, eval e X.env) :: starEach es X.env := by kernel_rfl) (hpl : (backTo pos (starEach es X.env)).any (·.1) = false := by kernel_rfl) :
  PE X (.Call (.Name "isinstance" p) (e :: es) [] pos) (tCB (rIsY X.K) t) := pe_callB call_isY (gl_of hg) (by rw [hX]; exact hm) PyProof.Rows.boot_isinstance ha (he := he) (hpl := hpl)
end
def CanY (P : Program) (w : World) (K : PySem.W.Frag) (mg : Str → Option Value) (base : Heap) (x : Str) (k : Nat) (ps : List Str) (sp : Sp) : Prop :=
 ∃ f fd, FnOk P w K mg base (CX2 P w) k f fd ps sp ∧ mg x = some (.ref f) ∧ PySem.W.keepIn K (.ref f) = true ∧ Binds K fd ps []
section
variable {P : Program} {w : World} {K : PySem.W.Frag} {mg : Str → Option Value} {base : Heap} {N : List Str} {qual : Str} {scope : Scope} {f : Addr} {cd : Value} {A : Around} {outer : List Env} {s : Shared} {H : Hp} {E : XK}
theorem canY_fn {x : Str} {st : Stmt} {N ps : List Str} {k : Nat} {sp : Sp} (D : FnX K mg x st ps) (S : FnScope N ps (defScope st)) (len : ∀ vs H Q E, sp vs H Q E → vs.length = ps.length)
  (hbody : ∀ (f : Addr) (cdv : Value) (A : Around) (outer : List Env) (s : Shared) (H : Hp) (vs : List V) (Q : VK) (E : XK), Room k (A.deeper (envOfC x (defScope st) s.heap.objs.size f cdv)) → sp vs H Q E →
   ∃ t, PSs (cxOf (CX2 P w) P w K mg base N x (defScope st) f cdv A outer s H E) (defBody st) t ∧ t { nx := fun _ H' => Q .non H', rt := Q } (start N vs) H) : CanY P w K mg base x (k + 1) ps sp := by
 obtain ⟨f, fd, F, hm, hb⟩ := D
 obtain ⟨oc, od, kV, doc, pm, an, cdv, ct, osl, rfl, lk, hcd⟩ := F.ex
 exact ⟨f, _, fn_of lk hcd S len fun A outer s H vs Q E hr hsp => hbody f cdv A outer s H vs Q E hr hsp, hm, F.kp, hb⟩
theorem fn_canY (x : Str) {p pos : Pos} {e : Expr} {es : List Expr} {t : TA} {k : Nat} {ps : List Str} {sp : Sp} (C : CanY P w K mg base x k ps sp) (hr : Room k (cxOf (CX2 P w) P w K mg base N qual scope f cd A outer s H E).A) (ha : PA (cxOf (CX2 P w) P w K mg base N qual scope f cd A outer s H E) (e :: es) t)
  (hg : gB (cxOf (CX2 P w) P w K mg base N qual scope f cd A outer s H E) x = true := by kernel_rfl) (hdb : (x == ("__debug__" : Str)) = false := by kernel_rfl)
  (he : starEach (e :: es) (cxOf (CX2 P w) P w K mg base N qual scope f cd A outer s H E).env = (false, eval e (cxOf (CX2 P w) P w K mg base N qual scope f cd A outer s H E).env) :: starEach es (cxOf (CX2 P w) P w K mg base N qual scope f cd A outer s H E).env := by kernel_rfl)
  (hpl : (backTo pos (starEach es (cxOf (CX2 P w) P w K mg base N qual scope f cd A outer s H E).env)).any (·.1) = false := by kernel_rfl) :
  PE (cxOf (CX2 P w) P w K mg base N qual scope f cd A outer s H E) (.Call (.Name x p) (e :: es) [] pos) (tCall sp [] E t) := by
 obtain ⟨g, fd, F, hm, hk, hb⟩ := C
 exact pe_call (X := cxOf (CX2 P w) P w K mg base N qual scope f cd A outer s H E) F hr (gl_of hg) hm hk hb .nil (pass2 fun _ _ _ q => q) ha hdb he hpl
end
end L2
end
section
namespace L2
open PySem PySem.Spec PyProof.Rows PySem.W
def PB2 (X : Cx) (st : List Stmt) (t : XK → TS) : Prop :=
 ∀ (pins : List (Addr × Obj)) (s : Shared) (σ : St) (H : Hp) (D : Ends) (E : XK), Inv X pins σ H s → t E D σ H →
  wpAny (model X.prog X.w) X.A (execs st X.env) (SP X pins D) (fun e s' => ∃ H1 s1, Inv X pins σ H1 s1 ∧ CX2 X.prog X.w X.stack H1 s1 E e s') s
section
variable {X : Cx} {x : Str} {p pos epos : Pos} {e : Expr} {es : List Expr} {t : TA} {k : Nat} {ps : List Str} {sp : Sp}
def tCanY (sp : Sp) (t : TA) : XK → TS := fun E D σ H => t σ H fun vs H1 => sp vs H1 (fun _ H2 => D.nx σ H2) E
theorem pb_callY (x : Str) {P' : Program} {w' : World} {K' : PySem.W.Frag} {mg' : Str → Option Value} {base' : Heap} (C : CanY P' w' K' mg' base' x k ps sp) (hX : X.prog = P' ∧ X.w = w' ∧ X.K = K' ∧ X.mg = mg' ∧ X.base = base') (hr : Room k X.A) (ha : PA X.nox (e :: es) t)
  (hg : gB X x = true := by kernel_rfl) (hdb : (x == ("__debug__" : Str)) = false := by kernel_rfl) (he : starEach (e :: es) X.env = (false, eval e X.env) :: starEach es X.env := by kernel_rfl) (hpl : (backTo pos (starEach es X.env)).any (·.1) = false := by kernel_rfl)
  (hs : swapsWith (.Call (.Name x p) (e :: es) [] pos) none epos.line X.env = pure false := by kernel_rfl) : PB2 X [.Expr (.Call (.Name x p) (e :: es) [] pos) epos] (tCanY sp t) := by
 obtain ⟨rfl, rfl, rfl, rfl, rfl⟩ := hX
 obtain ⟨f, fd, F, hm, hk, hb⟩ := C
 intro pins s σ H D E I h
 refine wpAny_execs_cons (wpAny_Expr_any ?_ I.quiet hs)
 refine wpAny_Call_Name_kw (ld_glob I (gl_of hg) hm ?_ hdb)
 refine PySem.W.callWith_K (h₀ := X.base) I.ok.mod.kin hk (wpAny_mono (ha pos pins s σ H _ (I.wish _) h) (fun us s1 z => ?_) fun _ _ z => z.elim) he hpl
 obtain ⟨vs, H1, I1, r, q⟩ := z
 have I1 := I1.unwish
 refine ⟨I1.kIn, ?_⟩
 have hl : us.length = ps.length := by rw [← r.length]; exact F.len _ _ _ _ q
 have hbs : BindsTo s1 fd ⟨us, []⟩ (ps.zip us) := by have := hb s1 us I1.kIn (by rw [List.append_nil]; exact hl); rw [List.append_nil] at this; exact this
 refine wpAny_call (codeAny_mono (F.run X.A X.stack s1 H1 ⟨us, []⟩ us vs _ E hr I1.env0 hbs r q) fun rr s' hq => ?_)
 cases rr with
 | error e => exact ⟨H1, s1, I1, hq⟩
 | ok fl =>
  cases fl with
  | ret u =>
   obtain ⟨v, H2, I2, _, q2⟩ := I1.after hq
   exact wpAny_execs_nil ⟨σ, H2, I2, q2⟩
  | next => exact False.elim hq
  | brk => exact False.elim hq
  | cont => exact False.elim hq
end
section
variable {X : Cx} {pins : List (Addr × Obj)} {σ : St} {H H' : Hp} {s s' : Shared}
theorem land2 {x : Addr} {c a0 : Value} {dd : Option Addr} {B h6 : Heap} (I : Inv X pins σ H s) (os : s'.os = s.os) (bare : AllBare s'.gens) (un : Un (frs X.stack) [] H H' s.heap s'.heap) (hok : HOk X.prog X.w H' s'.heap) (fl : FlyD B X.stack x c a0 dd s'.heap)
  (k1 : ∀ b o, s.heap.get? b = some o → H b = none → b ∉ frs X.stack → B.get? b = some o) (k3 : ∀ b o, s.heap.get? b = some o → b ∉ frs X.stack → ∃ o', B.get? b = some o') (k2 : ∀ b u, H' b = some u → ∀ o, s'.heap.get? b = some o → B.get? b = some o)
  (st : B.StaysIn h6) (up : s'.heap.UpToSlots h6) {ox : Obj} {vx : Array Value} (hx : h6.get? x = some ox) (hc : ox.cls = c) (hd : ox.dict = dd) (hv : ox.data = .fields vx) : Inv X pins σ (upd H' x (ExcD x c dd)) { s' with heap := h6 } := by
 obtain ⟨f1, f2, f3, f4⟩ := fl
 have xH : H' x = none := by
  cases q : H' x with
  | none => rfl
  | some u =>
   obtain ⟨o, ho⟩ := hok.has q
   rw [k2 x u q o ho] at f2
   cases f2
 have nofr : x ∉ frs X.stack := fun hm => by
  obtain ⟨_, o, ho, nd⟩ := f3.mem hm
  obtain ⟨oe, vs, T, oT, ts, he, _, _, _, hd, _⟩ := f4
  rw [he] at ho
  cases ho
  exact nd vs hd
 have old : ∀ b o, s.heap.get? b = some o → b ≠ x := fun b o e z => by
  by_cases hm : b ∈ frs X.stack
  ·exact nofr (z ▸ hm)
  ·obtain ⟨o', q⟩ := k3 b o e hm
   rw [z, f2] at q
   cases q
 have trk : ∀ b u, H b = some u → b ≠ x := fun b u e => by
  obtain ⟨o, ho⟩ := I.hok.has e
  exact old b o ho
 have un' : Un (frs X.stack) [] H (upd H' x (ExcD x c dd)) s.heap h6 := by
  refine ⟨fun b o e n nf _ => st b o (k1 b o e n nf), fun b o e n hf hb => ?_, fun b o e n hb => ?_, fun b o e hb => ?_, fun b xs e => ?_, fun b o u e => ?_, fun b ps e => ?_⟩
  ·obtain ⟨sl, e1⟩ := un.slot b o e n hf hb
   obtain ⟨_, o', ho', nd⟩ := f3.mem hf
   rw [e1] at ho'
   cases ho'
   obtain ⟨sl2, e2⟩ := up b _ e1 nd
   exact ⟨sl2, e2⟩
  ·rw [upd_ne (old b o e)]
   exact un.free b o e n hb
  ·by_cases hm : b ∈ frs X.stack
   ·obtain ⟨_, o2, ho2, nd⟩ := f3.mem hm
    obtain ⟨sl2, e2⟩ := up b _ ho2 nd
    exact ⟨_, e2⟩
   ·obtain ⟨o', q⟩ := k3 b o e hm
    exact ⟨o', st b o' q⟩
  ·rw [upd_ne (trk b _ e)]; exact un.tups b xs e
  ·rw [upd_ne (trk b _ e)]; exact un.frzs b o u e
  ·rw [upd_ne (trk b _ e)]; exact un.tbls b ps e
 have hok' : HOk X.prog X.w (upd H' x (ExcD x c dd)) h6 := fun b u e => by
  by_cases hb : b = x
  ·subst hb
   rw [upd_same] at e
   cases e
   exact ExcD.mk hx hc hd hv
  ·rw [upd_ne hb] at e
   refine (hok b u e).stay (fun b' u' hb' e' => ?_) (fun b' z => by rw [upd_ne (ne_of_none z xH)]; exact z) fun b' xs z => by rw [upd_ne (ne_of_none z xH)]; exact z
   rcases hb' with rfl | z
   ·exact st b' u' (k2 b' u e u' e')
   ·exact st b' u' (k2 b' _ z u' e')
 exact I.call' (s' := { s' with heap := h6 }) (ch := []) os un' hok' bare (fun b z => absurd z (by simp))
end
section
variable {X : Cx} {np hpos pos : Pos} {body suite : List Stmt} {b₀ : Stmt} {tb : XK → TS} {ts : TS}
def tTry2 (K : PySem.W.Frag) (B : Addr) (i : Nat) (tb : XK → TS) (ts : TS) : TS := fun D σ H => tb (fun c dd H' => exmOne K c (.ref B) = some true ∧ ∀ x, H' x = none → ts { nx := fun σ2 H2 => D.nx (σ2.set i none) H2, rt := fun _ _ => False } (σ.set i (some (.ref x))) (upd H' x (ExcD x c dd))) D σ H
theorem s_try2 (x n : Str) (i : Nat) {B : Addr} {mg' : Str → Option Value} (hm : mg' x = some (.ref B)) (hX : X.mg = mg') (hN : X.N.Nodup) (hb : PB2 X body tb) (hs : ∀ a, PSs (X.held a) (b₀ :: suite) ts)
  (hst : X.stack = X.env :: X.outer ∧ X.env.frame = some X.env.locals := by exact ⟨rfl, rfl⟩) (hi : X.N[i]? = some n := by with_unfolding_all rfl) (hk : (X.env.scope.names.lookup n == some .local) = true := by kernel_rfl) (hg : gB X x = true := by kernel_rfl) (hdb : (x == ("__debug__" : Str)) = false := by kernel_rfl) :
  PS X (.Try body [.ExceptHandler (some (.Name x np)) (some n) (b₀ :: suite) hpos] [] [] pos) (tTry2 X.K B i tb ts) := by
 have hk : X.env.scope.names.lookup n = some .local := eq_of_beq hk
 intro pins s σ H D I h
 refine wpAny_Try_except (wpAny_mono (hb pins s σ H D _ I h) (fun fl s1 z => ?_) fun e s1 z => ?_)
 ·cases fl with
  | next => exact wpAny_execs_nil z
  | _ => exact z
 ·obtain ⟨H1, s1', I1, y, c, a0, dd, Bs, H2, rfl, os, bare, un, hok, fl, k1, k3, k2, hx, q⟩ := z
  have frm : X.A.frames = some (X.env :: X.outer) := by rw [I1.ok.frames, hst.1]
  have fl' : FlyD Bs (X.env :: X.outer) y c a0 dd s1.heap := by rw [← hst.1]; exact fl
  have xH : H2 y = none := by
   cases z : H2 y with
   | none => rfl
   | some u =>
    obtain ⟨o, ho⟩ := hok.has z
    have := fl.2.1
    rw [k2 y u z o ho] at this
    cases this
  refine look_D frm hst.2 fl' fun h4 held4 up4 => ?_
  refine land_D held4 fun h5 fl5 up5 => ?_
  obtain ⟨o5, v5, _, _, _, hy5, hc5, hd5, _, hv5, _⟩ := id fl5.2.2.2
  have I5 := land2 I1 os bare un hok fl k1 k3 k2 fl5.1 (up4.trans up5) hy5 hc5 hd5 hv5
  refine wpAny_handleBy_cons (codeAny_handlers_test (wpAny_noRaise (ld_glob (I5.held (x := y)) (gl_of (X := X.held y) hg) (by show X.mg x = _; rw [hX]; exact hm) ?_ hdb))) (by intro z; cases z)
  refine wpAny_noRaise ((exm_one (I5.kIn) (by have := (Looks.ld (part := none) hy5).andThen (f := fun o => pure o.cls) (M := model X.prog X.w) Looks.now; rw [hc5] at this; exact this) hx).here ?_)
  refine codeAny_handlers_suite_as ?_
  refine land_D2 fl5 fun h6 fl6 up6 => ?_
  obtain ⟨o6, v6, _, _, _, hy6, hc6, hd6, _, hv6, _⟩ := id fl6.2.2.2
  have I6 := land2 I1 os bare un hok fl k1 k3 k2 fl6.1 ((up4.trans up5).trans up6) hy6 hc6 hd6 hv6
  refine store_ok (X := X.held y) (v := .ref y) I6.held hN hi (.inl hk) rfl (fun s7 I7 => ?_) (.inr hk)
  refine wpAny_mono (hs y pins s7 _ _ _ I7 (q y xH)) (fun fl8 s8 z8 => ?_) fun _ _ z8 => z8.elim
  cases fl8 with
  | next =>
   obtain ⟨σ8, H8, I8, q8⟩ := z8
   exact name_goes (I8.unheld I1.ok) hN hi hk fun s9 I9 => ⟨_, H8, I9, q8⟩
  | brk => obtain ⟨_, _, _, q8⟩ := z8; exact q8.elim
  | cont => obtain ⟨_, _, _, q8⟩ := z8; exact q8.elim
  | ret u => obtain ⟨_, _, _, _, _, q8⟩ := z8; exact q8.elim
end
end L2
end
section
namespace L2
open PySem PySem.Spec PyProof.Rows PySem.W
def CanH (P : Program) (w : World) (K : PySem.W.Frag) (mg : Str → Option Value) (base : Heap) (x : Str) (k : Nat) (ps : List Str) (sp : Sp) : Prop :=
 ∃ f fd, (∀ vs H Q E, sp vs H Q E → vs.length = ps.length) ∧ (∀ (y : Addr) (A : Around) (outer : List Env) (s : Shared) (H : Hp) (args : Args) (us : List Value) (vs : List V) (Q : VK), Room k A → Env0 P w K mg base A outer s H → BindsTo s fd args (ps.zip us) → Vals vs us → sp vs H Q E0 →
  codeAny (model P w) (A.mark (some (.ref y))) (.call (.ref f) args) (CR CX0 outer P w H s Q E0) s) ∧ mg x = some (.ref f) ∧ PySem.W.keepIn K (.ref f) = true ∧ Binds K fd ps []
section
variable {P : Program} {w : World} {K : PySem.W.Frag} {mg : Str → Option Value} {base : Heap}
theorem canH_fn {x : Str} {st : Stmt} {N ps : List Str} {k : Nat} {sp : Sp} (D : FnX K mg x st ps) (S : FnScope N ps (defScope st)) (len : ∀ vs H Q E, sp vs H Q E → vs.length = ps.length)
  (hbody : ∀ (y f : Addr) (cdv : Value) (A : Around) (outer : List Env) (s : Shared) (H : Hp) (vs : List V) (Q : VK), Room k (A.deeper (envOfC x (defScope st) s.heap.objs.size f cdv)) → sp vs H Q E0 →
   ∃ t, PSs ((cxOf CX0 P w K mg base N x (defScope st) f cdv A outer s H E0).held y) (defBody st) t ∧ t { nx := fun _ H' => Q .non H', rt := Q } (start N vs) H) : CanH P w K mg base x (k + 1) ps sp := by
 obtain ⟨f, fd, F, hm, hbd⟩ := D
 obtain ⟨oc, od, kV, doc, pm, an, cdv, ct, osl, rfl, lk, hcd⟩ := F.ex
 refine ⟨f, _, len, fun y A outer s H args us vs Q hr e0 hb r hsp => ?_, hm, F.kp, hbd⟩
 have hl := len _ _ _ _ hsp
 have KX : K.In s.heap := e0.mod.kin.keeps fun b o e => (e0.bs b o e).1
 have lim : s.heap.NoLimit := e0.mod.nolimit.keeps fun b o e => (e0.bs b o e).1
 have hkind : ∀ z ∈ ps.zip us, (defScope st).names.lookup z.1 = some .local ∨ ((defScope st).names.lookup z.1 = some .cell ∧ ((cellsFrom (s.heap.objs.size + 1) (defScope st).names []).lookup z.1).isSome = true) := fun ⟨n, v⟩ hy => by
  rcases S.par n (List.of_mem_zip hy).1 with q | q
  ·exact .inl q
  ·exact .inr ⟨q, PySem.W.cellsFrom_some _ _ _ (.inl q)⟩
 refine codeAny_call_function (A := A.mark (some (.ref y))) hr.depth (KX _ _ lk) rfl S.co S.gen rfl (PySem.W.codeRec_of KX hcd) (hb _ _ _ _ ?_)
 refine wpAny_newFunctionEnv_cells S.kind hkind fun env he s1 xx => ?_
 subst he
 refine ⟨lim.keeps xx.toInCall.keep, codeAny_func ?_⟩
 obtain ⟨t, ht, hq⟩ := hbody y f cdv A outer s H vs Q (hr.deeper _) hsp
 have I : Inv (cxOf CX0 P w K mg base N x (defScope st) f cdv A outer s H E0) [] (start N vs) H s1 := inv_start S hr.hd e0 hl r xx
 refine wpAny_mono (ht [] s1 (start N vs) H _ I.held hq) (fun fl s' hs => ?_) fun e s' hs => hs.elim
 have fin : ∀ {σ' : St} {H' : Hp} {v : V} {u : Value}, Inv ((cxOf CX0 P w K mg base N x (defScope st) f cdv A outer s H E0).held y) [] σ' H' s' → RelV v u → Q v H' → CE outer P w H s Q u s' :=
  fun {σ' H' v u} J rv q => ⟨v, H', J.os, J.bare, J.base, J.hok, rv, q⟩
 cases fl with
 | ret u =>
  obtain ⟨v, σ', H', J, rv, q⟩ := hs
  exact fin J rv q
 | next =>
  obtain ⟨σ', H', J, q⟩ := hs
  exact fin (v := V.non) (u := Value.none) J rfl q
 | brk =>
  obtain ⟨_, _, _, q⟩ := hs
  exact False.elim q
 | cont =>
  obtain ⟨_, _, _, q⟩ := hs
  exact False.elim q
end
section
variable {X : Cx} {y : Addr} {p pos : Pos} {e : Expr} {es : List Expr} {t : TA} {k : Nat} {ps : List Str} {sp : Sp}
theorem fn_canH (x : Str) {P' : Program} {w' : World} {K' : PySem.W.Frag} {mg' : Str → Option Value} {base' : Heap} (C : CanH P' w' K' mg' base' x k ps sp) (hX : X.prog = P' ∧ X.w = w' ∧ X.K = K' ∧ X.mg = mg' ∧ X.base = base') (hr : Room k X.A) (ha : PA (X.held y) (e :: es) t)
  (hg : gB (X.held y) x = true := by kernel_rfl) (hdb : (x == ("__debug__" : Str)) = false := by kernel_rfl) (he : starEach (e :: es) X.env = (false, eval e X.env) :: starEach es X.env := by kernel_rfl) (hpl : (backTo pos (starEach es X.env)).any (·.1) = false := by kernel_rfl) :
  PE (X.held y) (.Call (.Name x p) (e :: es) [] pos) (tCan sp t) := by
 obtain ⟨rfl, rfl, rfl, rfl, rfl⟩ := hX
 obtain ⟨f, fd, len, run, hm, hk, hb⟩ := C
 intro pins s σ H Q I h
 refine wpAny_Call_Name_kw (ld_glob I (gl_of hg) hm ?_ hdb)
 refine PySem.W.callWith_K (h₀ := X.base) I.ok.mod.kin hk (thn (ha pos pins s σ H _ I h) fun us s1 z => ?_) he hpl
 obtain ⟨vs, H1, I1, r, q⟩ := z
 refine ⟨I1.kIn, ?_⟩
 have hl : us.length = ps.length := by rw [← r.length]; exact len _ _ _ _ q
 have hbs : BindsTo s1 fd ⟨us, []⟩ (ps.zip us) := by have := hb s1 us I1.kIn (by rw [List.append_nil]; exact hl); rw [List.append_nil] at this; exact this
 have e1 := I1.env0
 have e0 : Env0 X.prog X.w X.K X.mg X.base X.A X.stack s1 H1 := ⟨e1.frames, e1.mod, e1.bs, e1.bsz, e1.funs, e1.frf, e1.hok, e1.bare⟩
 refine wpAny_call (codeAny_mono (run y X.A X.stack s1 H1 ⟨us, []⟩ us vs _ hr e0 hbs r q) fun rr s' hq => ?_)
 cases rr with
 | error e => exact False.elim hq
 | ok fl =>
  cases fl with
  | ret u => exact I1.after hq
  | next => exact False.elim hq
  | brk => exact False.elim hq
  | cont => exact False.elim hq
end
end L2
end
section
namespace L2
open PySem PySem.Spec PyProof.Rows PySem.W
def clsStmt : Stmt → Nat → Stmt
 | .ClassDef _ _ _ body _ _ _ _ _ _ _, i => body.getD i (.Pass ⟨0, 0, 0, 0⟩)
 | s, _ => s
section
variable {X : Cx} {p pos : Pos} {e : Expr} {es : List Expr} {t : TA} {k : Nat} {ps : List Str} {sp : Sp}
end
end L2
namespace L2
open PySem PySem.Spec PyProof.Rows
theorem strI_short : ∀ i, i < 2048 → (strI ((i : Nat) : Int)).length ≤ 4 := by decide +kernel
end L2
end
section
namespace L2
open PySem PySem.Spec PyProof.Rows PySem.W
open PySem.Builtin PySem.Builtin.Str in
theorem replaceE {prog : Program} {w : World} {A : Around} {E : Value → Shared → Prop} {s : Shared} {x y z : Str} {t u v : Tok} {Q : Value → Shared → Prop} (hu : u ≠ 0) (hv : v ≠ 0) (huv : u ≠ v) (hyz : (y == z) = false) (hb : x.length + (x.length + 1) * z.length ≤ 16777216)
  (hq : ∀ t' k, s.toks ≤ k → Q (.str (Txt.replace x y z) t') { s with toks := k }) : wpAny (model prog w) A (call (.builtin "str.replace") [.str x t, .str y u, .str z v]) Q E s := by
 have hl : tooLong (x.length + (occurrences x y 0 x.length (x.length + 1)).length * z.length) = false := by
  have h1 := StrLaws.occ_length_le x y 0 x.length (x.length + 1)
  have h2 : (occurrences x y 0 x.length (x.length + 1)).length * z.length ≤ (x.length + 1) * z.length := Nat.mul_le_mul_right _ h1
  unfold tooLong sizeLine
  exact decide_eq_false (by omega)
 refine call_gives F.slot_str_replace (typeIs_str _ _ _) F.entry_str_replace (F.args_str_replace_3 _ _ _)
  (gives_str_replace x y z t u v fun _ => ⟨by simp [hu, hv], by simp [huv], hyz, hl⟩) ?_
 have hq' := hq
 unfold Txt.replace at hq'
 cases hc : ((occurrences x y 0 x.length (x.length + 1)).isEmpty || (y.length == 0 && z.length == 0))
 ·rw [hc] at hq'
  simp only [Bool.false_eq_true, if_false] at hq' ⊢
  exact ⟨fits_replaced y hb, hq' _ _ (Nat.le_succ _)⟩
 ·rw [hc] at hq'
  simp only [if_true] at hq' ⊢
  exact hq' t s.toks (Nat.le_refl _)
def PE1 (X : Cx) (e : Expr) (t : TE) : Prop :=
 ∀ (pins : List (Addr × Obj)) (s : Shared) (σ : St) (H : Hp) (Q : VK), s.toks ≠ 0 → Inv X pins σ H s → t σ H Q → wpAny (model X.prog X.w) X.A (eval e X.env) (fun u s' => EP X pins σ Q u s' ∧ s'.toks ≠ 0) X.xe s
section
variable {X : Cx} {p pos apos cpos p1 p2 : Pos} {e o : Expr} {es : List Expr} {t : TA} {to : TE} {y z : Str} {j1 j2 : Nat}
theorem var1 {i : Nat} {x : Str} (hN : X.N[i]? = some x) (hv : Vis X.env.scope x) (hd : (x == ("__debug__" : Str)) = false) (hcd : (x == ("__classdict__" : Str)) = false) {pins : List (Addr × Obj)} {s : Shared} {σ : St} {H : Hp} {Q : VK} (I : Inv X pins σ H s) (h : tVar i σ H Q) :
  wpAny (model X.prog X.w) X.A (eval (.Name x pos) X.env) (fun u s' => EP X pins σ Q u s' ∧ s' = s) X.xe s := by
 obtain ⟨v, e, h⟩ := h
 obtain ⟨m, hn, hl⟩ := I.loc
 obtain ⟨u, r, l⟩ := hl i x v hN e hv
 have fin : EP X pins σ Q u s ∧ s = s := ⟨⟨v, H, I, r, h⟩, rfl⟩
 rcases l with ⟨hk, hm⟩ | ⟨hk, c, hc, hcell⟩
 ·exact wpAny_Name (wpAny_loadName_local I.ok.kind hk hn hm fin) hd
 ·rcases hk with hk | hk
  ·exact wpAny_Name (wpAny_loadName_cell I.ok.kind hk hc hcell fin) hd
  ·exact wpAny_Name (wpAny_loadName_free I.ok.kind hk hc hcell fin hcd) hd
def tRepl (y z : Str) (to : TE) : TE := fun σ H Q => to σ H fun x H1 => ∃ q, x = .str q ∧ q.length + (q.length + 1) * z.length ≤ 16777216 ∧ Q (.str (Txt.replace q y z)) H1
theorem m_repl (ho : PE1 X o to) (hyz : (y == z) = false := by kernel_rfl)
  (hbase : attributeBase o "replace" X.env (eval o X.env) = eval o X.env := by kernel_rfl)
  (hfew : ((backTo cpos (starEach [.Constant (.str y) j1 p1, .Constant (.str z) j2 p2] X.env)).all (fun x => !x.1) && (backToKw cpos (keywordEach [] X.env)).all (fun x => x.1.isSome)
   && decide (([.Constant (.str y) j1 p1, .Constant (.str z) j2 p2] : List Expr).length + ([] : List Keyword).length + (if ([] : List Keyword).isEmpty then 0 else 1) < 30)) = true := by kernel_rfl)
  (hline : (apos.endLine == cpos.line) = true := by kernel_rfl) :
  PE1 X (.Call (.Attribute o "replace" apos) [.Constant (.str y) j1 p1, .Constant (.str z) j2 p2] [] cpos) (tRepl y z to) := by
 intro pins s σ H Q h0 I h
 refine wpAny_Call_method_late hbase hfew hline rfl (thn (ho pins s σ H _ h0 I h) fun v s1 ⟨⟨x, H1, I1, r1, q, ex, hb, hq⟩, h1⟩ => ?_)
 subst ex
 obtain ⟨t1, rfl⟩ := r1
 have rq : RelV (.str q) (.str q t1) := ⟨t1, rfl⟩
 obtain ⟨h2, h3⟩ := tyV_is (T := "str") I1 rq (tyU_of (show tyU H1 "str" (.str q) from rfl))
 refine ⟨"str", "str.replace", PySem.F.plainAttrs_str, PySem.F.slot_str_replace, PySem.F.type_str_replace, h2, h3, ?_⟩
 refine Calls.callWith_builtin rfl (Calls.evalArgs_plain ?_)
 refine Calls.spliced_cons (Calls.Constant_str (k := j1) (pos := p1) (Calls.spliced_cons (Calls.Constant_str (k := j2) (pos := p2) (Calls.spliced_nil ?_))))
 refine replaceE (h1) (Nat.succ_ne_zero _) (Nat.ne_of_lt (Nat.lt_succ_self _)) hyz hb fun t' k hk => ?_
 exact ⟨⟨.str (Txt.replace q y z), H1, I1.tok _, ⟨_, rfl⟩, hq⟩, fun z0 => by
  have hk : s1.toks + 1 + 1 ≤ k := hk
  have z0 : k = 0 := z0
  omega⟩
def tOrT (i j : Nat) (to : TE) (c : Str) : TT := fun σ H Q => ∃ q k, σ[i]? = some (some (.str q)) ∧ σ[j]? = some (some (.int k)) ∧ q.length ≤ sizeLine ∧
 if ((q.length : Nat) : Int) < k then Q true H else to σ H fun x H1 => ∃ d, x = .str d ∧ Q (!decide (d = c)) H1
theorem n1 (x : Str) (i : Nat) (hN : X.N[i]? = some x := by with_unfolding_all rfl) (hv : visB X.env.scope x = true := by kernel_rfl) : PE1 X (.Name x pos) (tVar i) := by
 intro pins s σ H Q h0 I h
 exact thn (var1 hN (vis_of hv).1 (vis_of hv).2.1 (vis_of hv).2.2 I h) fun u s' ⟨e1, e2⟩ => ⟨e1, by rw [e2]; exact h0⟩
theorem t_orT {x n : Str} {i j : Nat} {c : Str} {j3 : Nat} {px pl pn pc po pa pb : Pos} {mg' : Str → Option Value} (hm : mg' "len" = none) (hX : X.mg = mg') (ho : PE1 X o to) (hN : X.N[i]? = some x := by with_unfolding_all rfl) (hv : visB X.env.scope x = true := by kernel_rfl) (hN2 : X.N[j]? = some n := by with_unfolding_all rfl) (hv2 : visB X.env.scope n = true := by kernel_rfl)
  (hg : gB X "len" = true := by kernel_rfl) (he : starEach [.Name x px] X.env = (false, eval (.Name x px) X.env) :: starEach [] X.env := by kernel_rfl) (hpl : (backTo pl (starEach [] X.env)).any (·.1) = false := by kernel_rfl)
  (hm1 : behindInMarks .Lt (.Name n pn) = false := by kernel_rfl) (hm2 : behindInMarks .NotEq (.Constant (.str c) j3 pc) = false := by kernel_rfl) :
  PW X (.BoolOp .Or [.Compare (.Call (.Name "len" p) [.Name x px] [] pl) [.Lt] [.Name n pn] pa, .Compare o [.NotEq] [.Constant (.str c) j3 pc] pb] po) (tOrT i j to c) := by
 intro wh pins s σ H Q I ⟨q, k, hq, hk, hl, h⟩
 have l63 := line63
 refine isTrue_or (wpAny_isTrue_Compare1 ?_ hm1)
 refine wpAny_Call_Name_kw (ld_blt I (gl_of hg) (by rw [hX]; exact hm) PySem.boot_len ?_)
 refine PyProof.Rows.callWith_builtin1 ?_ he hpl
 rw [he]
 show wpAny _ _ (spliced ((false, eval (.Name x px) X.env) :: backTo pl (starEach [] X.env))) _ _ s
 refine Calls.spliced_cons (thn (var1 hN (vis_of hv).1 (vis_of hv).2.1 (vis_of hv).2.2 (Q := fun v H' => v = .str q ∧ H' = H) I ⟨_, hq, rfl, rfl⟩) fun u s1 ⟨⟨v, H1, I1, r1, ev, eH⟩, es⟩ => ?_)
 subst ev eH es
 obtain ⟨t1, rfl⟩ := r1
 refine Calls.spliced_nil ?_
 refine len_str (by omega) ?_
 have I2 := I1.tok (s1.toks + 1 + 1)
 refine thn (var1 hN2 (vis_of hv2).1 (vis_of hv2).2.1 (vis_of hv2).2.2 (Q := fun v H' => v = .int k ∧ H' = H1) I2 ⟨_, hk, rfl, rfl⟩) fun u s2 ⟨⟨v, H2, I3, r2, ev, eH⟩, es⟩ => ?_
 subst ev eH es
 obtain ⟨t2, rfl⟩ := r2
 refine lt_int ?_
 refine wpAny_truthy_bool ?_
 by_cases c1 : ((q.length : Nat) : Int) < k
 ·rw [if_pos c1] at h
  rw [decide_eq_true c1]
  exact ⟨_, I3, h⟩
 ·rw [if_neg c1] at h
  rw [decide_eq_false c1]
  refine isTrue_or (wpAny_isTrue_Compare1 ?_ hm2)
  refine thn (ho pins _ σ _ _ (Nat.succ_ne_zero _) I3 h) fun u s3 ⟨⟨v, H4, I4, r4, d, ev, hd⟩, _⟩ => ?_
  subst ev
  obtain ⟨t3, rfl⟩ := r4
  refine Calls.Constant_str ?_
  refine ne_str ?_
  refine wpAny_truthy_bool ?_
  have ec : (d != c) = !decide (d = c) := by
   by_cases z : d = c
   ·subst z; simp
   ·simp [z]
  rw [ec]
  cases e : (!decide (d = c)) with
  | true => rw [e] at hd; exact ⟨_, I4.tok _, hd⟩
  | false => rw [e] at hd; exact isTrue_or_nil ⟨_, I4.tok _, hd⟩
end
end L2
end
section
namespace L2
open PySem PySem.Spec PyProof.Rows
def mkS (l : List Nat) : Str := ⟨l.toArray⟩
theorem mkS_len (l : List Nat) : (mkS l).length = l.length := by show l.toArray.size = _; simp
theorem mkS_cps (l : List Nat) : (mkS l).cps.toList = l := by show l.toArray.toList = l; simp
theorem mkS_app (a b : List Nat) : mkS a ++ mkS b = mkS (a ++ b) := by
 show (⟨a.toArray ++ b.toArray⟩ : Str) = ⟨(a ++ b).toArray⟩
 simp
theorem bs_mkS (w : List Bool) : bs w = mkS (w.map sg) := rfl
def is01 (c : Nat) : Bool := c == 48 || c == 49
theorem slice_cut (xs : List Nat) {a n : Nat} (ha : a ≤ xs.length) : Txt.slice (mkS xs) (some (a : Int)) (some ((a : Int) + (n : Int))) = mkS ((xs.drop a).take n) := by
 refine Eq.trans (show Txt.slice (mkS xs) (some (a : Int)) (some ((a : Int) + (n : Int))) = StrLaws.sliceText (mkS xs) (some (a : Int)) (some ((a : Int) + (n : Int))) from rfl) ?_
 have hl := mkS_len xs
 by_cases h : a + n ≤ xs.length
 ·have := StrLaws.sliceText_plain (x := mkS xs) (i := (a : Int)) (j := (a : Int) + (n : Int)) ⟨by omega, by omega, by rw [mkS_cps]; omega⟩
  rw [this, mkS_cps, Int.toNat_natCast, show ((a : Int) + (n : Int) - (a : Int)).toNat = n by omega]
  rfl
 ·have e : StrLaws.sliceText (mkS xs) (some (a : Int)) (some ((a : Int) + (n : Int))) = StrLaws.sliceText (mkS xs) (some (a : Int)) (some (xs.length : Int)) := by
   unfold StrLaws.sliceText
   have : Builtin.Str.strSliceIndices (some (a : Int)) (some ((a : Int) + (n : Int))) 1 (mkS xs).length = Builtin.Str.strSliceIndices (some (a : Int)) (some (xs.length : Int)) 1 (mkS xs).length := by
    rw [hl]
    have h1 : ¬ ((a : Int) + (n : Int) < 0) := by omega
    have h2 : ¬ ((xs.length : Int) < 0) := by omega
    have h3 : min ((a : Int) + (n : Int)) (xs.length : Int) = xs.length := by omega
    simp [Builtin.Str.strSliceIndices, h1, h2, h3]
   rw [this]
  rw [e]
  have := StrLaws.sliceText_plain (x := mkS xs) (i := (a : Int)) (j := (xs.length : Int)) ⟨by omega, by omega, by rw [mkS_cps]; omega⟩
  rw [this, mkS_cps, Int.toNat_natCast]
  unfold mkS
  rw [List.take_of_length_le (by rw [List.length_drop]; omega), List.take_of_length_le (by rw [List.length_drop]; omega)]
theorem is01_bs {l : List Nat} (h : l.all is01 = true) : ∃ w : List Bool, l = w.map sg := by
 refine ⟨l.map (· == 49), ?_⟩
 rw [List.map_map]
 induction l with
 | nil => rfl
 | cons a l ih =>
  rw [List.all_cons, Bool.and_eq_true] at h
  rw [List.map_cons, ← ih h.2]
  congr 1
  have := h.1
  unfold is01 at this
  rw [Bool.or_eq_true, beq_iff_eq, beq_iff_eq] at this
  rcases this with rfl | rfl <;> rfl
theorem strip_any (l : List Nat) : decide (Txt.stripChars (mkS l) ("01" : Str) = ("" : Str)) = l.all is01 := by
 cases h : l.all is01 with
 | true =>
  obtain ⟨w, rfl⟩ := is01_bs h
  exact decide_eq_true (by rw [← bs_mkS, strip01, bs_nil])
 | false =>
  refine decide_eq_false fun e => ?_
  have hg : ∀ c, ("01" : Str).cps.contains c = is01 c := fun c => by
   have : ("01" : Str).cps = #[48, 49] := by decide +kernel
   rw [this]
   unfold is01
   by_cases h1 : c = 48
   ·subst h1; decide +kernel
   ·by_cases h2 : c = 49
    ·subst h2; decide +kernel
    ·have e1 : (c == 48) = false := beq_false_of_ne h1
     have e2 : (c == 49) = false := beq_false_of_ne h2
     rw [e1, e2]
     simp [h1, h2]
  unfold Txt.stripChars at e
  rw [stripBy_eq] at e
  obtain ⟨l1, l2, l3⟩ := lo_facts ("01" : Str).cps.contains (mkS l)
  have ne : stripLo ("01" : Str).cps.contains true (mkS l) ≠ (mkS l).length := fun z => by
   have : l.all is01 = true := List.all_eq_true.mpr fun x hx => by
    obtain ⟨k, hk, rfl⟩ := List.getElem_of_mem hx
    have := l2 k (by rw [z, mkS_len]; exact hk)
    rw [hg, ← getD_list, mkS_cps, List.getD_eq_getElem?_getD, List.getElem?_eq_getElem hk] at this
    exact this
   rw [h] at this; cases this
  have l3 := l3.resolve_left ne
  generalize stripLo ("01" : Str).cps.contains true (mkS l) = lo at *
  obtain ⟨h1, h2, h3, h4⟩ := hi_facts ("01" : Str).cps.contains (mkS l) lo l1
  generalize stripHi ("01" : Str).cps.contains true (mkS l) lo = hi at *
  have lt : lo < hi := by
   rcases Nat.lt_or_ge lo hi with z | z
   ·exact z
   ·have := h3 lo z (by omega)
    rw [l3] at this; cases this
  have := congrArg Str.length e
  have e0 : (("" : Str)).length = 0 := by decide +kernel
  rw [e0] at this
  unfold Builtin.Str.strSub at this
  simp [Str.length] at this
  unfold Str.length at h2
  omega
theorem repl_any (l : List Nat) : decide (Txt.replace (Txt.replace (mkS l) ("0" : Str) ("" : Str)) ("1" : Str) ("" : Str) = ("" : Str)) = l.all is01 := by
 have e0 : ("0" : Str) = ⟨#[48]⟩ := by decide +kernel
 have e1 : ("1" : Str) = ⟨#[49]⟩ := by decide +kernel
 have e2 : ("" : Str) = ⟨#[]⟩ := by decide +kernel
 rw [e0, e1, e2]
 have h := replace_strikes (Txt.replace (mkS l) ⟨#[48]⟩ ⟨#[]⟩) 49
 rw [replace_strikes (mkS l) 48, mkS_cps] at h
 have hz : ∀ z : Str, (z = ⟨#[]⟩) ↔ z.cps.toList = [] := fun z => by cases z; simp
 rw [show (l.all is01) = decide ((l.filter (· != 48)).filter (· != 49) = []) from ?_]
 ·exact decide_eq_decide.mpr (by rw [hz, h])
 ·clear h
  rw [List.filter_filter]
  induction l with
  | nil => rfl
  | cons a l ih =>
   rw [List.all_cons, ih, List.filter_cons]
   unfold is01
   by_cases a0 : a = 48
   ·subst a0; simp
   ·by_cases a1 : a = 49
    ·subst a1; simp
    ·simp [a0, a1]
def pce (n : Nat) (xs : List Nat) (i : Nat) : List Nat := (xs.drop (i * n)).take n
def pcs (n : Nat) (xs : List Nat) : Nat := (xs.length + n - 1) / n
def okP (n : Nat) (c : List Nat) : Bool := decide (c.length = n) && c.all is01
theorem pce_len (n : Nat) (xs : List Nat) (i : Nat) : (pce n xs i).length ≤ n := by unfold pce; rw [List.length_take]; omega
theorem pcs_lt {n : Nat} {xs : List Nat} {i : Nat} (hn : 1 ≤ n) (h : i < pcs n xs) : i * n < xs.length := by
 unfold pcs at h
 have h1 := (Nat.le_div_iff_mul_le (by omega)).mp h
 rw [Nat.succ_mul] at h1
 omega
theorem pcs_le {n : Nat} {xs : List Nat} (hn : 1 ≤ n) : pcs n xs ≤ xs.length := by
 unfold pcs
 rcases Nat.eq_zero_or_pos xs.length with e | e
 ·rw [e, Nat.zero_add]
  exact Nat.le_of_eq (Nat.div_eq_of_lt (by omega))
 ·refine Nat.le_of_lt_succ ((Nat.div_lt_iff_lt_mul (by omega)).mpr ?_)
  have := Nat.mul_le_mul_left xs.length hn
  rw [Nat.succ_mul]
  omega
def FBad (n : Nat) (xs : List Nat) (i : Nat) : Prop := i < pcs n xs ∧ okP n (pce n xs i) = false ∧ ∀ j, j < i → okP n (pce n xs j) = true
def AllP (n : Nat) (xs : List Nat) : Prop := ∀ j, j < pcs n xs → okP n (pce n xs j) = true
theorem FBad.same {n : Nat} {xs : List Nat} {i j : Nat} (h : FBad n xs i) (k : FBad n xs j) : i = j := by
 rcases Nat.lt_trichotomy i j with z | z | z
 ·exact absurd ((k.2.2 i z).symm.trans h.2.1) (by decide)
 ·exact z
 ·exact absurd ((h.2.2 j z).symm.trans k.2.1) (by decide)
theorem FBad.not {n : Nat} {xs : List Nat} {i : Nat} (h : FBad n xs i) (k : AllP n xs) : False := by
 exact absurd ((k i h.1).symm.trans h.2.1) (by decide)
theorem allP_words {n : Nat} (hn : 1 ≤ n) : ∀ (m : Nat) {xs : List Nat}, pcs n xs = m → AllP n xs → ∃ cs : List (List Bool), xs = (cs.flatten).map sg ∧ cs.length = m ∧ (∀ c ∈ cs, c.length = n) ∧ ∀ i, (h : i < cs.length) → pce n xs i = cs[i].map sg
 | 0, xs, hm, h => by
  have : xs.length = 0 := by
   rcases Nat.eq_zero_or_pos xs.length with e | e
   ·exact e
   ·unfold pcs at hm
    have := Nat.div_pos (show n ≤ xs.length + n - 1 by omega) (by omega)
    omega
  have := List.length_eq_zero_iff.mp this
  subst this
  refine ⟨[], rfl, rfl, (fun c hc => ?_), fun i hi => ?_⟩
  ·cases hc
  ·exact absurd hi (Nat.not_lt_zero _)
 | m + 1, xs, hm, h => by
  have h0 := h 0 (by omega)
  unfold okP at h0
  rw [Bool.and_eq_true, decide_eq_true_eq] at h0
  obtain ⟨l0, a0⟩ := h0
  obtain ⟨w, ew⟩ := is01_bs a0
  have e0 : pce n xs 0 = xs.take n := by unfold pce; rw [Nat.zero_mul, List.drop_zero]
  rw [e0] at l0 ew
  have ln : n ≤ xs.length := by rw [List.length_take] at l0; omega
  have hs : ∀ i, pce n (xs.drop n) i = pce n xs (i + 1) := fun i => by
   unfold pce; rw [List.drop_drop, Nat.succ_mul, Nat.add_comm]
  have hp : pcs n (xs.drop n) = m := by
   unfold pcs at hm ⊢
   rw [List.length_drop]
   have : xs.length + n - 1 = (xs.length - n + n - 1) + n := by omega
   rw [this, Nat.add_div_right _ (by omega)] at hm
   omega
  obtain ⟨cs, e1, e2, e3, e4⟩ := allP_words hn m hp fun j hj => by rw [hs]; exact h (j + 1) (by omega)
  refine ⟨w :: cs, ?_, by rw [List.length_cons, e2], fun c hc => ?_, fun i hi => ?_⟩
  ·rw [List.flatten_cons, List.map_append, ← ew, ← e1, List.take_append_drop]
  ·rcases List.mem_cons.mp hc with rfl | hc
   ·rw [← l0, ew, List.length_map]
   ·exact e3 c hc
  ·cases i with
   | zero => rw [e0, ew]; rfl
   | succ i => rw [← hs, e4 i (by simpa using hi)]; rfl
theorem rng_pcs {n : Nat} (xs : List Nat) (h1 : 1 ≤ n) (h6 : n ≤ 6) : (Builtin.Range.rangeSize 0 ((xs.length : Nat) : Int) (n : Int)).toNat = pcs n xs := by
 unfold Builtin.Range.rangeSize pcs
 generalize xs.length = L
 rw [if_pos (by omega)]
 by_cases h : (0 : Int) < ((L : Nat) : Int)
 ·rw [if_pos h]
  have : n = 1 ∨ n = 2 ∨ n = 3 ∨ n = 4 ∨ n = 5 ∨ n = 6 := by omega
  rcases this with rfl | rfl | rfl | rfl | rfl | rfl <;> omega
 ·rw [if_neg h]
  have : L = 0 := by omega
  subst this
  rw [Nat.zero_add, Nat.div_eq_of_lt (by omega)]
  rfl
end L2
end
section
namespace L2
open PySem PySem.Spec PyProof.Rows
theorem slice_to_any (xs : List Nat) (j : Int) (h : j ≤ xs.length) : ∃ m, Txt.slice (mkS xs) none (some j) = mkS (xs.take m) := by
 have hl := mkS_len xs
 have e1 : Txt.slice (mkS xs) none (some j) = StrLaws.sliceText (mkS xs) none (some j) := rfl
 rw [e1]
 rcases Int.lt_or_le j 0 with h0 | h0
 ·rcases Int.lt_or_le j (-(xs.length : Int)) with h2 | h2
  ·refine ⟨0, ?_⟩
   have e : StrLaws.sliceText (mkS xs) none (some j) = StrLaws.sliceText (mkS xs) none (some 0) := by
    unfold StrLaws.sliceText
    have : Builtin.Str.strSliceIndices none (some j) 1 (mkS xs).length = Builtin.Str.strSliceIndices none (some 0) 1 (mkS xs).length := by
     rw [hl]
     have h3 : max 0 (min (j + (xs.length : Int)) (xs.length : Int)) = 0 := by omega
     have h4 : max 0 (min 0 (xs.length : Int)) = 0 := by omega
     simp [Builtin.Str.strSliceIndices, h0, h3, h4]
    rw [this]
   rw [e, StrLaws.sliceText_to ⟨Int.le_refl 0, by omega⟩]
   rfl
  ·have := StrLaws.sliceText_to_neg (x := mkS xs) h0 (by rw [hl]; exact h2)
   rw [this, mkS_cps, List.drop_zero]
   exact ⟨_, rfl⟩
 ·rw [StrLaws.sliceText_to ⟨h0, by rw [mkS_cps]; exact h⟩, mkS_cps, List.drop_zero]
  exact ⟨_, rfl⟩
theorem slice_from (xs : List Nat) (j : Int) (h : 0 ≤ j) : Txt.slice (mkS xs) (some j) none = mkS (xs.drop j.toNat) := by
 have hl := mkS_len xs
 have e1 : Txt.slice (mkS xs) (some j) none = StrLaws.sliceText (mkS xs) (some j) none := rfl
 rw [e1]
 rcases Int.lt_or_le (xs.length : Int) j with h0 | h0
 ·have e : StrLaws.sliceText (mkS xs) (some j) none = StrLaws.sliceText (mkS xs) (some (xs.length : Int)) none := by
   unfold StrLaws.sliceText
   have : Builtin.Str.strSliceIndices (some j) none 1 (mkS xs).length = Builtin.Str.strSliceIndices (some (xs.length : Int)) none 1 (mkS xs).length := by
    rw [hl]
    have h2 : ¬ (j < 0) := by omega
    have h3 : max 0 (min j (xs.length : Int)) = (xs.length : Int) := by omega
    have h5 : ¬ ((xs.length : Int) < 0) := by omega
    simp [Builtin.Str.strSliceIndices, h2, h3, h5]
   rw [this]
  rw [e, StrLaws.sliceText_from ⟨by omega, by rw [mkS_cps]; omega⟩, mkS_cps, Int.toNat_natCast, List.drop_length, List.take_nil, List.drop_of_length_le (by omega)]
  rfl
 ·rw [StrLaws.sliceText_from ⟨h, by rw [mkS_cps]; exact h0⟩, mkS_cps, List.take_of_length_le (by rw [List.length_drop]; omega)]
  rfl
theorem slice_to (xs : List Nat) (j : Int) (h : 0 ≤ j) (h1 : j ≤ xs.length) : Txt.slice (mkS xs) none (some j) = mkS (xs.take j.toNat) := by
 have e1 : Txt.slice (mkS xs) none (some j) = StrLaws.sliceText (mkS xs) none (some j) := rfl
 rw [e1, StrLaws.sliceText_to ⟨h, by rw [mkS_cps]; exact h1⟩, mkS_cps, List.drop_zero, Int.sub_zero]
 rfl
end L2
end
section
namespace L2
open PySem PySem.Spec PyProof.Rows
section
variable {X : Cx} {p pos p2 : Pos} {a b e st : Expr} {es : List Expr} {t : TA} {te : TE} {ts : TO}
end
section
variable {H H' : Hp} {n : Nat} {v : V} {a : Addr} {xs : List V}
end
noncomputable def wo (F : Addr → Prop) (H : Hp) : Hp := fun b => @ite _ (F b) (Classical.propDecidable _) none (H b)
section
variable {F : Addr → Prop} {H H' : Hp} {b : Addr} {o : HO}
theorem wo_at (h : H b = some o) (n : ¬ F b) : wo F H b = some o := by
 unfold wo
 rw [if_neg n]; exact h
theorem wo_inv (h : wo F H b = some o) : ¬ F b ∧ H b = some o := by
 unfold wo at h
 by_cases c : F b
 ·rw [if_pos c] at h; cases h
 ·rw [if_neg c] at h; exact ⟨c, h⟩
theorem Off.wo (h : Off F H H') : Same (wo F H) (wo F H') := fun b o e => let ⟨n, e⟩ := wo_inv e; wo_at (h b o e n) n
theorem Same.wo (h : Same H H') : Same (wo F H) (wo F H') := fun b o e => let ⟨n, e⟩ := wo_inv e; wo_at (h b o e) n
end
end L2
end
section
namespace L2
open PySem PySem.Spec PyProof.Rows
def tEmp : TE := fun _ H Q => ∀ d, H d = none → Q (.ref d) (upd H d (.dK []))
theorem e_dict {X : Cx} {pos : Pos} : PE X (.Dict [] [] pos) tEmp := pe_dnewK
end L2
end
section
namespace L2
open PySem PySem.Spec PyProof.Rows
section
variable {X : Cx} {p pos : Pos} {e : Expr} {es : List Expr} {t : TA}
end
end L2
end
section
namespace L2
open PySem PySem.Spec PyProof.Rows
def SameT (P : Addr) (H H' : Hp) : Prop := ∀ b o, b ≠ P → H b = some o → H' b = some o
theorem SameT.refl (P : Addr) (H : Hp) : SameT P H H := fun _ _ _ h => h
theorem SameT.trans {P : Addr} {H H1 H2 : Hp} (a : SameT P H H1) (b : SameT P H1 H2) : SameT P H H2 := fun c o n h => b c o n (a c o n h)
theorem Same.t {P : Addr} {H H' : Hp} (a : Same H H') : SameT P H H' := fun c o _ h => a c o h
section
variable {X : Cx} {pins : List (Addr × Obj)} {σ : St} {H : Hp} {s : Shared}
theorem Mod.keeps {K : PySem.W.Frag} {mg : Str → Option Value} {base base' : Heap} (M : Mod K mg base) (k : ∀ b o, base.get? b = some o → base'.get? b = some o) : Mod K mg base' :=
 ⟨M.kin.keeps k, M.glob.keeps k, let ⟨mb, a, b⟩ := M.blt; ⟨mb, a.keeps k, b⟩, M.nolimit.keeps k⟩
end
section
variable {X : Cx} {p pos lp : Pos} {a : Expr} {ta : TE}
end
end L2
end
section
namespace Om
section
variable {α : Type} [DecidableEq α]
end
end Om
namespace L2
open PySem PySem.Spec PyProof.Rows
section
variable {prog : Program} {w : World} {A : Around} {I : Addr} {fp wr : List Addr} {G : Array GenState → Array GenState → Prop} {n : Nat} {P : Nat → Value → Prop} {St : Nat → Shared → Prop} {κ : Type} [DecidableEq κ] {knd : KeyKind prog w κ}
end
section
variable {X : Cx} {p pos : Pos} {e : Expr} {es : List Expr} {t : TA}
end
end L2
end
section
namespace Om
section
variable {ts : List Int} {g : Nat} {f : Nat → Bool}
def val (f : Nat → Bool) (k : Nat) : Nat → Nat
 | 0 => 0
 | g + 1 => 2 * val f k g + (if f (k + g) then 1 else 0)
end
end Om
end
section
namespace L2
open PySem PySem.Spec PyProof.Rows
section
variable {X : Cx} {p pos : Pos} {a b e : Expr} {es : List Expr} {t : TA}
end
end L2
namespace Om
end Om
end
section
namespace Om
end Om
namespace L2
open PySem PySem.Spec PyProof.Rows
section
variable {H0 H H1 : Hp} {D Q : Addr} {kvs : List (Key × V)} {qs : List Nat} {c : Nat}
end
end L2
end
section
namespace Om
end Om
namespace L2
open PySem PySem.Spec PyProof.Rows
def wo1 (P : Addr) (H : Hp) : Hp := fun b => if b = P then none else H b
theorem wo1.at {P b : Addr} {H : Hp} {o : HO} (h : H b = some o) (n : b ≠ P) : wo1 P H b = some o := by unfold wo1; rw [if_neg n]; exact h
theorem wo1.same {P : Addr} {H H' : Hp} (s : SameT P H H') : Same (wo1 P H) H' := fun b o e => by
 unfold wo1 at e
 split at e
 ·cases e
 ·rename_i n
  exact s b o n e
mutual
theorem DV.wo1 {H : Hp} {P : Addr} {ps : Array Value} (hP : H P = some (.tbl ps)) : ∀ {v : V} {d : PyData}, DV H v d → DV (wo1 P H) v d
 | _, _, .non => .non
 | _, _, .bl b => .bl b
 | _, _, .int i => .int i
 | _, _, .str x => .str x
 | _, _, .lst h r => .lst (wo1.at h (ne_of h hP (fun z => nomatch z))) (DVs.wo1 hP r)
 | _, _, .tup h r => .tup (wo1.at h (ne_of h hP (fun z => nomatch z))) (DVs.wo1 hP r)
 | _, _, .dic h => .dic (wo1.at h (ne_of h hP (fun z => nomatch z)))
theorem DVs.wo1 {H : Hp} {P : Addr} {ps : Array Value} (hP : H P = some (.tbl ps)) : ∀ {vs : List V} {ds : List PyData}, DVs H vs ds → DVs (wo1 P H) vs ds
 | _, _, .nil => .nil
 | _, _, .cons h r => .cons (DV.wo1 hP h) (DVs.wo1 hP r)
end
theorem SameT.free {P : Addr} {H H' : Hp} {l : Addr} (s : SameT P H H') (h : H' l = none) (n : l ≠ P) : H l = none := by
 cases q : H l with
 | none => rfl
 | some o => rw [s l o n q] at h; cases h
end L2
end
section
namespace Om
end Om
namespace L2
open PySem PySem.Spec PyProof.Rows
section
variable {H0 H H' : Hp} {a b : Addr} {qs : List Addr} {k n : Nat} {rows : Om.Rows}
end
end L2
end
section
namespace Om
end Om
namespace L2
open PySem PySem.Spec PyProof.Rows
section
variable {F : Addr → Prop} {H0 H H' G : Hp} {d P : Addr} {pos : Pos} {qual : Str}
theorem Deck.lst (h : Deck F H d) {b : Addr} (z : F b) : ∃ xs, H b = some (.lst xs) := by
 obtain ⟨p, qs, n, h1, h2, h3, h4, h5, h6⟩ := h.ex
 rcases (h6 b).mp z with rfl | rfl | z
 ·exact ⟨_, h1⟩
 ·exact ⟨_, h2⟩
 ·obtain ⟨c, f, m, e⟩ := h5 b z
  exact ⟨_, e⟩
end
end L2
end
section
namespace L2
open PySem PySem.Spec PyProof.Rows
end L2
end
section
namespace L2
open PySem PySem.Spec PyProof.Rows
section
variable {X : Cx} {p pos : Pos} {k v : Expr} {tk tv : TE}
end
end L2
end
section
namespace Om
section
variable {k n : Nat} {rows : Rows} {a b c : Nat} {w v : List Bool}
end
end Om
end
section
namespace Om
section
variable {α : Type} [DecidableEq α] {xs : List α} {x y : α}
end
end Om
namespace L2
open PySem PySem.Spec PyProof.Rows
section
variable {κ N : Type} [DecidableEq κ] [DecidableEq N]
end
def tk (u : List Bool) : Key := Sum.inr (bs u)
section
variable {H0 H H1 : Hp} {D Q : Addr} {kvs : List (List Key × V)} {xs : List (List Bool × Nat)} {bz : List Addr}
end
end L2
end
section
namespace L2
open PySem PySem.Spec PyProof.Rows
end L2
end
section
namespace Om
end Om
namespace L2
open PySem PySem.Spec PyProof.Rows
section
variable {H0 H H1 : Hp} {D : Addr} {kvs : List (Key × V)} {us : List (List Bool)} {L : Nat} {S S' : List Bool → Prop}
end
end L2
end
section
namespace Om
end Om
namespace L2
open PySem PySem.Spec PyProof.Rows
section
variable {H2 H H1 : Hp} {D E Mo : Addr} {kvs : List (Key × V)} {us : List (List Bool)} {L : Nat} {S : List Bool → Prop} {ekvs : List (Key × V)} {vs : List (List Bool)} {M : Nat} {B B' : List Bool → Prop} {mkvs : List (List Key × V)} {ys : List (List Bool × Nat)} {A A' : List Bool × Nat → Prop}
end
end L2
end
section
namespace L2
open PySem PySem.Spec PyProof.Rows
def nw (H H' : Hp) : Hp := fun b => match H b with
 | none => H' b
 | some _ => none
theorem nw.at {H H' : Hp} {b : Addr} (h : H b = none) : nw H H' b = H' b := by unfold nw; rw [h]
theorem nw.old {H H' : Hp} {b : Addr} {o : HO} (h : H b = some o) : nw H H' b = none := by unfold nw; rw [h]
theorem nw.inv {H H' : Hp} {b : Addr} {o : HO} (h : nw H H' b = some o) : H b = none ∧ H' b = some o := by
 cases e : H b with
 | none => rw [nw.at e] at h; exact ⟨rfl, h⟩
 | some u => rw [nw.old e] at h; cases h
theorem nw.same {H H' : Hp} : Same (nw H H') H' := fun b o e => (nw.inv e).2
theorem nw.up {H H1 H2 : Hp} (s : Same H1 H2) : Same (nw H H1) (nw H H2) := fun b o e => by rw [nw.at (nw.inv e).1]; exact s _ _ (nw.inv e).2
section
variable {X : Cx} {pos : Pos} {e : Expr} {es : List Expr} {n : Nat} {d : PyData} {ds : List PyData}
end
end L2
end
section
namespace L2
open PySem PySem.Spec PyProof.Rows
theorem SqL.wo1 {K : PySem.W.Frag} {H : Hp} {a P : Addr} {xs : List V} {ps : Array Value} (h : SqL K H a xs) (hP : H P = some (.tbl ps)) : SqL K (wo1 P H) a xs := by
 rcases h with (h | ⟨o, h⟩) | h
 ·exact .inl (.inl (wo1.at h (ne_of h hP (fun z => nomatch z))))
 ·exact .inl (.inr ⟨o, wo1.at h (ne_of h hP (fun z => nomatch z))⟩)
 ·exact .inr h
section
variable {H H' : Hp} {kvs : List (Key × V)} {ls : List Nat} {rows : Om.Rows}
end
end L2
end
section
namespace L2
open PySem PySem.Spec PyProof.Rows
section
variable {X : Cx} {p pos : Pos} {e : Expr} {es : List Expr} {t : TA}
end
end L2
end
section
namespace L2
open PySem PySem.Spec PyProof.Rows
section
variable {X : Cx}
variable {elt target iter : Expr} {ifs : List Expr} {scope : Scope} {pos spos : Pos} {wi : TI} {g : TG} {tt : TT} {te : TE}
end
end L2
end
section
namespace L2
open PySem PySem.Spec PyProof.Rows
section
variable {X : Cx} {tg : Expr}
end
end L2
end
section
namespace L2
open PySem PySem.Spec PyProof.Rows
section
variable {prog : Program} {w : World} {A : Around} {E : Value → Shared → Prop} {s : Shared}
end
section
variable {X : Cx} {p pos : Pos}
end
end L2
end
section
namespace Om
def stp (b : Bool) : Int := if b then 1 else -1
section
variable {rows : Rows} {turn : Int} {ks ks' : List Nat} {E E' : Nat → Int} {ed ed' : Nat → Nat → Prop} {s l : Nat} {r : List Bool × Nat}
end
end Om
namespace L2
open PySem PySem.Spec PyProof.Rows
section
variable {H H' : Hp} {kvs : List (Key × V)} {ks : List Nat} {E : Nat → Int} {c : Nat}
end
end L2
end
section
namespace L2
open PySem PySem.StrLaws Builtin Builtin.Str
abbrev ch (c : Nat) : Str := ⟨#[c]⟩
end L2
end
section
namespace L2
open PySem PySem.Spec PyProof.Rows Builtin Builtin.Str
section
variable {X : Cx} {p pos apos : Pos} {a b c e o : Expr} {es : List Expr} {t : TA} {to : TE}
end
end L2
end
section
namespace L2
open PySem PySem.Spec PyProof.Rows
section
variable {X : Cx} {p pos apos : Pos} {a b e o : Expr} {es : List Expr} {t : TA} {to : TE}
end
end L2
end
section
namespace Om
end Om
end
section
namespace L2
open PySem PySem.Spec PyProof.Rows
section
variable {G H0 H H' : Hp} {a A S q : Addr} {ts : List Addr} {ps : List (Nat × Nat)} {rw : Nat → List (List Bool × Nat)}
end
end L2
namespace L2
open PySem PySem.Spec PyProof.Rows
end L2
end
section
namespace L2
open PySem PySem.Spec PyProof.Rows
section
variable {X : Cx} {p pos : Pos} {a tg : Expr}
end
end L2
namespace L2
open PySem PySem.Spec PyProof.Rows
theorem Vals.rev : ∀ {xs : List V} {us : List Value}, Vals xs us → Vals xs.reverse us.reverse
 | _, _, .nil => .nil
 | _, _, .cons r t => by
  rw [List.reverse_cons, List.reverse_cons]
  exact (Vals.rev t).append (.cons r .nil)
section
variable {prog : Program} {w : World} {A : Around} {E : Value → Shared → Prop} {s : Shared}
end
section
variable {X : Cx} {p p2 pos pos2 : Pos} {a : Expr}
end
end L2
end
section
namespace L2
open PySem PySem.Spec PyProof.Rows
section
variable {prog : Program} {w : World} {A : Around} {E : Value → Shared → Prop} {s : Shared}
end
section
variable {X : Cx} {pos apos : Pos} {o e : Expr} {to : TE} {t : TA} {es : List Expr}
end
end L2
end
section
namespace L2
open PySem PySem.Spec PyProof.Rows
section
variable {prog : Program} {w : World} {A : Around}
end
section
variable {X : Cx} {p pos : Pos}
end
end L2
end
section
namespace L2
open PySem PySem.Spec PyProof.Rows
section
variable {X : Cx}
end
end L2
namespace L2
end L2
end
section
namespace L2
open PySem PySem.Spec PyProof.Rows
section
variable {X : Cx} {a b : Expr} {p pos : Pos} {ta : TA}
end
end L2
end
section
namespace L2
open PySem PySem.Spec PyProof.Rows PySem.W
section
variable {X : Cx}
end
section
variable {X : Cx} {pins : List (Addr × Obj)} {σ : St} {H : Hp} {s : Shared} {h' : Heap}
theorem Inv.laidN {a : Addr} {o : HO} (I : Inv X pins σ H s) (k : ∀ b u, s.heap.get? b = some u → h'.get? b = some u) (hp : s.heap.get? a = none) (new : ObjOk X.prog X.w (upd H a o) h' a o) : Inv X pins σ (upd H a o) { s with heap := h' } := by
 have Ha : H a = none := by
  cases e : H a with
  | none => rfl
  | some u =>
   obtain ⟨o', e'⟩ := I.hok.has e
   rw [hp] at e'; cases e'
 have ne : ∀ b u, H b = some u → upd H a o b = some u := fun b u e => by rw [upd_ne (fun z => by rw [z, Ha] at e; cases e)]; exact e
 have un : Un (frs X.stack) [] H (upd H a o) s.heap h' := by
  refine ⟨fun b u e n _ _ => k b u e, fun b u e n _ _ => ⟨u.slots, k b u e⟩, fun b u e n _ => ?_, fun b u e _ => ⟨u, k b u e⟩, fun b xs e => ne b _ e, fun b u v e => ne b _ e, fun b ps e => ⟨#[], by rw [Array.append_empty]; exact ne b _ e⟩⟩
  rw [upd_ne (fun z => by rw [z, hp] at e; cases e)]; exact n
 refine I.call' (s' := { s with heap := h' }) (ch := []) rfl un (fun b u e => ?_) I.bare (fun b z => absurd z (by simp))
 by_cases z : b = a
 ·subst z
  rw [upd_same] at e
  cases e
  exact new
 ·rw [upd_ne z] at e
  exact (I.hok b u e).stay (fun b' u' hb' e' => k b' u' e') (fun b' z => ne b' _ z) fun b' xs z => ne b' _ z
end
section
variable {P : Program} {w : World} {K : PySem.W.Frag} {mg : Str → Option Value} {base : Heap} {N : List Str} {qual : Str} {scope : Scope} {f : Addr} {cd : Value} {A : Around} {outer : List Env} {s : Shared} {H : Hp} {E : XK}
theorem s_raiseP {x : Str} {C : Addr} {np cpos pos : Pos} {e : Expr} {es : List Expr} {t : TA} (hC : ExnOk K C) (hm : mg x = some (.ref C)) (ha : PA (cxOf (CX2 P w) P w K mg base N qual scope f cd A outer s H E) (e :: es) t)
  (hg : gB (cxOf (CX2 P w) P w K mg base N qual scope f cd A outer s H E) x = true := by kernel_rfl) (hdb : (x == ("__debug__" : Str)) = false := by kernel_rfl)
  (he : starEach (e :: es) (cxOf (CX2 P w) P w K mg base N qual scope f cd A outer s H E).env = (false, eval e (cxOf (CX2 P w) P w K mg base N qual scope f cd A outer s H E).env) :: starEach es (cxOf (CX2 P w) P w K mg base N qual scope f cd A outer s H E).env := by kernel_rfl)
  (hpl : (backTo cpos (starEach es (cxOf (CX2 P w) P w K mg base N qual scope f cd A outer s H E).env)).any (·.1) = false := by kernel_rfl) :
  PS (cxOf (CX2 P w) P w K mg base N qual scope f cd A outer s H E) (.Raise (some (.Call (.Name x np) (e :: es) [] cpos)) none pos) (tRaise E C t) := by
 obtain ⟨nm, q, Nn, bs, bm, hdct, sn, sub, ab, col, dd, k0, k1, k2, k3, k5, mN, hni, hK⟩ := hC
 generalize hXX : cxOf (CX2 P w) P w K mg base N qual scope f cd A outer s H E = X at *
 intro pins s1 σ H1 D I h
 have hbase : bm.contains (.type "BaseException") = true := (hK s1.heap (by have := I.kIn; rw [← hXX] at this; exact this)).2.2.hasType (by decide)
 have hpl2 : (backTo cpos (starEach (e :: es) X.env)).any (·.1) = false := by
  rw [he]
  show (false || (backTo cpos (starEach es X.env)).any (·.1)) = false
  rw [hpl]; rfl
 refine wpAny_Raise_call_subT (F := PySem.F.excBase_ValueError) (mN := mN) (nm := nm) (q := q) (C := C) (N := Nn) (bs := bs) (bm := bm) (hdct := hdct) (sn := sn) (sub := sub) (ab := ab) (col := col) (dd := dd) (k0 := k0) (k1 := k1) (k2 := k2) (k3 := k3) (k5 := k5) hbase (I.ok.hd (by rw [← hXX]; rfl)) hpl2 hni ?_
 refine ld_glob I (gl_of hg) (by rw [← hXX]; exact hm) ⟨rfl, ?_⟩ hdb
 have hx := ha cpos pins s1 σ H1 _ I h
 rw [he] at hx ⊢
 refine PySem.Calls.evalArgs_plain (thn hx fun us s2 z => ?_)
 obtain ⟨vs, H2, I2, r, q2⟩ := z
 have kin : K.In s2.heap := by have := I2.kIn; rw [← hXX] at this; exact this
 obtain ⟨c1, c2, c3⟩ := hK s2.heap kin
 refine ⟨rfl, ?_, c1, c2, c3, fun h' x' mx => ?_⟩
 ·show us.length ≤ sizeLine
  rw [← r.length]; exact le_line q2.1
 ·subst hXX
  obtain ⟨ta, ge, _, _⟩ := mx.there
  have nH : H2 x' = none := by
   cases e : H2 x' with
   | none => rfl
   | some u =>
    obtain ⟨o', e'⟩ := I2.hok.has e
    rw [mx.new] at e'; cases e'
  obtain ⟨hp, gg, dr, tk, os⟩ := s2
  have I3 : Inv (cxOf (CX2 P w) P w K mg base N qual scope f cd A outer s H E) pins σ (upd H2 x' (ExcN x' C none)) ⟨h', gg, dr, tk, os⟩ := I2.laidN (a := x') (o := ExcN x' C none) mx.keeps mx.new (ExcN.mk ge)
  refine esc3 I3 upd_same (fun b o eb z => ?_) ?_
  ·have un : Un (frs outer) [] H H2 s.heap hp := I2.base
   obtain ⟨o', e'⟩ := un.there b o eb (by simp)
   have := mx.new
   rw [z] at e'
   have this : hp.get? x' = none := this
   rw [this] at e'
   cases e'
  ·have eH : (fun b => if b = x' then none else upd H2 x' (ExcN x' C none) b) = H2 := by
    funext b
    by_cases z : b = x'
    ·rw [if_pos z, z, nH]
    ·rw [if_neg z, upd_ne z]
   rw [eH]
   exact q2.2
end
section
variable {X : Cx} {x : Str} {p pos apos npos : Pos} {e : Expr} {es : List Expr} {t : TA} {k : Nat} {ps : List Str} {sp : Sp}
end
end L2
end
section
namespace L2
open PySem PySem.Spec PyProof.Rows PySem.W
section
variable {X : Cx}
end
end L2
end
section
namespace K35
open PySem L2
def top (i : Nat) : Stmt := PySem.Challenge.pw_ownbeat_k35_no_window_and_no_wire.main.body.getD i (.Pass ⟨0, 0, 0, 0⟩)
end K35
end
section
open PySem L2
local macro_rules | `(tactic| walk_at "T.n") => `(tactic| fail "no names")
local macro_rules | `(tactic| walk_at "T.a") => `(tactic| first | (with_reducible exact pa_nil) | ((with_reducible refine' a_cons ?a1 ?a2); (case a1 => walk_at "T.e"); (case a2 => walk_at "T.a")))
local macro_rules | `(tactic| walk_at "T.o") => `(tactic| first | (with_reducible exact po_none) | ((with_reducible refine' po_someU ?a1); (case a1 => walk_at "T.e")))
local macro_rules | `(tactic| walk_at "T.cmp") => `(tactic| first | (with_reducible exact op_inL) | (with_reducible exact op_notInL) | (with_reducible exact op_isNotU) | (with_reducible exact op_lt.n0) | (with_reducible exact op_le.n0) | (with_reducible exact op_gt.n0) | (with_reducible exact op_ge.n0) | ((with_reducible refine' op_eqU ?a1); (case a1 => exact Room.units (by assumption))) | ((with_reducible refine' op_neU ?a1); (case a1 => exact Room.units (by assumption))))
local macro_rules | `(tactic| walk_at "T.op") => `(tactic| first | (with_reducible exact op_addU) | (with_reducible exact op_sub.n0) | (with_reducible exact op_mulU) | (with_reducible exact op_mod.n) | (with_reducible exact op_fdiv.n) | (with_reducible exact op_pow.n) | (with_reducible exact op_shl.n) | (with_reducible exact op_shr.n) | (with_reducible exact op_and.n0) | (with_reducible exact op_xor.n0) | (with_reducible exact op_or.n0))
local macro_rules | `(tactic| walk_at "T.ty") => `(tactic| first | ((with_reducible refine' ty_int ?a1 ?a9); (case a1 => with_reducible assumption); (case a9 => rfl)) | ((with_reducible refine' ty_bool ?a1 ?a9); (case a1 => with_reducible assumption); (case a9 => rfl)) | ((with_reducible refine' ty_str ?a1 ?a9); (case a1 => with_reducible assumption); (case a9 => rfl)))
local macro_rules | `(tactic| walk_at "T.f") => `(tactic| ((with_reducible refine' fn_can _ ?a0 ?a9 ?a1 ?a2); (case a0 => with_reducible assumption); (case a9 => exact ⟨rfl, rfl, rfl, rfl, rfl⟩); (case a1 => exact Room.mono (by assumption) (by first | decide | exact Nat.le_refl _)); (case a2 => walk_at "T.a")))
local macro_rules | `(tactic| walk_at "T.b") => `(tactic| first | walk_at "T.f" | ((with_reducible refine' fn_len ?a0 ?a9 ?a1); (case a0 => with_reducible assumption); (case a9 => rfl); (case a1 => walk_at "T.a")) | ((with_reducible refine' fn_isinst ?a0 ?a9 ?a1); (case a0 => with_reducible assumption); (case a9 => rfl); (case a1 => walk_at "T.a")) | ((with_reducible refine' fn_max ?a0 ?a9 ?a1); (case a0 => with_reducible assumption); (case a9 => rfl); (case a1 => walk_at "T.a")) | ((with_reducible refine' fn_min ?a0 ?a9 ?a1); (case a0 => with_reducible assumption); (case a9 => rfl); (case a1 => walk_at "T.a")) | ((with_reducible refine' fn_str ?a0 ?a9 ?a1); (case a0 => with_reducible assumption); (case a9 => rfl); (case a1 => walk_at "T.a")) )
local macro_rules | `(tactic| walk_at "T.m") => `(tactic| first | ((with_reducible refine' m_append ?a1 ?a2); (case a1 => walk_at "T.e"); (case a2 => walk_at "T.a")) | ((with_reducible refine' m_strip ?a1 ?a2); (case a1 => walk_at "T.e"); (case a2 => walk_at "T.a")) | ((with_reducible refine' m_count ?a1 ?a2); (case a1 => walk_at "T.e"); (case a2 => walk_at "T.a")) )
local macro_rules | `(tactic| walk_at "T.c") => `(tactic| fail "no comprehension's names")
local macro_rules | `(tactic| walk_at "T.e") => `(tactic| first | (with_reducible exact pe_int) | (with_reducible exact pe_str) | (with_reducible exact pe_bl) | (with_reducible exact pe_non) | walk_at "T.n" | walk_at "T.ty" | ((with_reducible refine' pe_op ?a1 ?a2 ?a3); (case a1 => walk_at "T.op"); (case a2 => walk_at "T.e"); (case a3 => walk_at "T.e")) | ((with_reducible refine' e_cmp ?a1 ?a2 ?a3); (case a1 => walk_at "T.cmp"); (case a2 => walk_at "T.e"); (case a3 => walk_at "T.e")) | ((with_reducible refine' e_chain ?a1 ?a2 ?a3 ?a4 ?a5); (case a1 => walk_at "T.cmp"); (case a2 => walk_at "T.cmp"); (case a3 => walk_at "T.e"); (case a4 => walk_at "T.e"); (case a5 => walk_at "T.e")) | ((with_reducible refine' pe_slice slU ?a1 ?a2 ?a3); (case a1 => walk_at "T.e"); (case a2 => walk_at "T.o"); (case a3 => walk_at "T.o")) | ((with_reducible refine' ix_at ?a1 ?a2); (case a1 => walk_at "T.e"); (case a2 => walk_at "T.e")) | ((with_reducible refine' pe_tup ?a1); (case a1 => walk_at "T.a")) | ((with_reducible refine' pe_lst ?a1); (case a1 => walk_at "T.a")) | ((with_reducible refine' pe_andU ?a1 ?a2); (case a1 => walk_at "T.e"); (case a2 => walk_at "T.e")) | ((with_reducible refine' pe_one ?a1); (case a1 => walk_at "T.e")) | ((with_reducible refine' pe_notU ?a1); (case a1 => walk_at "T.e")) | ((with_reducible refine' e_neg ?a1); (case a1 => walk_at "T.e")) | walk_at "T.b" | walk_at "T.m" | ((with_reducible refine' e_fmt ?a1); (case a1 => walk_at "T.e")) | ((with_reducible refine' e_fstr ?a1); (case a1 => walk_at "T.j")) | walk_at "T.c")
local macro_rules | `(tactic| walk_at "T.j") => `(tactic| first | (with_reducible exact pj_nil) | ((with_reducible refine' pj_cons ?a1 ?a2); (case a1 => walk_at "T.e"); (case a2 => walk_at "T.j")))
local macro_rules | `(tactic| walk_at "T.t") => `(tactic| first | ((with_reducible refine' t_cmp ?a1 ?a2 ?a3); (case a1 => walk_at "T.cmp"); (case a2 => walk_at "T.e"); (case a3 => walk_at "T.e")) | ((with_reducible refine' pt_not ?a1); (case a1 => walk_at "T.t")) | ((with_reducible refine' PW.pt ?a1); (case a1 => walk_at "T.w")) | ((with_reducible refine' t_tru ?a1); (case a1 => walk_at "T.e")))
local macro_rules | `(tactic| walk_at "T.w") => `(tactic| first | ((with_reducible refine' pw_and ?a1 ?a2); (case a1 => walk_at "T.t"); (case a2 => walk_at "T.w")) | ((with_reducible refine' pw_or ?a1 ?a2); (case a1 => walk_at "T.t"); (case a2 => walk_at "T.w")) | ((with_reducible refine' pw_and1 ?a1); (case a1 => walk_at "T.t")) | ((with_reducible refine' pw_or1 ?a1); (case a1 => walk_at "T.t")))
local macro_rules | `(tactic| walk_at "T.i") => `(tactic| first | ((with_reducible refine' it_r1 ?a0 ?a9 ?a1); (case a0 => with_reducible assumption); (case a9 => rfl); (case a1 => walk_at "T.a")) | ((with_reducible refine' it_r3 ?a0 ?a9 ?a1); (case a0 => with_reducible assumption); (case a9 => rfl); (case a1 => walk_at "T.a")) | ((with_reducible refine' it_enum ?a0 ?a9 ?a1); (case a0 => with_reducible assumption); (case a9 => rfl); (case a1 => walk_at "T.a")) | ((with_reducible refine' pi_lst ?a1); (case a1 => walk_at "T.e")))
local macro_rules | `(tactic| walk_at "T.gn") => `(tactic| fail "no names")
local macro_rules | `(tactic| walk_at "T.g") => `(tactic| first | walk_at "T.gn" | ((with_reducible refine' g_sub ?a1 ?a2); (case a1 => walk_at "T.e"); (case a2 => walk_at "T.e")) | ((with_reducible refine' g_tupL ?a1); (case a1 => walk_at "T.gs")) )
local macro_rules | `(tactic| walk_at "T.gs") => `(tactic| first | (with_reducible exact pgs_nil) | ((with_reducible refine' gs_cons ?a1 ?a2); (case a1 => walk_at "T.g"); (case a2 => walk_at "T.gs")))
local macro_rules | `(tactic| walk_at "T.sc") => `(tactic| fail "no comprehension's names")
local macro_rules | `(tactic| walk_at "T.st") => `(tactic| first | ((with_reducible refine' ps_ret ?a1); (case a1 => walk_at "T.e")) | walk_at "T.sc" | ((with_reducible refine' s_asg ?a1 ?a2); (case a1 => walk_at "T.e"); (case a2 => walk_at "T.g")) | ((with_reducible refine' s_expr ?a1); (case a1 => walk_at "T.e")) | ((with_reducible refine' ps_if ?a1 ?a2 ?a3); (case a1 => walk_at "T.t"); (case a2 => walk_at "T.s"); (case a3 => walk_at "T.s")) | ((with_reducible refine' s_for ?a1 ?a2 ?a3); (case a1 => walk_at "T.i"); (case a2 => walk_at "T.g"); (case a3 => walk_at "T.s")) | (with_reducible exact s_raise))
local macro_rules | `(tactic| walk_at "T.s") => `(tactic| first | (with_reducible exact pss_nil) | ((with_reducible refine' pss_one ?a1); (case a1 => walk_at "T.st")) | ((with_reducible refine' pss_cons ?a1 ?a2); (case a1 => walk_at "T.st"); (case a2 => walk_at "T.s")))
local macro_rules | `(tactic| walk_at "T.pf") => `(tactic| first | (with_reducible exact pf_nil) | ((with_reducible refine' pf_one ?a1); (case a1 => walk_at "T.t")))
local macro_rules | `(tactic| walk_at "T.top1") => `(tactic| ((refine' pss_one ?a1); (case a1 => walk_at "T.st")))
local macro_rules | `(tactic| walk_at "T.top") => `(tactic| ((refine' pss_cons ?a1 ?a2); (case a1 => walk_at "T.st"); (case a2 => walk_at "T.s")))
section
namespace K35
open PySem L2
section
variable {P : Program} {w : World} {K : PySem.W.Frag} {mg : Str → Option Value} {base : Heap}
abbrev sNW : Stmt := top 4
abbrev sInit : Stmt := clsStmt sNW 0
theorem scInit : FnScope ["self", "at"] ["self", "at"] (defScope sInit) := ⟨rfl, rfl, rfl, by decide +kernel, rfl, by decide +kernel, by decide +kernel⟩
local macro_rules | `(tactic| walk_at "T.n") => `(tactic| with_reducible first | exact vn "self" 0 | exact vn "at" 1)
theorem ok_init {C B f : Addr} {fd : FuncData} (D : Fun K "__init__" "NoWire.__init__" sInit f fd) (Z : ExnI K C f) (W : ExnB K B) (S : ExnS K C) (hm : mg "BeatError" = some (.ref B)) : FnOk P w K mg base CX0 1 f fd ["self", "at"] (spInit C) := by
 refine D.ok (k := 0) scInit (fun vs H Q E h => ?_) (fun cdv A outer s H vs Q E hr h => ?_)
 all_goals
  unfold spInit at h
  split at h
 ·rfl
 ·exact h.elim
 ·rename_i x n
  obtain ⟨⟨n0, n1⟩, hx, q⟩ := h
  have nd := scInit.nd
  refine ⟨_, (by (refine' pss_cons ?a1 ?a2); (case a1 => (refine' s_expr ?b1); (case b1 => (refine' e_init1 (C := C) (B := B) ?c0 ?c1 ?c2 ?c9 ?c3); (case c0 => assumption); (case c1 => assumption); (case c2 => assumption); (case c9 => rfl); (case c3 => walk_at "T.a"))); (case a2 => (refine' pss_one ?d1); (case d1 => (refine' s_at (C := C) ?e0 ?e1 ?e2 ?e3); (case e0 => assumption); (case e1 => assumption); (case e2 => walk_at "T.e"); (case e3 => walk_at "T.e")))), ?_⟩
  have hs : (strI n).length ≤ 4 := by
   have := strI_short n.toNat (by omega)
   rw [show ((n.toNat : Nat) : Int) = n by omega] at this
   exact this
  have hl : n.natAbs.log2 < 1920 := by
   rcases Nat.eq_zero_or_pos n.natAbs with e | e
   ·rw [e]; decide
   ·exact (Nat.log2_lt (by omega)).mpr (Nat.lt_of_lt_of_le (show n.natAbs < 2 ^ 11 by omega) (Nat.pow_le_pow_right (by decide) (by decide)))
  have h16 : ((Str.empty : Str) ++ ("no wire at word " : Str)).length = 16 := by rw [app_len]; rfl
  have hb : ((Str.empty : Str) ++ ("no wire at word " : Str) ++ strI n).length ≤ sizeLine := by rw [app_len, h16]; exact le_line (by omega)
  refine ⟨by rw [h16]; exact le_line (by omega), hl, hb, hb, ?_⟩
  refine ⟨_, _, rfl, hx, ?_⟩
  exact ⟨x, rfl, hx, q⟩
 ·exact h.elim
end
end K35
end
section
namespace K35
open PySem L2
section
variable {P : Program} {w : World} {K : PySem.W.Frag} {mg : Str → Option Value} {base : Heap}
def WL (H : Hp) (v : V) (cs : List (List Bool)) : Prop := ∃ l, v = .ref l ∧ H l = some (.lst (cs.map fun c => V.str (bs c)))
theorem WL.mono {H H' : Hp} {v : V} {cs : List (List Bool)} (h : WL H v cs) (s : Same H H') : WL H' v cs := let ⟨l, e, h1⟩ := h; ⟨l, e, s _ _ h1⟩
def WP (H : Hp) (v : V) (n : Nat) (xs : List Nat) : Prop := ∃ l, v = .ref l ∧ H l = some (.lst ((List.range (pcs n xs)).map fun i => V.str (mkS (pce n xs i))))
abbrev sWordsOf : Stmt := top 12
def spWordsOf : Sp := fun vs H Q _ => match vs with
 | [.str z, .int n0] => ∃ (xs : List Nat) (n : Nat), z = mkS xs ∧ n0 = (n : Nat) ∧ 1 ≤ n ∧ n ≤ 6 ∧ xs.length ≤ 2000 ∧ ∀ v H', Same H H' → WP H' v n xs → Q v H'
 | _ => False
theorem scWordsOf : FnScope ["wire", "n"] ["wire", "n"] (defScope sWordsOf) := ⟨rfl, rfl, rfl, by decide +kernel, rfl, by decide +kernel, by decide +kernel⟩
local macro_rules | `(tactic| walk_at "T.n") => `(tactic| with_reducible first | exact vn "place" 0 | exact vn "wire" 1 | exact vn "n" 2)
local macro_rules | `(tactic| walk_at "T.gn") => `(tactic| with_reducible first | exact gn "place" 0 (by with_unfolding_all assumption))
local macro_rules | `(tactic| walk_at "T.c") => `(tactic| (have ndc : (["place", "wire", "n"] : List Str).Nodup := (by decide +kernel)); ((with_reducible refine' c_comp ["place", "wire", "n"] [0, 1] ?b1 ?b2 (fun cl C s H fp => ?b3) (fun cl C s H fp => ?b4) (fun cl C s H fp => ?b5)); (case b1 => exact ndc); (case b2 => walk_at "T.i"); (case b3 => walk_at "T.g"); (case b4 => walk_at "T.pf"); (case b5 => walk_at "T.e")))
local macro_rules | `(tactic| walk_at "T.n") => `(tactic| with_reducible first | exact vn "wire" 0 | exact vn "n" 1)
theorem ok_wordsOf (D : FnX K mg "words_of" sWordsOf ["wire", "n"]) (g1 : mg "range" = none) (g2 : mg "len" = none) : Can P w K mg base "words_of" 1 ["wire", "n"] spWordsOf := by
 refine can_fn (k := 0) D scWordsOf (fun vs H Q E h => ?_) (fun f cdv A outer s H vs Q E hr h => ?_)
 all_goals
  unfold spWordsOf at h
  split at h
 ·rfl
 ·exact h.elim
 ·rename_i z n0
  obtain ⟨xs, n, rfl, rfl, n1, n6, l2, q⟩ := h
  have nd := scWordsOf.nd
  have lx := mkS_len xs
  have pl := pcs_le (xs := xs) n1
  refine ⟨_, (by walk_at "T.top1"), ?_⟩
  refine ⟨_, lenStr (by rw [lx]; exact le_lineB (by omega)), ?_⟩
  rw [lx]
  refine ⟨⟨by omega, by omega, by omega, by omega, by omega, by omega, by omega⟩, fun C hC => ?_⟩
  rw [rng_pcs xs n1 n6]
  refine comp_by (it_rangeS 0 (n : Int) (pcs n xs)) (fun i τ H2 ys => (∃ v, τ = [v, some (.str (mkS xs)), some (.int (n : Nat))]) ∧ H2 = upd H C (.lst ys) ∧ ys = (List.range i).map fun i => V.str (mkS (pce n xs i))) (by simp; exact le_lineB (by omega)) ⟨⟨none, rfl⟩, rfl, rfl⟩ ?_ ?_ ?_
  ·rintro i τ H2 ys hi ⟨_, rfl, rfl⟩
   exact ⟨trivial, upd_same, by rw [List.length_map, List.length_range]; exact Nat.le_refl _⟩
  ·rintro i x τ H2 ys hi hx ⟨⟨v, rfl⟩, rfl, rfl⟩
   have hi' : i < pcs n xs := by simpa using hi
   have ex : x = .int ((i * n : Nat) : Int) := by
    rw [List.getElem?_map, List.getElem?_range hi'] at hx
    have := (Option.some.inj hx).symm
    rw [this]; show V.int (0 + (i : Int) * (n : Int)) = _; rw [Int.zero_add, Int.natCast_mul]
   subst ex
   have e3 := pcs_lt n1 hi'
   refine ⟨by rw [lx]; exact le_lineB (by omega), ?_⟩
   rw [slice_cut xs (Nat.le_of_lt e3)]
   refine ⟨upd_same, ⟨_, rfl⟩, upd_upd, ?_⟩
   rw [List.range_succ, List.map_append]
   rfl
  ·rintro τ H2 ys ⟨_, rfl, rfl⟩
   rw [List.length_map, List.length_range]
   exact q _ _ (Same.upd hC) ⟨C, rfl, upd_same⟩
 ·exact h.elim
end
section
variable {P : Program} {w : World} {K : PySem.W.Frag} {mg : Str → Option Value} {base : Heap}
abbrev sWord : Stmt := top 18
def spWord : Sp := fun vs H Q _ => match vs with
 | [.str z, .int n] => ∃ (c : List Nat) (n' : Nat), n = (n' : Nat) ∧ z = mkS c ∧ c.length ≤ 1000 ∧ Q (.bl (okP n' c)) H
 | _ => False
theorem scWord : FnScope ["thing", "n"] ["thing", "n"] (defScope sWord) := ⟨rfl, rfl, rfl, by decide +kernel, rfl, by decide +kernel, by decide +kernel⟩
local macro_rules | `(tactic| walk_at "T.n") => `(tactic| with_reducible first | exact vn "thing" 0 | exact vn "n" 1)
theorem ok_word (D : FnX K mg "is_word" sWord ["thing", "n"]) (g1 : mg "isinstance" = none) (g2 : mg "str" = none) (g3 : mg "len" = none) : Can P w K mg base "is_word" 1 ["thing", "n"] spWord := by
 refine can_fn (k := 0) D scWord (fun vs H Q E h => ?_) (fun f cdv A outer s H vs Q E hr h => ?_)
 all_goals
  unfold spWord at h
  split at h
 ·rfl
 ·exact h.elim
 ·rename_i z n0
  obtain ⟨c, n, rfl, rfl, hl, q⟩ := h
  have nd := scWord.nd
  have lx := mkS_len c
  refine ⟨_, (by walk_at "T.top1"), ?_⟩
  refine ⟨"str", rfl, by decide, ?_⟩
  refine iteP (by decide) ?_
  refine ⟨_, lenStr (by rw [lx]; exact le_line hl), ?_⟩
  rw [lx]
  unfold okP at q
  by_cases e : c.length = n
  ·refine iteP (decide_eq_true (by rw [e])) ?_
   refine ⟨rfl, by rw [lx]; exact le_line hl, ?_⟩
   show Q (.bl (decide (Txt.stripChars (mkS c) ("01" : Str) = ("" : Str)))) H
   rw [strip_any]
   rw [decide_eq_true e, Bool.true_and] at q
   exact q
  ·refine if_negP (fun z => e (by have := of_decide_eq_true z; injection this)) ?_
   rw [decide_eq_false e, Bool.false_and] at q
   exact q
 ·exact h.elim
end
end K35
end
section
namespace K35
open PySem L2
section
variable {P : Program} {w : World} {K : PySem.W.Frag} {mg : Str → Option Value} {base : Heap}
def NW (P : Program) (w : World) (K : PySem.W.Frag) (mg : Str → Option Value) (base : Heap) (C : Addr) : Prop :=
 ∃ (fI : Addr) (fd : FuncData), ExnI K C fI ∧ FnOk P w K mg base CX0 1 fI fd ["self", "at"] (spInit C) ∧ Binds K fd ["self", "at"] [] ∧ mg "NoWire" = some (.ref C) ∧ PySem.W.keepIn K (.ref C) = true
abbrev sGiven : Stmt := top 20
def spGiven (C : Addr) : Sp := fun vs H Q E => match vs with
 | [cv, .str z] => ∃ (xs : List Nat) (k n : Nat) (rows : Om.Rows), DV H cv (codeD k n rows) ∧ Om.CodeOk k n rows ∧ z = mkS xs ∧ xs.length ≤ 2000 ∧ ∀ v H', Same H H' → WP H' v n xs → Q v H'
 | [_, x] => ∃ Tx, tyN H x = some Tx ∧ Tx ≠ "str" ∧ ∀ d, H d = none → E (.ref C) (some d) (upd H d (.xd [("at", .int 0)]))
 | _ => False
theorem scGiven : FnScope ["code", "wire"] ["code", "wire"] (defScope sGiven) := ⟨rfl, rfl, rfl, by decide +kernel, rfl, by decide +kernel, by decide +kernel⟩
local macro_rules | `(tactic| walk_at "T.n") => `(tactic| with_reducible first | exact vn "code" 0 | exact vn "wire" 1)
local macro_rules | `(tactic| walk_at "T.st") => `(tactic| ((with_reducible refine' s_raiseW ?a0 ?a1 ?a2 ?a3 ?a4 ?a5 ?a6); (case a0 => with_reducible assumption); (case a1 => with_reducible assumption); (case a2 => with_reducible assumption); (case a3 => with_reducible assumption); (case a4 => with_reducible assumption); (case a5 => exact Room.mono (by assumption) (by first | decide | exact Nat.le_refl _)); (case a6 => walk_at "T.a")))
theorem ok_given {C : Addr} (D : FnX K mg "given_words" sGiven ["code", "wire"]) (g1 : mg "isinstance" = none) (g2 : mg "str" = none) (c1 : Can P w K mg base "words_of" 1 ["wire", "n"] spWordsOf) (Z : NW P w K mg base C) : CanY P w K mg base "given_words" 3 ["code", "wire"] (spGiven C) := by
 obtain ⟨fI, fd, Z1, F1, B1, m1, k1⟩ := Z
 refine canY_fn (k := 2) D scGiven (fun vs H Q E h => ?_) (fun f cdv A outer s H vs Q E hr h => ?_)
 all_goals
  unfold spGiven at h
  split at h
 ·rfl
 ·rfl
 ·exact h.elim
 ·rename_i cv z
  obtain ⟨xs, k, n, rows, hc, ok, rfl, l2, q⟩ := h
  have nd := scGiven.nd
  obtain ⟨a, b, ss, rfl, ha, hb, hss⟩ := code_inv hc
  refine ⟨_, (by walk_at "T.top"), ?_⟩
  refine ⟨"str", rfl, by decide, iteF ?_⟩
  refine ⟨_, gt ha (by decide) rfl, ?_⟩
  exact ⟨xs, n, rfl, rfl, ok.n1, ok.n6, l2, q⟩
 ·rename_i cv x _
  obtain ⟨Tx, ht, hne, q⟩ := h
  have nd := scGiven.nd
  refine ⟨_, (by walk_at "T.top"), ?_⟩
  refine ⟨Tx, ht, by decide, ?_⟩
  have e : (Tx == "str" || (Tx == "bool" && "str" == "int")) = false := by
   have h1 : (Tx == "str") = false := beq_false_of_ne hne
   have h2 : (("str" : String) == "int") = false := by decide
   rw [h1, h2, Bool.and_false]; rfl
  rw [e]
  refine iteP (by decide) ?_
  exact ⟨0, rfl, ⟨by decide, by decide⟩, q⟩
 ·exact h.elim
end
end K35
end
section
namespace K35
open PySem L2
section
variable {P : Program} {w : World} {K : PySem.W.Frag} {mg : Str → Option Value} {base : Heap}
abbrev sWholeW : Stmt := top 22
def spWholeW (C : Addr) : Sp := fun vs H Q E => match vs with
 | [cv, .str z] => ∃ (xs : List Nat) (k n : Nat) (rows : Om.Rows), DV H cv (codeD k n rows) ∧ Om.CodeOk k n rows ∧ z = mkS xs ∧ xs.length ≤ 2000 ∧ (∀ i d H', FBad n xs i → Same H H' → H' d = none → E (.ref C) (some d) (upd H' d (.xd [("at", .int (i : Nat))]))) ∧ ∀ v H', AllP n xs → Same H H' → WP H' v n xs → Q v H'
 | [_, x] => ∃ Tx, tyN H x = some Tx ∧ Tx ≠ "str" ∧ ∀ d, H d = none → E (.ref C) (some d) (upd H d (.xd [("at", .int 0)]))
 | _ => False
theorem scWholeW : FnScope ["code", "wire", "words", "at", "word"] ["code", "wire"] (defScope sWholeW) := ⟨rfl, rfl, rfl, by decide +kernel, rfl, by decide +kernel, by decide +kernel⟩
local macro_rules | `(tactic| walk_at "T.n") => `(tactic| with_reducible first | exact vn "code" 0 | exact vn "wire" 1 | exact vn "words" 2 | exact vn "at" 3 | exact vn "word" 4)
local macro_rules | `(tactic| walk_at "T.gn") => `(tactic| with_reducible first | exact gn "words" 2 (by with_unfolding_all assumption) | exact gn "at" 3 (by with_unfolding_all assumption) | exact gn "word" 4 (by with_unfolding_all assumption))
local macro_rules | `(tactic| walk_at "T.b") => `(tactic| ((with_reducible refine' fn_canY "given_words" ?a0 ?a1 ?a2); (case a0 => with_reducible assumption); (case a1 => exact Room.mono (by assumption) (by first | decide | exact Nat.le_refl _)); (case a2 => walk_at "T.a")))
local macro_rules | `(tactic| walk_at "T.st") => `(tactic| first | ((with_reducible refine' s_for (hp := PassesOwn.leaving) ?a1 ?a2 ?a3); (case a1 => walk_at "T.i"); (case a2 => walk_at "T.g"); (case a3 => walk_at "T.s")) | ((with_reducible refine' s_raiseW ?a0 ?a1 ?a2 ?a3 ?a4 ?a5 ?a6); (case a0 => with_reducible assumption); (case a1 => with_reducible assumption); (case a2 => with_reducible assumption); (case a3 => with_reducible assumption); (case a4 => with_reducible assumption); (case a5 => exact Room.mono (by assumption) (by first | decide | exact Nat.le_refl _)); (case a6 => walk_at "T.a")))
theorem ok_wholeW {C : Addr} (D : FnX K mg "whole_words" sWholeW ["code", "wire"]) (g1 : mg "enumerate" = none) (c1 : CanY P w K mg base "given_words" 3 ["code", "wire"] (spGiven C)) (c2 : Can P w K mg base "is_word" 1 ["thing", "n"] spWord) (Z : NW P w K mg base C) : CanY P w K mg base "whole_words" 4 ["code", "wire"] (spWholeW C) := by
 obtain ⟨fI, fd, Z1, F1, B1, m1, k1⟩ := Z
 refine canY_fn (k := 3) D scWholeW (fun vs H Q E h => ?_) (fun f cdv A outer s H vs Q E hr h => ?_)
 all_goals
  unfold spWholeW at h
  split at h
 ·rfl
 ·rfl
 ·exact h.elim
 ·rename_i cv z
  obtain ⟨xs, k, n, rows, hc, ok, rfl, l2, qe, q⟩ := h
  have nd := scWholeW.nd
  obtain ⟨a, b, ss, rfl, ha, hb, hss⟩ := code_inv hc
  have pl := pcs_le (xs := xs) ok.n1
  refine ⟨_, (by walk_at "T.top"), ?_⟩
  refine ⟨xs, k, n, rows, hc, ok, rfl, l2, fun v H1 s1 wl => ?_⟩
  obtain ⟨l, rfl, hl⟩ := wl
  refine ⟨⟨_, SqL.of hl⟩, ?_⟩
  refine for_pr (it_enumP _ l _) (fun i σ H2 => (∃ (v3 v4 : Option V), σ = [some (.ref a), some (.str (mkS xs)), some (.ref l), v3, v4]) ∧ Same H1 H2 ∧ ∀ j, j < i → okP n (pce n xs j) = true)
   ⟨⟨none, none, rfl⟩, Same.refl _, fun j hj => absurd hj (Nat.not_lt_zero _)⟩ (fun i σ H2 _ ⟨_, s, _⟩ => s _ _ hl) ?_ ?_
  ·rintro i t σ H2 hi ⟨⟨v3, v4, rfl⟩, s2, hj⟩ ht
   have hi' : i < pcs n xs := by simpa using hi
   have er : ((List.range (pcs n xs)).map fun i => V.str (mkS (pce n xs i))).getD i .non = .str (mkS (pce n xs i)) := by simp [List.getD_eq_getElem?_getD, hi']
   dsimp only
   rw [er]
   refine ⟨_, .inl upd_same, rfl, rfl, ?_⟩
   have s3 := s2.trans (Same.upd (o := .tup [.int (i : Nat), .str (mkS (pce n xs i))]) ht)
   refine ⟨_, gt ((s1.trans s3) _ _ ha) (by decide) rfl, ?_⟩
   have n6 := ok.n6
   have lc := pce_len n xs i
   refine ⟨pce n xs i, n, rfl, rfl, by omega, ?_⟩
   cases e : okP n (pce n xs i) with
   | true =>
    refine iteF ?_
    refine ⟨⟨_, _, rfl⟩, s3, fun j hj' => ?_⟩
    rcases Nat.lt_or_ge j i with z | z
    ·exact hj j z
    ·rw [show j = i by omega]; exact e
   | false =>
    refine iteP (by decide) ?_
    exact ⟨_, rfl, ⟨by omega, by omega⟩, fun d hd => qe i d _ ⟨hi', e, hj⟩ (s1.trans s3) hd⟩
  ·rintro σ H2 ⟨⟨v3, v4, rfl⟩, s2, hj⟩
   rw [List.length_map, List.length_range] at hj
   exact q _ _ hj (s1.trans s2) ⟨l, rfl, s2 _ _ hl⟩
 ·rename_i cv x _
  obtain ⟨Tx, ht, hne, q⟩ := h
  have nd := scWholeW.nd
  refine ⟨_, (by walk_at "T.top"), ?_⟩
  cases x with
  | str z => exact absurd (Option.some.inj ht) (fun z => hne z.symm)
  | _ => exact ⟨Tx, ht, hne, q⟩
 ·exact h.elim
end
end K35
end
section
namespace K35
open PySem L2
section
variable {P : Program} {w : World} {K : PySem.W.Frag} {mg : Str → Option Value} {base : Heap}
abbrev sCell : Stmt := top 35
def spCell (K : PySem.W.Frag) : Sp := fun vs H Q _ => match vs with
 | [.ref a, .int k] => ∃ ns : List Int, SqL K H a (ns.map V.int) ∧ 0 ≤ k ∧ k ≤ 1000 ∧ ∀ c, Q (.int c) H
 | _ => False
theorem scCell : FnScope ["script", "k"] ["script", "k"] (defScope sCell) := ⟨rfl, rfl, rfl, by decide +kernel, rfl, by decide +kernel, by decide +kernel⟩
local macro_rules | `(tactic| walk_at "T.n") => `(tactic| with_reducible first | exact vn "script" 0 | exact vn "k" 1)
local macro_rules | `(tactic| walk_at "T.b") => `(tactic| ((with_reducible refine' fn_lenS ?a0 ?a9 ?a1); (case a0 => with_reducible assumption); (case a9 => rfl); (case a1 => walk_at "T.a")))
local macro_rules | `(tactic| walk_at "T.ty") => `(tactic| ((with_reducible refine' ix_atS ?a1 ?a2); (case a1 => walk_at "T.e"); (case a2 => walk_at "T.e")))
theorem ok_cell (D : FnX K mg "_law_cell" sCell ["script", "k"]) (g1 : mg "len" = none) : Can P w K mg base "_law_cell" 1 ["script", "k"] (spCell K) := by
 refine can_fn (k := 0) D scCell (fun vs H Q E h => ?_) (fun f cdv A outer s H vs Q E hr h => ?_)
 all_goals
  unfold spCell at h
  split at h
 ·rfl
 ·exact h.elim
 ·rename_i a k
  obtain ⟨ns, hS, h0, h1, q⟩ := h
  have nd := scCell.nd
  refine ⟨_, (by walk_at "T.top"), ?_⟩
  refine ⟨_, hS, ite2 (fun h2 => ?_) (fun h2 => ?_)⟩
  ·have h2' : k < ((ns.map V.int).length : Int) := of_decide_eq_true h2
   rw [List.length_map] at h2'
   have h3 : k.toNat < ns.length := by omega
   exact ⟨_, .int ns[k.toNat], hS, atI_int h0 (by rw [List.getElem?_map, List.getElem?_eq_getElem h3]; rfl), q _⟩
  ·exact ⟨.inl ⟨by decide, by decide⟩, .inr ⟨by omega, by omega⟩, .inl ⟨by decide, by decide⟩, q _⟩
 ·exact h.elim
end
end K35
end
section
namespace K35
open PySem L2
section
variable {P : Program} {w : World} {K : PySem.W.Frag} {mg : Str → Option Value} {base : Heap}
abbrev sStore : Stmt := top 36
def spStore : Sp := fun vs H Q _ => match vs with
 | [.int _] => ∀ p g b, H p = none → Q (.ref p) (upd H p (.lst [.int g, .int b, .int 1]))
 | _ => False
theorem scStore : FnScope ["cell", "great"] ["cell"] (defScope sStore) := ⟨rfl, rfl, rfl, by decide +kernel, rfl, by decide +kernel, by decide +kernel⟩
local macro_rules | `(tactic| walk_at "T.n") => `(tactic| with_reducible first | exact vn "cell" 0 | exact vn "great" 1)
local macro_rules | `(tactic| walk_at "T.gn") => `(tactic| with_reducible first | exact gn "great" 1 (by with_unfolding_all assumption))
theorem ok_store (D : FnX K mg "_law_store" sStore ["cell"]) : Can P w K mg base "_law_store" 1 ["cell"] spStore := by
 refine can_fn (k := 0) D scStore (fun vs H Q E h => ?_) (fun f cdv A outer s H vs Q E hr h => ?_)
 all_goals
  unfold spStore at h
  split at h
 ·rfl
 ·exact h.elim
 ·rename_i c
  have nd := scStore.nd
  refine ⟨_, (by walk_at "T.top"), ?_⟩
  refine ⟨⟨by decide, by decide, by decide⟩, ite2 (fun h2 => ?_) (fun h2 => ?_)⟩
  ·exact ⟨(by decide : (0 : Int) < 2147483629), le_line (Nat.le_of_ble_eq_true rfl), fun p hp => h p _ _ hp⟩
  ·exact ⟨(by decide : (0 : Int) < 2147483629), le_line (Nat.le_of_ble_eq_true rfl), fun p hp => h p _ _ hp⟩
 ·exact h.elim
abbrev sTake : Stmt := top 37
theorem scTake : FnScope ["store", "many", "told", "one"] ["store", "many"] (defScope sTake) := ⟨rfl, rfl, rfl, by decide +kernel, rfl, by decide +kernel, by decide +kernel⟩
local macro_rules | `(tactic| walk_at "T.n") => `(tactic| with_reducible first | exact vn "store" 0 | exact vn "many" 1 | exact vn "told" 2 | exact vn "one" 3)
local macro_rules | `(tactic| walk_at "T.gn") => `(tactic| with_reducible first | exact gn "told" 2 (by with_unfolding_all assumption) | exact gn "one" 3 (by with_unfolding_all assumption))
theorem ok_take (D : FnX K mg "_law_take" sTake ["store", "many"]) : Can P w K mg base "_law_take" 1 ["store", "many"] spTake := by
 refine can_fn (k := 0) D scTake (fun vs H Q E h => ?_) (fun f cdv A outer s H vs Q E hr h => ?_)
 all_goals
  unfold spTake at h
  split at h
 ·rfl
 ·exact h.elim
 ·rename_i a many
  obtain ⟨⟨g, b, c, ha⟩, h0, h1, k⟩ := h
  have nd := scTake.nd
  refine ⟨_, (by walk_at "T.top"), ?_⟩
  have fin : ∀ (H1 : Hp) (r g' c' : Int), H1 = upd H a (.lst [.int g', .int b, .int c']) → 0 ≤ r → r < many → Q (.int r) H1 := fun H1 r g' c' e r0 r1 => by
   subst e
   exact k r _ r0 r1 ⟨_, _, _, upd_same⟩ fun y o e n => by rw [upd_ne n]; exact e
  refine ⟨.int g, gl ha (by decide) rfl, ite2 (fun h2 => ?_) (fun h2 => ?_)⟩
  ·refine ⟨.int g, gl ha (by decide) rfl, h0, ?_⟩
   refine ⟨.int g, gl ha (by decide) rfl, ⟨h0, h1⟩, _, 0, ha, rfl, ?_⟩
   exact fin _ _ _ _ rfl (Int.emod_nonneg _ (by omega)) (Int.emod_lt_of_pos _ h0)
  ·refine ⟨.int c, gl ha (by decide) rfl, _, 2, ha, rfl, ?_⟩
   have h1a : upd H a (.lst ([V.int g, V.int b, V.int c].set 2 (V.int (c + 1)))) a = some (.lst [.int g, .int b, .int (c + 1)]) := upd_same
   refine ⟨.int b, gl h1a (by decide) rfl, .int (c + 1), gl h1a (by decide) rfl, .inl ⟨by decide, by decide⟩, .inr ⟨by decide, by decide⟩, (by decide : (0 : Int) < 2147483647), ?_⟩
   have b1 := Int.emod_nonneg ((b + 7919 * (c + 1)) * 48271) (show (2147483647 : Int) ≠ 0 by decide)
   have b2 := Int.emod_lt_of_pos ((b + 7919 * (c + 1)) * 48271) (show (0 : Int) < 2147483647 by decide)
   generalize ((b + 7919 * (c + 1)) * 48271) % 2147483647 = x1 at b1 b2 ⊢
   refine ⟨.inl ⟨by omega, by omega⟩, (by decide : (0 : Int) < 2147483629), ?_⟩
   refine ⟨.int (c + 1), gl h1a (by decide) rfl, .inl ⟨by decide, by decide⟩, .inr ⟨by decide, by decide⟩, (by decide : (0 : Int) < 2147483587), ?_⟩
   refine ⟨⟨by decide, by decide⟩, h0, ?_⟩
   exact fin _ _ _ _ rfl (Int.emod_nonneg _ (by omega)) (Int.emod_lt_of_pos _ h0)
 ·exact h.elim
abbrev sWordN : Stmt := top 38
theorem scWordN : FnScope ["number", "n", "word", "k"] ["number", "n"] (defScope sWordN) := ⟨rfl, rfl, rfl, by decide +kernel, rfl, by decide +kernel, by decide +kernel⟩
local macro_rules | `(tactic| walk_at "T.n") => `(tactic| with_reducible first | exact vn "number" 0 | exact vn "n" 1 | exact vn "word" 2)
local macro_rules | `(tactic| walk_at "T.gn") => `(tactic| with_reducible first | exact gn "number" 0 (by with_unfolding_all assumption) | exact gn "word" 2 (by with_unfolding_all assumption) | exact gn "k" 3 (by with_unfolding_all assumption))
theorem ok_wordN (D : FnX K mg "_law_word" sWordN ["number", "n"]) (g1 : mg "range" = none) : Can P w K mg base "_law_word" 1 ["number", "n"] spWordN := by
 refine can_fn (k := 0) D scWordN (fun vs H Q E h => ?_) (fun f cdv A outer s H vs Q E hr h => ?_)
 all_goals
  unfold spWordN at h
  split at h
 ·rfl
 ·exact h.elim
 ·rename_i x n
  obtain ⟨h0, h1, q⟩ := h
  have nd := scWordN.nd
  refine ⟨_, (by walk_at "T.top"), ?_⟩
  refine ⟨by omega, by omega, for_by (it_range 0 _) (fun i σ H2 => H2 = H ∧ ∃ (y : Int) (w' : List Bool) (v : Option V), σ = [some (.int y), some (.int n), some (.str (bs w')), v] ∧ w'.length = i) ⟨rfl, x, [], none, by rw [bs_nil]; rfl, rfl⟩ (fun _ _ _ _ _ => trivial) ?_ ?_⟩
  ·rintro i z σ H2 hi hx ⟨rfl, y, w', v, rfl, hl⟩
   rw [List.length_map, List.length_range] at hi
   have m0 := Int.emod_nonneg y (show (2 : Int) ≠ 0 by decide)
   have m1 := Int.emod_lt_of_pos y (show (0 : Int) < 2 by decide)
   refine ⟨(by decide : (0 : Int) < 2), _, g01 m0 m1, ⟨?_, ?_⟩⟩
   ·rw [bs_len, bs_len]; exact le_line (by simp; omega)
   ·refine ⟨⟨by decide, by decide⟩, rfl, y / 2, decide (y % 2 = 1) :: w', some z, ?_, by simp [hl]⟩
    rw [bs_app]
    rfl
  ·rintro σ H2 ⟨rfl, y, w', v, rfl, hl⟩
   refine q w' ?_
   rw [List.length_map, List.length_range] at hl
   omega
 ·exact h.elim
end
end K35
end
section
namespace K35
open PySem L2
section
variable {P : Program} {w : World} {K : PySem.W.Frag} {mg : Str → Option Value} {base : Heap}
abbrev sBranch : Stmt := top 39
def spBranch : Sp := fun vs H Q _ => match vs with
 | [.ref a, .int _, .ref pool, .int place, .int letter, .ref sz] => ∃ (ws : List (List Bool)) (k n many : Nat), Sto H a ∧ H pool = some (WS ws) ∧ 1 ≤ ws.length ∧ ws.length ≤ 10 ∧ (∀ w ∈ ws, w.length = n) ∧ H sz = some (.tup [.int k, .int n, .int many]) ∧
   1 ≤ n ∧ n ≤ 6 ∧ 1 ≤ many ∧ many ≤ 8 ∧ 0 ≤ place ∧ place ≤ 8 ∧ 0 ≤ letter ∧ letter ≤ 8 ∧
   ∀ p (w : List Bool) (t : Nat) H', w.length = n → t < many → Sto H' a → Off (At a) H H' → H p = none → H' p = some (.tup [.str (bs w), .int (t : Nat)]) → Q (.ref p) H'
 | _ => False
theorem scBranch : FnScope ["store", "kind", "pool", "place", "letter", "sizes", "k", "n", "many", "behind", "word"] ["store", "kind", "pool", "place", "letter", "sizes"] (defScope sBranch) := ⟨rfl, rfl, rfl, by decide +kernel, rfl, by decide +kernel, by decide +kernel⟩
theorem ws_ne_sto {g b c : Int} (ws : List (List Bool)) : HO.lst [.int g, .int b, .int c] ≠ WS ws := by
 intro z
 unfold WS at z
 injection z with z
 match ws, z with
 | [], z => cases z
 | _ :: _, z => injection z with z1 z2; cases z1
theorem top_get {H : Hp} {p : Addr} {n : Nat} (n1 : 1 ≤ n) (n6 : n ≤ 6) (h : H p = some (.lst [.int 2, .int 4, .int 8, .int 16, .int 32, .int 64])) : ∃ m : Int, 0 < m ∧ m ≤ 64 ∧ getV H (.ref p) ((n : Int) - 1) = some (.int m) := by
 have : n = 1 ∨ n = 2 ∨ n = 3 ∨ n = 4 ∨ n = 5 ∨ n = 6 := by omega
 rcases this with rfl | rfl | rfl | rfl | rfl | rfl
 ·exact ⟨2, by decide, by decide, gl h (by decide) rfl⟩
 ·exact ⟨4, by decide, by decide, gl h (by decide) rfl⟩
 ·exact ⟨8, by decide, by decide, gl h (by decide) rfl⟩
 ·exact ⟨16, by decide, by decide, gl h (by decide) rfl⟩
 ·exact ⟨32, by decide, by decide, gl h (by decide) rfl⟩
 ·exact ⟨64, by decide, by decide, gl h (by decide) rfl⟩
local macro_rules | `(tactic| walk_at "T.n") => `(tactic| with_reducible first | exact vn "store" 0 | exact vn "kind" 1 | exact vn "pool" 2 | exact vn "place" 3 | exact vn "letter" 4 | exact vn "sizes" 5 | exact vn "k" 6 | exact vn "n" 7 | exact vn "many" 8 | exact vn "behind" 9 | exact vn "word" 10)
local macro_rules | `(tactic| walk_at "T.gn") => `(tactic| with_reducible first | exact gn "k" 6 (by with_unfolding_all assumption) | exact gn "n" 7 (by with_unfolding_all assumption) | exact gn "many" 8 (by with_unfolding_all assumption) | exact gn "behind" 9 (by with_unfolding_all assumption) | exact gn "word" 10 (by with_unfolding_all assumption))
theorem ok_branch (D : FnX K mg "_law_branch" sBranch ["store", "kind", "pool", "place", "letter", "sizes"]) (g1 : mg "len" = none) (c1 : Can P w K mg base "_law_take" 1 ["store", "many"] spTake) (c2 : Can P w K mg base "_law_word" 1 ["number", "n"] spWordN) :
  Can P w K mg base "_law_branch" 2 ["store", "kind", "pool", "place", "letter", "sizes"] spBranch := by
 refine can_fn (k := 1) D scBranch (fun vs H Q E h => ?_) (fun f cdv A outer s H vs Q E hr h => ?_)
 all_goals
  unfold spBranch at h
  split at h
 ·rfl
 ·exact h.elim
 ·rename_i a kind pool place letter sz
  obtain ⟨ws, k, n, many, hS, hpool, ws1, ws10, wsl, hsz, n1, n6, m1, m8, p0, p8, l0, l8, q⟩ := h
  have nd := scBranch.nd
  have pa : pool ≠ a := by
   obtain ⟨g, b, c, ha⟩ := hS
   exact (ne_of ha hpool (ws_ne_sto ws)).symm
  refine ⟨_, (by walk_at "T.top"), ?_⟩
  refine ⟨_, .inl hsz, rfl, ?_⟩
  refine ⟨rfl, hS, by omega, by omega, fun t H1 t0 t1 s1 o1 => ?_⟩
  have hp1 := o1 _ _ hpool pa
  refine ⟨_, lenL hp1, s1, by rw [ws_len]; omega, by rw [ws_len]; omega, fun r H2 r0 r1 s2 o2 => ?_⟩
  rw [ws_len] at r1
  obtain ⟨w0, hw0⟩ : ∃ w0, ws[r.toNat]? = some w0 := ⟨_, List.getElem?_eq_getElem (by omega)⟩
  refine ⟨_, gl (o2 _ _ hp1 pa) r0 (ws_get hw0), ?_⟩
  have o12 := o1.trans o2
  try dsimp only [gName, tNext]
  refine seq_by (fun σ H3 => ∃ (t : Int) (w0 : List Bool), σ = [some (.ref a), some (.int kind), some (.ref pool), some (.int place), some (.int letter), some (.ref sz), some (.int k), some (.int n), some (.int many), some (.int t), some (.str (bs w0))] ∧ 0 ≤ t ∧ t < many ∧ w0.length = n ∧ Sto H3 a ∧ Off (At a) H H3) ?_ (fun fin => ?_)
  ·rintro σ H3 ⟨t, w0, rfl, t0, t1, hw0, s3, o3⟩
   try dsimp only [gName, tNext]
   refine seq_by (fun σ H3 => ∃ (w0 : List Bool), σ = [some (.ref a), some (.int kind), some (.ref pool), some (.int place), some (.int letter), some (.ref sz), some (.int k), some (.int n), some (.int many), some (.int t), some (.str (bs w0))] ∧ w0.length = n ∧ Sto H3 a ∧ Off (At a) H H3) ?_ (fun fin => ?_)
   ·rintro σ H4 ⟨w0, rfl, hw0, s4, o4⟩
    try dsimp only [gName, tNext]
    refine seq_by (fun σ H3 => ∃ (w0 : List Bool), σ = [some (.ref a), some (.int kind), some (.ref pool), some (.int place), some (.int letter), some (.ref sz), some (.int k), some (.int n), some (.int many), some (.int t), some (.str (bs w0))] ∧ w0.length = n ∧ Sto H3 a ∧ Off (At a) H H3) ?_ (fun fin => ?_)
    ·rintro σ H5 ⟨w0, rfl, hw0, s5, o5⟩
     try dsimp only [gName, tNext]
     refine seq_by (fun σ H3 => ∃ (w0 : List Bool), σ = [some (.ref a), some (.int kind), some (.ref pool), some (.int place), some (.int letter), some (.ref sz), some (.int k), some (.int n), some (.int many), some (.int t), some (.str (bs w0))] ∧ w0.length = n ∧ Sto H3 a ∧ Off (At a) H H3) ?_ (fun fin => ?_)
     ·rintro σ H6 ⟨w0, rfl, hw0, s6, o6⟩
      refine ⟨le_line (Nat.le_of_ble_eq_true rfl), fun p hp => ?_⟩
      have e : t = ((t.toNat : Nat) : Int) := by omega
      refine q p w0 t.toNat _ hw0 (by omega) (s6.new hp) (o6.upd_new hp) (o6.freeS s6 hp) ?_
      rw [upd_same, ← e]
     ·-- kind == 4 and k <= n
      dsimp only [tIfS, tNext, tAnd]
      refine ite2 (fun h3 => ?_) (fun h3 => iteF (fin _ _ ⟨w0, rfl, hw0, s5, o5⟩))
      refine ite2 (fun h4 => ?_) (fun h4 => fin _ _ ⟨w0, rfl, hw0, s5, o5⟩)
      refine ⟨.inl ⟨by decide, by decide⟩, (by decide : (0 : Int) < 3), .inl ⟨by decide, by decide⟩, .inl ⟨by omega, by omega⟩, le_line (Nat.le_of_ble_eq_true rfl), fun p hp => ?_⟩
      obtain ⟨m, m0, m64, hm⟩ := top_get n1 n6 (upd_same (H := H5) (a := p))
      refine ⟨_, hm, m0, by omega, by omega, fun w1 hw1 => ?_⟩
      exact fin _ _ ⟨w1, rfl, by omega, s5.new hp, o5.upd_new hp⟩
    ·-- kind == 5
     refine ite2 (fun h3 => ?_) (fun h3 => fin _ _ ⟨w0, rfl, hw0, s4, o4⟩)
     refine ⟨s4, by decide, by decide, fun r H5 r0 r1 s5 o5 => ⟨by omega, by omega, fun w1 hw1 => ?_⟩⟩
     exact fin _ _ ⟨w1, rfl, by omega, s5, o4.trans o5⟩
   ·-- kind == 3 and k <= n
    dsimp only [tIfS, tNext, tAnd]
    refine ite2 (fun h3 => ?_) (fun h3 => iteF (fin _ _ ⟨w0, rfl, hw0, s3, o3⟩))
    refine ite2 (fun h4 => ?_) (fun h4 => fin _ _ ⟨w0, rfl, hw0, s3, o3⟩)
    have hp3 := o3 _ _ hpool pa
    obtain ⟨wf, hwf⟩ : ∃ wf, ws[0]? = some wf := ⟨_, List.getElem?_eq_getElem (by omega)⟩
    refine ⟨_, gl hp3 (by decide) (ws_get hwf), rfl, _, lenL hp3, .inl ⟨by decide, by decide⟩, .inl ⟨by omega, by omega⟩, le_line (Nat.le_of_ble_eq_true rfl), fun p hp => ?_⟩
    obtain ⟨m, m0, m64, hm⟩ := top_get n1 n6 (upd_same (H := H3) (a := p))
    refine ⟨_, hm, m0, by omega, by omega, fun w1 hw1 => ?_⟩
    exact fin _ _ ⟨w1, rfl, by omega, s3.new hp, o3.upd_new hp⟩
  ·-- kind == 2
   refine ite2 (fun h3 => ?_) (fun h3 => fin _ _ ⟨t, w0, rfl, t0, t1, wsl _ (List.mem_of_getElem? hw0), s2, o12⟩)
   refine ⟨.inl ⟨by decide, by decide⟩, (by omega : (0 : Int) < (many : Int)), ?_⟩
   exact fin _ _ ⟨_, w0, rfl, Int.emod_nonneg _ (by omega), Int.emod_lt_of_pos _ (by omega), wsl _ (List.mem_of_getElem? hw0), s2, o12⟩
 ·exact h.elim
end
end K35
end
section
namespace K35
open PySem L2
section
variable {P : Program} {w : World} {K : PySem.W.Frag} {mg : Str → Option Value} {base : Heap}
abbrev sCodeS : Stmt := top 40
def spCodeS : Sp := fun vs H Q _ => match vs with
 | [.ref a, .int most] => Sto H a ∧ 1 ≤ most ∧ most ≤ 8 ∧ ∀ v k n rows G H', Om.CodeOk k n rows → (rows.length : Int) ≤ most → DV G v (codeD k n rows) → Gh G H H' a → Q v H'
 | _ => False
theorem scCodeS : FnScope ["store", "most", "k", "n", "many", "kind", "top", "pool", "states", "place", "state", "letter"] ["store", "most"] (defScope sCodeS) := ⟨rfl, rfl, rfl, by decide +kernel, rfl, by decide +kernel, by decide +kernel⟩
theorem six_get {H : Hp} {p : Addr} {r : Int} (h0 : 0 ≤ r) (h1 : r < 6) (h : H p = some (.lst [.int 1, .int 1, .int 1, .int 2, .int 2, .int 3])) : ∃ k : Nat, 1 ≤ k ∧ k ≤ 3 ∧ getV H (.ref p) r = some (.int k) := by
 have : r = 0 ∨ r = 1 ∨ r = 2 ∨ r = 3 ∨ r = 4 ∨ r = 5 := by omega
 rcases this with rfl | rfl | rfl | rfl | rfl | rfl
 ·exact ⟨1, by decide, by decide, gl h (by decide) rfl⟩
 ·exact ⟨1, by decide, by decide, gl h (by decide) rfl⟩
 ·exact ⟨1, by decide, by decide, gl h (by decide) rfl⟩
 ·exact ⟨2, by decide, by decide, gl h (by decide) rfl⟩
 ·exact ⟨2, by decide, by decide, gl h (by decide) rfl⟩
 ·exact ⟨3, by decide, by decide, gl h (by decide) rfl⟩
theorem three_get {H : Hp} {p : Addr} {k : Nat} (k1 : 1 ≤ k) (k3 : k ≤ 3) (h : H p = some (.lst [.int 2, .int 4, .int 8])) : getV H (.ref p) ((k : Int) - 1) = some (.int ((2 ^ k : Nat) : Int)) := by
 have : k = 1 ∨ k = 2 ∨ k = 3 := by omega
 rcases this with rfl | rfl | rfl
 ·exact gl h (by decide) rfl
 ·exact gl h (by decide) rfl
 ·exact gl h (by decide) rfl
theorem pow_le8 {k : Nat} (k3 : k ≤ 3) : 2 ^ k ≤ 8 := by
 have : k = 0 ∨ k = 1 ∨ k = 2 ∨ k = 3 := by omega
 rcases this with rfl | rfl | rfl | rfl <;> decide
local macro_rules | `(tactic| walk_at "T.n") => `(tactic| with_reducible first | exact vn "store" 0 | exact vn "most" 1 | exact vn "k" 2 | exact vn "n" 3 | exact vn "many" 4 | exact vn "kind" 5 | exact vn "top" 6 | exact vn "pool" 7 | exact vn "states" 8 | exact vn "place" 9 | exact vn "state" 10 | exact vn "letter" 11)
local macro_rules | `(tactic| walk_at "T.gn") => `(tactic| with_reducible first | exact gn "k" 2 (by with_unfolding_all assumption) | exact gn "n" 3 (by with_unfolding_all assumption) | exact gn "many" 4 (by with_unfolding_all assumption) | exact gn "kind" 5 (by with_unfolding_all assumption) | exact gn "top" 6 (by with_unfolding_all assumption) | exact gn "pool" 7 (by with_unfolding_all assumption) | exact gn "states" 8 (by with_unfolding_all assumption) | exact gn "place" 9 (by with_unfolding_all assumption) | exact gn "state" 10 (by with_unfolding_all assumption) | exact gn "letter" 11 (by with_unfolding_all assumption))
local macro_rules | `(tactic| walk_at "T.n") => `(tactic| with_reducible first | exact vn "j" 0 | exact vn "store" 1 | exact vn "top" 2 | exact vn "n" 3)
local macro_rules | `(tactic| walk_at "T.gn") => `(tactic| with_reducible first | exact gn "j" 0 (by with_unfolding_all assumption))
local macro_rules | `(tactic| walk_at "T.sc") => `(tactic| (have ndc : (["j", "store", "top", "n"] : List Str).Nodup := (by decide +kernel)); ((with_reducible refine' s_comp "pool" 7 ["j", "store", "top", "n"] [0, 6, 3] ?b1 ?b0 ?b2 (fun cl C s H fp => ?b3) (fun cl C s H fp => ?b4) (fun cl C s H fp => ?b5)); (case b1 => exact ndc); (case b0 => assumption); (case b2 => walk_at "T.i"); (case b3 => walk_at "T.g"); (case b4 => walk_at "T.pf"); (case b5 => walk_at "T.e")))
local macro_rules | `(tactic| walk_at "T.n") => `(tactic| with_reducible first | exact vn "store" 0 | exact vn "most" 1 | exact vn "k" 2 | exact vn "n" 3 | exact vn "many" 4 | exact vn "kind" 5 | exact vn "top" 6 | exact vn "pool" 7 | exact vn "states" 8 | exact vn "place" 9 | exact vn "state" 10 | exact vn "letter" 11)
local macro_rules | `(tactic| walk_at "T.gn") => `(tactic| with_reducible first | exact gn "k" 2 (by with_unfolding_all assumption) | exact gn "n" 3 (by with_unfolding_all assumption) | exact gn "many" 4 (by with_unfolding_all assumption) | exact gn "kind" 5 (by with_unfolding_all assumption) | exact gn "top" 6 (by with_unfolding_all assumption) | exact gn "pool" 7 (by with_unfolding_all assumption) | exact gn "states" 8 (by with_unfolding_all assumption) | exact gn "place" 9 (by with_unfolding_all assumption) | exact gn "state" 10 (by with_unfolding_all assumption) | exact gn "letter" 11 (by with_unfolding_all assumption))
theorem ok_codeS (D : FnX K mg "_law_code" sCodeS ["store", "most"]) (g1 : mg "range" = none) (c1 : Can P w K mg base "_law_take" 1 ["store", "many"] spTake) (c2 : Can P w K mg base "_law_word" 1 ["number", "n"] spWordN)
  (c3 : Can P w K mg base "_law_branch" 2 ["store", "kind", "pool", "place", "letter", "sizes"] spBranch) : Can P w K mg base "_law_code" 3 ["store", "most"] spCodeS := by
 refine can_fn (k := 2) D scCodeS (fun vs H Q E h => ?_) (fun f cdv A outer s H vs Q E hr h => ?_)
 all_goals
  unfold spCodeS at h
  split at h
 ·rfl
 ·exact h.elim
 ·rename_i a most
  obtain ⟨hS, m1, m8, q⟩ := h
  have nd := scCodeS.nd
  refine ⟨_, (by walk_at "T.top"), ?_⟩
  have M0 := Gh.start hS
  refine ⟨le_line (Nat.le_of_ble_eq_true rfl), fun p hp => ?_⟩
  have M1 := M0.new (o := .lst [.int 1, .int 1, .int 1, .int 2, .int 2, .int 3]) hp
  refine ⟨M1.st, by decide, by decide, fun r H1 r0 r1 s1 o1 => ?_⟩
  have M2 := M1.take s1 o1
  obtain ⟨k, k1, k3, hk⟩ := six_get r0 r1 (o1 _ _ upd_same (M0.ne hp))
  refine ⟨_, hk, ?_⟩
  refine ⟨M2.st, by decide, by decide, fun n0 H2 n00 n01 s2 o2 => ?_⟩
  have M3 := M2.take s2 o2
  obtain ⟨n, rfl⟩ : ∃ n : Nat, n0 = ((n : Nat) : Int) - 1 := ⟨(n0 + 1).toNat, by omega⟩
  refine ⟨M3.st, by omega, by omega, fun m0 H3 m00 m01 s3 o3 => ?_⟩
  have M4 := M3.take s3 o3
  obtain ⟨many, rfl⟩ : ∃ n : Nat, m0 = ((n : Nat) : Int) - 1 := ⟨(m0 + 1).toNat, by omega⟩
  refine ⟨M4.st, by decide, by decide, fun kind H4 k00 k01 s4 o4 => ?_⟩
  have M5 := M4.take s4 o4
  have en : (1 : Int) + ((n : Int) - 1) = (n : Int) := by omega
  have em : (1 : Int) + ((many : Int) - 1) = (many : Int) := by omega
  try dsimp only [gName, tNext]
  rw [en, em]
  refine ⟨le_line (Nat.le_of_ble_eq_true rfl), fun p2 hp2 => ?_⟩
  have M6 := M5.new (o := .lst [.int 2, .int 4, .int 8, .int 16, .int 32, .int 64]) hp2
  obtain ⟨tp, tp0, tp64, htp⟩ := top_get (n := n) (by omega) (by omega) (upd_same (H := H4) (a := p2))
  refine ⟨_, htp, ?_⟩
  refine ⟨M6.st, by decide, by decide, fun c0 H6 c00 c01 s6 o6 => ?_⟩
  have M7 := M6.take s6 o6
  refine ⟨by omega, by omega, fun pl hpl => ?_⟩
  have npl := M7.ne hpl
  refine comp_by (it_range 0 _) (fun i τ H7 ys => (∃ v, τ = [v, some (.ref a), some (.int tp), some (.int n)]) ∧ Gh (fun _ => none) H H7 a ∧ H7 pl = some (.lst ys) ∧ ∃ ws : List (List Bool), ys = ws.map (fun w => V.str (bs w)) ∧ ws.length = i ∧ ∀ w ∈ ws, w.length = n) ?_ ⟨⟨none, rfl⟩, M7.new hpl, upd_same, [], rfl, rfl, by simp⟩ ?_ ?_ ?_
  ·rw [List.length_map, List.length_range]; exact le_line (by omega)
  ·rintro i τ H7 ys hi ⟨_, _, h7, ws, rfl, hl, _⟩
   exact ⟨trivial, h7, by simp [hl]⟩
  ·rintro i x τ H7 ys hi hx ⟨⟨v, rfl⟩, M8, h7, ws, rfl, hl, hw⟩
   refine ⟨M8.st, tp0, by omega, fun r H8 r0 r1 s8 o8 => ⟨by omega, by omega, fun w1 hw1 => ?_⟩⟩
   have h8 := o8 _ _ h7 npl
   refine ⟨h8, ⟨_, rfl⟩, (M8.take s8 o8).own rfl (M7.free0 hpl) npl, upd_same, ws ++ [w1], by rw [List.map_append]; rfl, by simp [hl], fun y hy => ?_⟩
   rcases List.mem_append.mp hy with hy | hy
   ·exact hw y hy
   ·have : y = w1 := by simpa using hy
    rw [this]; omega
  ·rintro τ H7 ys ⟨_, M8, h7, ws, rfl, hl, hw⟩
   rw [List.length_map, List.length_range] at hl
   refine ⟨Nat.zero_le _, fun S hS => ?_⟩
   have M9 : Gh (upd (fun _ => none) pl (WS ws)) H (upd H7 S (.lst [])) a := (M8.grow h7 npl).new hS
   have nSa := M8.ne hS
   have S0 : H S = none := M8.free0 hS
   have plS : pl ≠ S := ne_of_none h7 hS
   refine ⟨by omega, by omega, for_by (it_range 0 _) (fun i σ H9 => ∃ (v9 v10 v11 : Option V) (G : Hp) (rows : Om.Rows) (ss : List V), σ = [some (.ref a), some (.int most), some (.int k), some (.int n), some (.int many), some (.int kind), some (.int tp), some (.ref pl), some (.ref S), v9, v10, v11] ∧ Gh G H H9 a ∧ G pl = some (WS ws) ∧ G S = none ∧ H9 S = some (.lst ss) ∧ DVs G ss (rows.map stateD) ∧ rows.length = i ∧ (∀ st ∈ rows, st.length = 2 ^ k) ∧ ∀ st ∈ rows, ∀ r ∈ st, r.1.length = n ∧ r.2 < many)
    ⟨none, none, none, _, [], [], rfl, M9, upd_same, upd_none rfl plS.symm, upd_same, .nil, rfl, by simp, by simp⟩ (fun _ _ _ _ _ => trivial) ?_ ?_⟩
   ·rintro i x σ H9 hi hx ⟨v9, v10, v11, G, rows, ss, rfl, M10, gpl, gS, h9, hd, rl, r1, r2⟩
    have hi' : i < many := by simpa using hi
    have ex : x = .int (i : Nat) := by
     rw [List.length_map, List.length_range] at hi
     rw [List.getElem?_map, List.getElem?_range hi] at hx
     have := (Option.some.inj hx).symm
     rw [this]; simp
    subst ex
    refine ⟨Nat.zero_le _, fun T hT => ?_⟩
    have ST : S ≠ T := ne_of_none h9 hT
    have nTa := M10.ne hT
    have T0 := M10.free0 hT
    have gT := M10.freeG hT
    have M11 := M10.new (o := .lst []) hT
    refine ⟨le_line (Nat.le_of_ble_eq_true rfl), fun p3 hp3 => ?_⟩
    have M12 := M11.new (o := .lst [.int 2, .int 4, .int 8]) hp3
    have Tp3 : T ≠ p3 := fun z => by rw [← z, upd_same] at hp3; cases hp3
    refine ⟨_, three_get k1 k3 upd_same, ?_⟩
    have p8 := pow_le8 k3
    refine ⟨Int.le_trans (by decide) (Int.natCast_nonneg _), Int.lt_of_le_of_lt (Int.ofNat_le.mpr p8) (by decide), for_by (it_range 0 _) (fun j σ H10 => ∃ (v11 : Option V) (G : Hp) (st : List (List Bool × Nat)) (rs : List V), σ = [some (.ref a), some (.int most), some (.int k), some (.int n), some (.int many), some (.int kind), some (.int tp), some (.ref pl), some (.ref S), some (.int (i : Nat)), some (.ref T), v11] ∧ Gh G H H10 a ∧ G pl = some (WS ws) ∧ G S = none ∧ G T = none ∧ H10 S = some (.lst ss) ∧ H10 T = some (.lst rs) ∧ DVs G ss (rows.map stateD) ∧ DVs G rs (st.map rowD) ∧ st.length = j ∧ ∀ r ∈ st, r.1.length = n ∧ r.2 < many)
     ⟨v11, G, [], [], rfl, M12, gpl, gS, gT, upd_some (upd_some h9 ST) (ne_of_none (upd_some h9 ST) hp3), upd_some upd_same Tp3, hd, .nil, rfl, by simp⟩ (fun _ _ _ _ _ => trivial) ?_ ?_⟩
    ·rintro j y σ H10 hj hy ⟨w11, G1, st, rs, rfl, M13, gpl1, gS1, gT1, hS1, hT1, hd1, hr1, sl, sr⟩
     have hj' : j < 2 ^ k := by rw [List.length_map, List.length_range, Int.toNat_natCast] at hj; exact hj
     have ey : y = .int (j : Nat) := by
      rw [List.length_map, List.length_range] at hj
      rw [List.getElem?_map, List.getElem?_range hj] at hy
      have := (Option.some.inj hy).symm
      rw [this]; simp
     subst ey
     refine ⟨⟨_, rfl, hT1⟩, ?_⟩
     refine ⟨le_line (Nat.le_of_ble_eq_true rfl), fun z hz => ?_⟩
     have M14 := M13.new (o := .tup [.int k, .int n, .int many]) hz
     refine ⟨ws, k, n, many, M14.st, M14.s _ _ gpl1, by omega, by omega, hw, upd_same, by omega, by omega, by omega, by omega, by omega, by omega, by omega, by omega, fun pp w1 t1 H11 hw1 ht1 s11 o11 np1 hp1 => ?_⟩
     have M15 := M14.take s11 o11
     have Tz : T ≠ z := ne_of_none hT1 hz
     have Sz : S ≠ z := ne_of_none hS1 hz
     have hT2 : H11 T = some (.lst rs) := o11 _ _ (upd_some hT1 Tz) nTa
     have hS2 : H11 S = some (.lst ss) := o11 _ _ (upd_some hS1 Sz) nSa
     have ppT : T ≠ pp := ne_of_none (upd_some hT1 Tz) np1
     have ppS : S ≠ pp := ne_of_none (upd_some hS1 Sz) np1
     have rl1 : rs.length = st.length := by rw [hr1.length, List.length_map]
     refine ⟨_, hT2, by rw [rl1, sl]; exact lt_line (by omega), ?_⟩
     have M16 := (M15.grow hp1 (s11.tup hp1)).own (p := T) (o := .lst (rs ++ [.ref pp])) (upd_none gT1 ppT) T0 nTa
     have ppl : pl ≠ pp := by
      have h1 := M14.s _ _ gpl1
      exact ne_of_none h1 np1
     have Gs : Same G1 (upd G1 pp (.tup [.str (bs w1), .int (t1 : Nat)])) := Same.upd (M14.s.free np1)
     refine ⟨some (.int (j : Nat)), _, st ++ [(w1, t1)], rs ++ [.ref pp], rfl, M16, upd_some gpl1 ppl, upd_none gS1 ppS, upd_none gT1 ppT, upd_some hS2 ST, upd_same, hd1.mono Gs, ?_, by simp [sl], fun r hr => ?_⟩
     ·rw [List.map_append]
      exact (hr1.mono Gs).app (.cons (.tup upd_same (.cons (.str _) (.cons (.int _) .nil))) .nil)
     ·rcases List.mem_append.mp hr with hr | hr
      ·exact sr r hr
      ·have : r = (w1, t1) := by simpa using hr
       rw [this]; exact ⟨hw1, ht1⟩
    ·rintro σ H10 ⟨w11, G1, st, rs, rfl, M13, gpl1, gS1, gT1, hS1, hT1, hd1, hr1, sl, sr⟩
     have sl' : st.length = 2 ^ k := by rw [sl, List.length_map, List.length_range, Int.toNat_natCast]
     have ssl : ss.length = rows.length := by rw [hd1.length, List.length_map]
     refine ⟨⟨_, rfl, hS1⟩, _, hS1, by rw [ssl, rl]; exact lt_line (by omega), ?_⟩
     have Gs : Same G1 (upd G1 T (.lst rs)) := Same.upd gT1
     have plT : pl ≠ T := ne_of_none gpl1 gT1
     refine ⟨some _, some _, w11, upd G1 T (.lst rs), rows ++ [st], ss ++ [.ref T], rfl, (M13.grow hT1 nTa).own (upd_none gS1 ST) S0 nSa, upd_some gpl1 plT, upd_none gS1 ST, upd_same, ?_, by simp [rl], fun y hy => ?_, fun y hy => ?_⟩
     ·rw [List.map_append]
      exact (hd1.mono Gs).app (.cons (.lst upd_same (hr1.mono Gs)) .nil)
     ·rcases List.mem_append.mp hy with hy | hy
      ·exact r1 y hy
      ·have : y = st := by simpa using hy
       rw [this]; exact sl'
     ·rcases List.mem_append.mp hy with hy | hy
      ·exact r2 y hy
      ·have : y = st := by simpa using hy
       rw [this]; exact sr
   ·rintro σ H9 ⟨v9, v10, v11, G, rows, ss, rfl, M10, gpl, gS, h9, hd, rl, r1, r2⟩
    have rl' : rows.length = many := by rw [rl, List.length_map, List.length_range]; omega
    refine ⟨le_line (Nat.le_of_ble_eq_true rfl), fun c hc => ?_⟩
    have M11 := (M10.grow h9 nSa).new (o := .tup [.int k, .int n, .ref S]) hc
    have M12 := M11.grow upd_same (M10.ne hc)
    have Sc : S ≠ c := ne_of_none h9 hc
    have G1 : Same G (upd G S (.lst ss)) := Same.upd gS
    have gc : upd G S (.lst ss) c = none := upd_none (M10.freeG hc) Sc.symm
    have G2 : Same (upd G S (.lst ss)) (upd (upd G S (.lst ss)) c (.tup [.int k, .int n, .ref S])) := Same.upd gc
    refine q _ k n rows _ _ ⟨k1, k3, by omega, by omega, by omega, by omega, r1, fun st hst r hr => ?_⟩ (by omega) ?_ M12
    ·obtain ⟨x1, x2⟩ := r2 st hst r hr
     exact ⟨x1, by omega⟩
    ·exact .tup upd_same (.cons (.int _) (.cons (.int _) (.cons (.lst (G2 _ _ upd_same) (hd.mono (G1.trans G2))) .nil)))
 ·exact h.elim
end
end K35
end
section
namespace K35
open PySem L2
section
variable {P : Program} {w : World} {K : PySem.W.Frag} {mg : Str → Option Value} {base : Heap}
abbrev sEvery : Stmt := top 13
def spEvery : Sp := fun vs H Q _ => match vs with
 | [cv] => ∃ (k n : Nat) (rows : Om.Rows), DV H cv (codeD k n rows) ∧ rows.length ≤ 8 ∧ ∀ l H', Same H H' → H' l = some (.lst ((List.range rows.length).map fun i => V.int (i : Nat))) → Q (.ref l) H'
 | _ => False
theorem scEvery : FnScope ["code"] ["code"] (defScope sEvery) := ⟨rfl, rfl, rfl, by decide +kernel, rfl, by decide +kernel, by decide +kernel⟩
local macro_rules | `(tactic| walk_at "T.n") => `(tactic| with_reducible first | exact vn "code" 0)
local macro_rules | `(tactic| walk_at "T.b") => `(tactic| first | ((with_reducible refine' fn_listR ?a0 ?a9 ?a1); (case a0 => with_reducible assumption); (case a9 => rfl); (case a1 => walk_at "T.a")) | ((with_reducible refine' e_rng1 ?a0 ?a9 ?a1); (case a0 => with_reducible assumption); (case a9 => rfl); (case a1 => walk_at "T.a")))
theorem ok_every (D : FnX K mg "every_state" sEvery ["code"]) (g1 : mg "list" = none) (g2 : mg "range" = none) (g3 : mg "len" = none) : Can P w K mg base "every_state" 1 ["code"] spEvery := by
 refine can_fn (k := 0) D scEvery (fun vs H Q E h => ?_) (fun f cdv A outer s H vs Q E hr h => ?_)
 all_goals
  unfold spEvery at h
  split at h
 ·rfl
 ·exact h.elim
 ·rename_i cv
  obtain ⟨k, n, rows, hc, rl, q⟩ := h
  have nd := scEvery.nd
  obtain ⟨a, b, ss, rfl, ha, hb, hss⟩ := code_inv hc
  have sl : ss.length = rows.length := by rw [hss.length, List.length_map]
  refine ⟨_, (by walk_at "T.top1"), ?_⟩
  refine ⟨_, gt ha (by decide) rfl, _, lenL hb, by omega, by omega, fun r hr => ?_⟩
  refine .inl ⟨ss.length, upd_same, by omega, fun l hl => ?_⟩
  rw [sl] at hl ⊢
  exact q _ _ ((Same.upd hr).trans (Same.upd hl)) upd_same
 ·exact h.elim
end
section
variable {P : Program} {w : World} {K : PySem.W.Frag} {mg : Str → Option Value} {base : Heap}
abbrev sPSteps : Stmt := top 15
def spPSteps : Sp := fun vs H Q _ => match vs with
 | [cv, .int x0, .int y0] => ∃ (k n : Nat) (rows : Om.Rows) (x y : Nat), x0 = (x : Nat) ∧ y0 = (y : Nat) ∧ DV H cv (codeD k n rows) ∧ Om.CodeOk k n rows ∧ x < rows.length ∧ y < rows.length ∧
   ∀ l (ss : List Om.Stp) H', Same H H' → H l = none → StL H' l ss → ss.length ≤ 64 → (∀ s, s ∈ ss ↔ Om.St rows x y s) → Q (.ref l) H'
 | _ => False
theorem scPSteps : FnScope ["code", "one", "other", "steps", "letter", "row", "another", "beside"] ["code", "one", "other"] (defScope sPSteps) := ⟨rfl, rfl, rfl, by decide +kernel, rfl, by decide +kernel, by decide +kernel⟩
local macro_rules | `(tactic| walk_at "T.n") => `(tactic| with_reducible first | exact vn "code" 0 | exact vn "one" 1 | exact vn "other" 2 | exact vn "steps" 3 | exact vn "letter" 4 | exact vn "row" 5 | exact vn "another" 6 | exact vn "beside" 7)
local macro_rules | `(tactic| walk_at "T.gn") => `(tactic| with_reducible first | exact gn "steps" 3 (by with_unfolding_all assumption) | exact gn "letter" 4 (by with_unfolding_all assumption) | exact gn "row" 5 (by with_unfolding_all assumption) | exact gn "another" 6 (by with_unfolding_all assumption) | exact gn "beside" 7 (by with_unfolding_all assumption))
theorem ok_psteps (D : FnX K mg "pair_steps" sPSteps ["code", "one", "other"]) (g1 : mg "enumerate" = none) : Can P w K mg base "pair_steps" 1 ["code", "one", "other"] spPSteps := by
 refine can_fn (k := 0) D scPSteps (fun vs H Q E h => ?_) (fun f cdv A outer s H vs Q E hr h => ?_)
 all_goals
  unfold spPSteps at h
  split at h
 ·rfl
 ·exact h.elim
 ·rename_i cv x0 y0
  obtain ⟨k, n, rows, x, y, rfl, rfl, hc, ok, hx, hy, q⟩ := h
  have nd := scPSteps.nd
  obtain ⟨a, b, st, rfl, ha, hb, hst⟩ := code_inv hc
  obtain ⟨qx, rx, e1, e2, e3⟩ := state_at hst (s := x) (st := rows[x]) (List.getElem?_eq_getElem hx)
  obtain ⟨qy, ry, f1, f2, f3⟩ := state_at hst (s := y) (st := rows[y]) (List.getElem?_eq_getElem hy)
  have lx : rows[x].length = 2 ^ k := ok.len _ (List.getElem_mem hx)
  have ly : rows[y].length = 2 ^ k := ok.len _ (List.getElem_mem hy)
  have p8 : 2 ^ k ≤ 8 := by
   have := ok.k3
   have : k = 0 ∨ k = 1 ∨ k = 2 ∨ k = 3 := by omega
   rcases this with rfl | rfl | rfl | rfl <;> decide
  have gx : rows.getD x [] = rows[x] := by simp [List.getD_eq_getElem?_getD, hx]
  have gy : rows.getD y [] = rows[y] := by simp [List.getD_eq_getElem?_getD, hy]
  have stx : ∀ i (hi : i < rows[x].length), Om.step rows x i = rows[x][i] := fun i hi => by unfold Om.step; rw [gx]; simp [List.getD_eq_getElem?_getD, hi]
  have sty : ∀ i (hi : i < rows[y].length), Om.step rows y i = rows[y][i] := fun i hi => by unfold Om.step; rw [gy]; simp [List.getD_eq_getElem?_getD, hi]
  have rxl : rx.length = 2 ^ k := by rw [e3.length, List.length_map, lx]
  have ryl : ry.length = 2 ^ k := by rw [f3.length, List.length_map, ly]
  refine ⟨_, (by walk_at "T.top"), ?_⟩
  refine ⟨Nat.zero_le _, fun L hL => ?_⟩
  have R0 := Gr.start hL
  refine ⟨_, gt (R0.all _ _ ha) (by decide) rfl, .ref qx, gl (R0.all _ _ hb) (by omega) (by simpa using e1), ⟨_, SqL.of (R0.all _ _ e2)⟩, ?_⟩
  refine for_pr (it_enumP _ qx rx) (fun i σ H2 => ∃ (v4 v5 v6 v7 : Option V) (G : Hp) (vs : List V) (ss : List Om.Stp), σ = [some (.ref a), some (.int (x : Nat)), some (.int (y : Nat)), some (.ref L), v4, v5, v6, v7] ∧ Gr G H H2 L vs ∧ DVs G vs (ss.map sD) ∧ ss.length ≤ i * 8 ∧ ∀ s, s ∈ ss ↔ s.1.1 < i ∧ Om.St rows x y s)
   ⟨none, none, none, none, _, [], [], rfl, R0, .nil, by simp, by simp⟩ (fun i σ H2 _ ⟨_, _, _, _, _, _, _, _, R, _⟩ => R.all _ _ e2) ?_ ?_
  ·rintro i t σ H2 hi ⟨v4, v5, v6, v7, G, vs, ss, rfl, R, hd, hl, hb1⟩ ht
   have hi' : i < rows[x].length := by omega
   obtain ⟨r, r1, r2⟩ := row_at e3 (l := i) (r := rows[x][i]) (List.getElem?_eq_getElem hi')
   have er : rx.getD i .non = .ref r := by rw [List.getD_eq_getElem?_getD, r1]; rfl
   have R1 := R.new (o := .tup [.int (i : Nat), .ref r]) ht
   dsimp only
   rw [er]
   refine ⟨_, .inl upd_same, rfl, rfl, ?_⟩
   refine ⟨_, gt (R1.all _ _ ha) (by decide) rfl, .ref qy, gl (R1.all _ _ hb) (by omega) (by simpa using f1), ⟨_, SqL.of (R1.all _ _ f2)⟩, ?_⟩
   refine for_pr (it_enumP _ qy ry) (fun j σ H2 => ∃ (v6 v7 : Option V) (G : Hp) (vs : List V) (ss : List Om.Stp), σ = [some (.ref a), some (.int (x : Nat)), some (.int (y : Nat)), some (.ref L), some (.int (i : Nat)), some (.ref r), v6, v7] ∧ Gr G H H2 L vs ∧ DVs G vs (ss.map sD) ∧ ss.length ≤ i * 8 + j ∧ ∀ s, s ∈ ss ↔ (s.1.1 < i ∨ (s.1.1 = i ∧ s.1.2 < j)) ∧ Om.St rows x y s)
    ⟨v6, v7, G, vs, ss, rfl, R1, hd, by omega, fun s => by rw [hb1]; constructor <;> rintro ⟨h1, h2⟩ <;> exact ⟨by omega, h2⟩⟩ (fun i σ H2 _ ⟨_, _, _, _, _, _, R, _⟩ => R.all _ _ f2) ?_ ?_
   ·rintro j t2 σ H3 hj ⟨v6, v7, G, vs, ss, rfl, R2, hd, hl, hb1⟩ ht2
    have hj' : j < rows[y].length := by omega
    obtain ⟨r', s1, s2⟩ := row_at f3 (l := j) (r := rows[y][j]) (List.getElem?_eq_getElem hj')
    have er' : ry.getD j .non = .ref r' := by rw [List.getD_eq_getElem?_getD, s1]; rfl
    have R3 := R2.new (o := .tup [.int (j : Nat), .ref r']) ht2
    dsimp only
    rw [er']
    refine ⟨_, .inl upd_same, rfl, rfl, ?_⟩
    refine ⟨_, gt (R3.all _ _ r2) (by decide) rfl, _, gt (R3.all _ _ s2) (by decide) rfl, ?_⟩
    have key : ∀ s : Om.Stp, s.1.1 = i → s.1.2 = j → (Om.St rows x y s ↔ rows[x][i].1 = rows[y][j].1 ∧ s = ((i, j), (rows[x][i].2, rows[y][j].2))) := by
     rintro ⟨⟨a1, a2⟩, a3⟩ h1 h2
     dsimp only at h1 h2
     subst h1 h2
     unfold Om.St
     dsimp only
     rw [gx, gy, stx _ hi', sty _ hj']
     constructor
     ·rintro ⟨_, _, h3, h4⟩; exact ⟨h3, by rw [h4]⟩
     ·rintro ⟨h3, h4⟩
      exact ⟨hi', hj', h3, (Prod.mk.inj h4).2⟩
    refine ite2 (fun h1 => ?_) (fun h1 => ⟨_, _, G, vs, ss, rfl, R3, hd, by omega, fun s => ?_⟩)
    ·have h1' := bs_inj (of_decide_eq_true h1)
     refine ⟨⟨_, rfl, R3.hL⟩, ?_⟩
     refine ⟨le_line (Nat.le_of_ble_eq_true rfl), fun z hz => ?_⟩
     have R4 := R3.put (o := .tup [.int (i : Nat), .int (j : Nat)]) hz
     have U4 := R3.up (o := .tup [.int (i : Nat), .int (j : Nat)]) hz
     refine ⟨_, gt (R4.all _ _ r2) (by decide) rfl, _, gt (R4.all _ _ s2) (by decide) rfl, ?_⟩
     refine ⟨le_line (Nat.le_of_ble_eq_true rfl), fun z1 hz1 => ?_⟩
     have R5 := R4.put (o := .tup [.int (rows[x][i].2 : Nat), .int (rows[y][j].2 : Nat)]) hz1
     have U5 := R4.up (o := .tup [.int (rows[x][i].2 : Nat), .int (rows[y][j].2 : Nat)]) hz1
     refine ⟨le_line (Nat.le_of_ble_eq_true rfl), fun z2 hz2 => ?_⟩
     have R6 := R5.put (o := .tup [.ref z, .ref z1]) hz2
     have U6 := R5.up (o := .tup [.ref z, .ref z1]) hz2
     have vl : vs.length = ss.length := by rw [hd.length, List.length_map]
     refine ⟨_, R6.hL, by rw [vl]; exact lt_line (by omega), ?_⟩
     refine ⟨_, _, _, vs ++ [.ref z2], ss ++ [((i, j), (rows[x][i].2, rows[y][j].2))], rfl, R6.set, ?_, by simp; omega, fun u => ?_⟩
     ·rw [List.map_append]
      refine (hd.mono ((U4.trans U5).trans U6)).app (.cons (.tup upd_same (.cons ?_ (.cons ?_ .nil))) .nil)
      ·exact (pair_DV (x := (i, j)) upd_same).mono (U5.trans U6)
      ·exact (pair_DV (x := (rows[x][i].2, rows[y][j].2)) upd_same).mono U6
     ·rw [List.mem_append, hb1, List.mem_singleton]
      constructor
      ·rintro (⟨g1, g2⟩ | g)
       ·exact ⟨by omega, g2⟩
       ·subst g
        exact ⟨.inr ⟨rfl, Nat.lt_succ_self _⟩, (key _ rfl rfl).mpr ⟨h1', rfl⟩⟩
      ·rintro ⟨g1, g2⟩
       by_cases c : u.1.1 = i ∧ u.1.2 = j
       ·exact .inr ((key _ c.1 c.2).mp g2).2
       ·exact .inl ⟨by omega, g2⟩
    ·have h1' : ¬ rows[x][i].1 = rows[y][j].1 := fun z => by rw [z] at h1; simp at h1
     rw [hb1]
     constructor
     ·rintro ⟨g1, g2⟩; exact ⟨by omega, g2⟩
     ·rintro ⟨g1, g2⟩
      by_cases c : s.1.1 = i ∧ s.1.2 = j
      ·exact absurd ((key _ c.1 c.2).mp g2).1 h1'
      ·exact ⟨by omega, g2⟩
   ·rintro σ H3 ⟨v6, v7, G, vs, ss, rfl, R2, hd, hl, hb1⟩
    refine ⟨_, _, _, _, G, vs, ss, rfl, R2, hd, by omega, fun s => ?_⟩
    rw [hb1]
    constructor
    ·rintro ⟨g1, g2⟩; exact ⟨by omega, g2⟩
    ·rintro ⟨g1, g2⟩
     refine ⟨?_, g2⟩
     have := g2.2.1
     rw [gy] at this
     omega
  ·rintro σ H2 ⟨v4, v5, v6, v7, G, vs, ss, rfl, R, hd, hl, hb1⟩
   refine q L ss _ R.all hL (.lst R.hL (hd.mono R.s)) (by omega) fun s => ?_
   rw [hb1]
   constructor
   ·exact fun h => h.2
   ·intro h
    refine ⟨?_, h⟩
    have := h.1
    rw [gx] at this
    omega
 ·exact h.elim
end
end K35
end
section
namespace K35
open PySem L2
section
variable {P : Program} {w : World} {K : PySem.W.Frag} {mg : Str → Option Value} {base : Heap}
abbrev sLayer : Stmt := top 16
def spLayer : Sp := fun vs H Q _ => match vs with
 | [lv, gv] => ∃ (R R0 : Om.R2n) (E : Nat → Nat → Om.Stp → Prop), LyV H lv R ∧ GrV H gv R0 E ∧ (∀ x y, R x y → R0 x y) ∧ (∀ x y s, R0 x y → E x y s → R0 s.2.1 s.2.2) ∧ ∀ v H', Same H H' → LyV H' v (Om.nextR E R) → Q v H'
 | _ => False
theorem scLayer : FnScope ["layer", "graph", "behind", "node", "label", "to"] ["layer", "graph"] (defScope sLayer) := ⟨rfl, rfl, rfl, by decide +kernel, rfl, by decide +kernel, by decide +kernel⟩
local macro_rules | `(tactic| walk_at "T.n") => `(tactic| with_reducible first | exact vn "layer" 0 | exact vn "graph" 1 | exact vn "behind" 2 | exact vn "node" 3 | exact vn "label" 4 | exact vn "to" 5)
local macro_rules | `(tactic| walk_at "T.gn") => `(tactic| with_reducible first | exact gn "behind" 2 (by with_unfolding_all assumption) | exact gn "node" 3 (by with_unfolding_all assumption) | exact gn "label" 4 (by with_unfolding_all assumption) | exact gn "to" 5 (by with_unfolding_all assumption))
local macro_rules | `(tactic| walk_at "T.e") => `(tactic| first | (with_reducible exact pe_dnewT) | ((with_reducible refine' ix_atD ?a0 ?a1 ?a2); (case a0 => exact Room.units (by assumption)); (case a1 => walk_at "T.e"); (case a2 => walk_at "T.e")))
local macro_rules | `(tactic| walk_at "T.i") => `(tactic| ((with_reducible refine' pi_lstD ?a1); (case a1 => walk_at "T.e")))
local macro_rules | `(tactic| walk_at "T.cmp") => `(tactic| ((with_reducible refine' op_notInDict ?a1); (case a1 => exact Room.units (by assumption))))
local macro_rules | `(tactic| walk_at "T.g") => `(tactic| ((with_reducible refine' g_subD ?a0 ?a1 ?a2); (case a0 => exact Room.units (by assumption)); (case a1 => walk_at "T.e"); (case a2 => walk_at "T.e")))
local macro_rules | `(tactic| walk_at "T.st") => `(tactic| ((with_reducible refine' s_retF ?a1); (case a1 => walk_at "T.e")))
theorem ok_layer (D : FnX K mg "layer_behind" sLayer ["layer", "graph"]) : Can P w K mg base "layer_behind" 1 ["layer", "graph"] spLayer := by
 refine can_fn (k := 0) D scLayer (fun vs H Q E h => ?_) (fun f cdv A outer s H vs Q E hr h => ?_)
 all_goals
  unfold spLayer at h
  split at h
 ·rfl
 ·exact h.elim
 ·rename_i lv gv
  obtain ⟨R, R0, Ed, hly, hgr, hsub, hcl, q⟩ := h
  have nd := scLayer.nd
  obtain ⟨la, lo, lkvs, lks, rfl, hla, lkd, lmem⟩ := hly
  obtain ⟨ga, go, gkvs, gks, rfl, hga, gkd, gmem, gst⟩ := hgr
  refine ⟨_, (by walk_at "T.top"), ?_⟩
  intro D hD
  have M0 := Gd.start hD
  refine .inr (.inl ⟨lo, lkvs, M0.all _ _ hla, fun bs hbs => ?_⟩)
  have hbl := lkd.blen hbs
  have le : lks.length ≤ 64 := lkd.le
  refine for_by (it_keys la lo (bs.map V.ref)) (fun i σ H2 => ∃ (v3 v4 v5 : Option V) (G : Hp) (kvs : List (List Key × V)) (ks : List (Nat × Nat)), σ = [some (.ref la), some (.ref ga), some (.ref D), v3, v4, v5] ∧ Gd G H H2 D kvs ∧ KeysAt H2 lkvs bs ∧ KD ks kvs ∧
    ∀ x' y', (x', y') ∈ ks ↔ ∃ j, j < i ∧ ∃ p, lks[j]? = some p ∧ ∃ s, Ed p.1 p.2 s ∧ s.2 = (x', y'))
   ⟨none, none, none, _, [], [], rfl, M0, hbs, KD.nil, fun x' y' => by simp⟩ (fun i σ H2 _ ⟨_, _, _, _, _, _, _, M, _⟩ => ⟨_, M.all _ _ hla⟩) ?_ ?_
  ·rintro i z σ H2 hi hz ⟨v3, v4, v5, G, kvs, ks, rfl, M, hb2, kd, hm⟩
   have hi' : i < lks.length := by rw [← hbl]; exact hi
   obtain ⟨b, rfl, hb⟩ := lkd.key hb2 hi' hz
   have hp : lks[i]? = some lks[i] := List.getElem?_eq_getElem hi'
   have pR : R lks[i].1 lks[i].2 := (lmem _ _).mp (List.getElem_mem hi')
   have pR0 := hsub _ _ pR
   obtain ⟨l, ss, g1, g2, g3, g4⟩ := gst lks[i] ((gmem _ _).mpr pR0)
   obtain ⟨l', xs, e, hl, hxs⟩ := g2.lst_inv
   cases e
   have hgb : DGet H2 ga (.ref b) (some (.ref l)) := .inr ⟨gkvs, kk lks[i], b, .inr ⟨go, M.all _ _ hga⟩, rfl, hb, g1.symm⟩
   refine .inr ⟨_, _, rfl, hgb, ?_⟩
   refine .inl ⟨⟨_, SqL.of (M.all _ _ hl)⟩, ?_⟩
   have xl : xs.length = ss.length := by rw [hxs.length, List.length_map]
   refine for_by (it_list _ l xs) (fun j σ H3 => ∃ (v4 v5 : Option V) (G : Hp) (kvs : List (List Key × V)) (ks : List (Nat × Nat)), σ = [some (.ref la), some (.ref ga), some (.ref D), some (.ref b), v4, v5] ∧ Gd G H H3 D kvs ∧ KeysAt H3 lkvs bs ∧ KD ks kvs ∧ H3 b = some (.tup ((kk lks[i]).map kV)) ∧
     ∀ x' y', (x', y') ∈ ks ↔ (∃ j, j < i ∧ ∃ p, lks[j]? = some p ∧ ∃ s, Ed p.1 p.2 s ∧ s.2 = (x', y')) ∨ ∃ m s, m < j ∧ ss[m]? = some s ∧ s.2 = (x', y'))
    ⟨v4, v5, G, kvs, ks, rfl, M, hb2, kd, hb, fun x' y' => by rw [hm]; simp⟩ (fun i σ H2 _ ⟨_, _, _, _, _, _, M, _⟩ => SqL.of (M.all _ _ hl)) ?_ ?_
   ·rintro j z σ H3 hj hz ⟨v4, v5, G, kvs, ks, rfl, M, hb2, kd, hb, hm⟩
    have hj' : j < ss.length := by rw [← xl]; exact hj
    have es : ss[j]? = some ss[j] := List.getElem?_eq_getElem hj'
    obtain ⟨z', hz', dz⟩ := hxs.get (i := j) (d := sD ss[j]) (by rw [List.getElem?_map, es]; rfl)
    rw [hz] at hz'
    cases hz'
    obtain ⟨p, a, c, rfl, h1, h2, h3⟩ := sD_inv dz
    refine ⟨_, .inl (M.all _ _ h1), rfl, rfl, ?_⟩
    have hc3 : H3 c = some (.tup ((kk ss[j].2).map kV)) := M.all _ _ h3
    have sE : Ed lks[i].1 lks[i].2 ss[j] := (g4 _).mp (List.getElem_mem hj')
    refine ⟨_, _, rfl, .inr ⟨kvs, kk ss[j].2, c, .inl M.hD, rfl, hc3, rfl⟩, ?_⟩
    refine ite2 (fun c1 => ?_) (fun c1 => ?_)
    ·have nin : ss[j].2 ∉ ks := fun z => by
      have := kd.mem.mpr z
      rw [this] at c1; cases c1
     refine ⟨le_line (Nat.le_of_ble_eq_true rfl), fun t ht => ?_⟩
     have M1 := M.put (o := .tup [.ref b, .ref a]) ht
     have tD : D ≠ t := ne_of_none M.hD ht
     have hcl' := hcl _ _ _ pR0 sE
     have b8 := gkd.lt _ ((gmem _ _).mpr hcl')
     refine .inr ⟨_, _, rfl, .inr ⟨kvs, kk ss[j].2, c, M1.hD, rfl, Same.upd ht _ _ hc3, kd.lt_line, rfl⟩, ?_⟩
     have sm : Same H3 (upd H3 t (.tup [.ref b, .ref a])) := Same.upd ht
     refine ⟨_, _, _, _, _, rfl, M1.set, ?_, kd.put (v := .ref t) nin b8.1 b8.2, ?_, fun x' y' => ?_⟩
     ·refine Paired.mapP hb2 fun p b' h => ?_
      have : b' ≠ D := ne_of h M.hD (fun z => nomatch z)
      rw [upd_ne this]; exact sm _ _ h
     ·have : b ≠ D := ne_of hb M.hD (fun z => nomatch z)
      rw [upd_ne this]; exact sm _ _ hb
     ·rw [List.mem_append, hm, List.mem_singleton]
      constructor
      ·rintro ((h | ⟨m, s, h1, h2, h3⟩) | h)
       ·exact .inl h
       ·exact .inr ⟨m, s, by omega, h2, h3⟩
       ·exact .inr ⟨j, ss[j], by omega, es, h.symm⟩
      ·rintro (h | ⟨m, s, k1, k2, k3⟩)
       ·exact .inl (.inl h)
       ·by_cases e : m = j
        ·subst e
         rw [es] at k2
         cases k2
         exact .inr k3.symm
        ·exact .inl (.inr ⟨m, s, by omega, k2, k3⟩)
    ·have isin : ss[j].2 ∈ ks := kd.mem.mp (by
      cases hq : (valV kvs (kk ss[j].2)).isSome with
      | true => rfl
      | false => rw [hq] at c1; exact absurd rfl c1)
     refine ⟨_, _, G, kvs, ks, rfl, M, hb2, kd, hb, fun x' y' => ?_⟩
     rw [hm]
     constructor
     ·rintro (h | ⟨m, s, h1, h2, h3⟩)
      ·exact .inl h
      ·exact .inr ⟨m, s, by omega, h2, h3⟩
     ·rintro (h | ⟨m, s, k1, k2, k3⟩)
      ·exact .inl h
      ·by_cases e : m = j
       ·subst e
        rw [es] at k2
        cases k2
        have := (hm x' y').mp (by rw [← k3]; exact isin)
        exact this
       ·exact .inr ⟨m, s, by omega, k2, k3⟩
   ·rintro σ H3 ⟨v4, v5, G, kvs, ks, rfl, M, hb2, kd, hb, hm⟩
    refine ⟨_, _, _, G, kvs, ks, rfl, M, hb2, kd, fun x' y' => ?_⟩
    rw [hm]
    constructor
    ·rintro (⟨j, h1, h2⟩ | ⟨m, s, h1, h2, h3⟩)
     ·exact ⟨j, by omega, h2⟩
     ·exact ⟨i, by omega, lks[i], hp, s, (g4 _).mp (List.mem_of_getElem? h2), h3⟩
    ·rintro ⟨j, k1, p, k2, s, k3, k4⟩
     by_cases e : j = i
     ·subst e
      rw [hp] at k2
      cases k2
      obtain ⟨m, hm1, hm2⟩ := List.mem_iff_getElem.mp ((g4 _).mpr k3)
      exact .inr ⟨m, s, by omega, by rw [List.getElem?_eq_getElem hm1, hm2], k4⟩
     ·exact .inl ⟨j, by omega, p, k2, s, k3, k4⟩
  ·rintro σ H2 ⟨v3, v4, v5, G, kvs, ks, rfl, M, hb2, kd, hm⟩
   refine .inl ⟨_, M.hD, trivial, fun o => ?_⟩
   refine q _ _ (M.s0.trans M.frz) ⟨D, o, kvs, ks, rfl, upd_same, kd, fun x' y' => ?_⟩
   rw [hm]
   constructor
   ·rintro ⟨j, h1, p, h2, s, h3, h4⟩
    exact ⟨p.1, p.2, s, (lmem _ _).mp (List.mem_of_getElem? h2), h3, h4⟩
   ·rintro ⟨x, y, s, h1, h2, h3⟩
    obtain ⟨j, hj1, hj2⟩ := List.mem_iff_getElem.mp ((lmem x y).mpr h1)
    exact ⟨j, by rw [hbl]; exact hj1, (x, y), by rw [List.getElem?_eq_getElem hj1, hj2], s, h2, h3⟩
 ·exact h.elim
end
end K35
end
section
namespace K35
open PySem L2
section
variable {P : Program} {w : World} {K : PySem.W.Frag} {mg : Str → Option Value} {base : Heap}
abbrev sGraph : Stmt := top 14
def spGraph : Sp := fun vs H Q _ => match vs with
 | [cv, .ref sl] => ∃ (k n : Nat) (rows : Om.Rows), DV H cv (codeD k n rows) ∧ Om.CodeOk k n rows ∧ H sl = some (.lst ((List.range rows.length).map fun i => V.int (i : Nat))) ∧ ∀ v H', Same H H' → GrV H' v (Om.AllR rows) (Om.St rows) → Q v H'
 | _ => False
theorem scGraph : FnScope ["code", "states", "graph", "one", "other"] ["code", "states"] (defScope sGraph) := ⟨rfl, rfl, rfl, by decide +kernel, rfl, by decide +kernel, by decide +kernel⟩
local macro_rules | `(tactic| walk_at "T.n") => `(tactic| with_reducible first | exact vn "code" 0 | exact vn "states" 1 | exact vn "graph" 2 | exact vn "one" 3 | exact vn "other" 4)
local macro_rules | `(tactic| walk_at "T.gn") => `(tactic| with_reducible first | exact gn "graph" 2 (by with_unfolding_all assumption) | exact gn "one" 3 (by with_unfolding_all assumption) | exact gn "other" 4 (by with_unfolding_all assumption))
local macro_rules | `(tactic| walk_at "T.e") => `(tactic| (with_reducible exact pe_dnewT))
local macro_rules | `(tactic| walk_at "T.g") => `(tactic| ((with_reducible refine' g_subD ?a0 ?a1 ?a2); (case a0 => exact Room.units (by assumption)); (case a1 => walk_at "T.e"); (case a2 => walk_at "T.e")))
local macro_rules | `(tactic| walk_at "T.st") => `(tactic| ((with_reducible refine' s_retF ?a1); (case a1 => walk_at "T.e")))
theorem rng_at {S i : Nat} {z : V} (h : ((List.range S).map fun i => V.int (i : Nat))[i]? = some z) : i < S ∧ z = .int (i : Nat) := by
 rw [List.getElem?_map] at h
 obtain ⟨j, h1, rfl⟩ := Option.map_eq_some_iff.mp h
 have hlt : i < S := by
  obtain ⟨hl, _⟩ := List.getElem?_eq_some_iff.mp h1
  simpa using hl
 rw [List.getElem?_range hlt] at h1
 cases h1
 exact ⟨hlt, rfl⟩
theorem ok_graph (D : FnX K mg "pair_graph" sGraph ["code", "states"]) (c1 : Can P w K mg base "pair_steps" 1 ["code", "one", "other"] spPSteps) : Can P w K mg base "pair_graph" 2 ["code", "states"] spGraph := by
 refine can_fn (k := 1) D scGraph (fun vs H Q E h => ?_) (fun f cdv A outer s H vs Q E hr h => ?_)
 all_goals
  unfold spGraph at h
  split at h
 ·rfl
 ·exact h.elim
 ·rename_i cv sl
  obtain ⟨k, n, rows, hc, ok, hsl, q⟩ := h
  have nd := scGraph.nd
  have s8 := ok.s8
  refine ⟨_, (by walk_at "T.top"), ?_⟩
  intro D hD
  have M0 := Gd.start hD
  refine ⟨⟨_, SqL.of (M0.all _ _ hsl)⟩, ?_⟩
  refine for_by (it_list _ sl _) (fun i σ H2 => ∃ (v3 v4 : Option V) (G : Hp) (kvs : List (List Key × V)) (ks : List (Nat × Nat)), σ = [some cv, some (.ref sl), some (.ref D), v3, v4] ∧ Gd G H H2 D kvs ∧ KD ks kvs ∧ Vals2 G kvs ks (Om.St rows) ∧
    ∀ x y, (x, y) ∈ ks ↔ x < i ∧ y < rows.length)
   ⟨none, none, _, [], [], rfl, M0, KD.nil, (fun p hp => nomatch hp), fun x' y' => by simp⟩ (fun i σ H2 _ ⟨_, _, _, _, _, _, M, _⟩ => SqL.of (M.all _ _ hsl)) ?_ ?_
  ·rintro i z σ H2 hi hz ⟨v3, v4, G, kvs, ks, rfl, M, kd, hv, hm⟩
   obtain ⟨hi', rfl⟩ := rng_at hz
   refine ⟨⟨_, SqL.of (M.all _ _ hsl)⟩, ?_⟩
   refine for_by (it_list _ sl _) (fun j σ H2 => ∃ (v4 : Option V) (G : Hp) (kvs : List (List Key × V)) (ks : List (Nat × Nat)), σ = [some cv, some (.ref sl), some (.ref D), some (.int (i : Nat)), v4] ∧ Gd G H H2 D kvs ∧ KD ks kvs ∧ Vals2 G kvs ks (Om.St rows) ∧
     ∀ x y, (x, y) ∈ ks ↔ (x < i ∧ y < rows.length) ∨ (x = i ∧ y < j))
    ⟨v4, G, kvs, ks, rfl, M, kd, hv, fun x' y' => by rw [hm]; simp⟩ (fun i σ H2 _ ⟨_, _, _, _, _, M, _⟩ => SqL.of (M.all _ _ hsl)) ?_ ?_
   ·rintro j z σ H3 hj hz ⟨v4, G, kvs, ks, rfl, M, kd, hv, hm⟩
    obtain ⟨hj', rfl⟩ := rng_at hz
    refine ⟨k, n, rows, i, j, rfl, rfl, hc.mono M.all, ok, hi', hj', fun l ss H4 s4 hl4 hst h64 hmem => ?_⟩
    obtain ⟨G1, M1, gg, he⟩ := M.call s4
    have st1 : StL G1 l ss := DV.lt (Lt.but M1.hD he) hst
    have hv1 := hv.mono gg
    refine ⟨le_line (Nat.le_of_ble_eq_true rfl), fun t ht => ?_⟩
    have M2 := M1.put (o := .tup [.int (i : Nat), .int (j : Nat)]) ht
    have U2 := M1.up (o := .tup [.int (i : Nat), .int (j : Nat)]) ht
    have nin : (i, j) ∉ ks := fun z => by
     rcases (hm _ _).mp z with ⟨h1, _⟩ | ⟨_, h1⟩
     ·exact absurd h1 (Nat.lt_irrefl _)
     ·exact absurd h1 (Nat.lt_irrefl _)
    refine .inr ⟨_, _, rfl, .inr ⟨kvs, kk (i, j), t, M2.hD, rfl, upd_same, kd.lt_line, rfl⟩, ?_⟩
    refine ⟨_, _, _, _, rfl, M2.set, kd.put (v := .ref l) nin (by show i < 8; omega) (by show j < 8; omega), (hv1.mono U2).put nin (st1.mono U2) h64 hmem, fun x' y' => ?_⟩
    rw [List.mem_append, hm, List.mem_singleton, Prod.mk.injEq]
    omega
   ·rintro σ H3 ⟨v4, G, kvs, ks, rfl, M, kd, hv, hm⟩
    refine ⟨_, _, G, kvs, ks, rfl, M, kd, hv, fun x' y' => ?_⟩
    rw [hm, List.length_map, List.length_range]
    omega
  ·rintro σ H2 ⟨v3, v4, G, kvs, ks, rfl, M, kd, hv, hm⟩
   refine .inl ⟨_, M.hD, trivial, fun o => ?_⟩
   refine q _ _ (M.s0.trans M.frz) ⟨D, o, kvs, ks, rfl, upd_same, kd, fun x' y' => ?_, hv.mono M.frz⟩
   rw [hm, List.length_map, List.length_range]
   exact Iff.rfl
 ·exact h.elim
end
section
variable {P : Program} {w : World} {K : PySem.W.Frag} {mg : Str → Option Value} {base : Heap}
abbrev sUnlike : Stmt := top 30
def unl (E : Nat → Nat → Om.Stp → Prop) : Nat → Nat → Om.Stp → Prop := fun x y s => E x y s ∧ s.1.1 ≠ s.1.2
def spUnlike : Sp := fun vs H Q _ => match vs with
 | [gv] => ∃ (R : Om.R2n) (E : Nat → Nat → Om.Stp → Prop), GrV H gv R E ∧ ∀ v H', Same H H' → GrV H' v R (unl E) → Q v H'
 | _ => False
theorem scUnlike : FnScope ["graph", "unlike", "pair"] ["graph"] (defScope sUnlike) := ⟨rfl, rfl, rfl, by decide +kernel, rfl, by decide +kernel, by decide +kernel⟩
local macro_rules | `(tactic| walk_at "T.n") => `(tactic| with_reducible first | exact vn "graph" 0 | exact vn "unlike" 1 | exact vn "pair" 2)
local macro_rules | `(tactic| walk_at "T.gn") => `(tactic| with_reducible first | exact gn "unlike" 1 (by with_unfolding_all assumption) | exact gn "pair" 2 (by with_unfolding_all assumption))
local macro_rules | `(tactic| walk_at "T.n") => `(tactic| with_reducible first | exact vn "step" 0)
local macro_rules | `(tactic| walk_at "T.gn") => `(tactic| with_reducible first | exact gn "step" 0 (by with_unfolding_all assumption))
local macro_rules | `(tactic| walk_at "T.c") => `(tactic| (have ndc : (["step"] : List Str).Nodup := (by decide +kernel)); ((with_reducible refine' c_comp ["step"] [] ?b1 ?b2 (fun cl C s H fp => ?b3) (fun cl C s H fp => ?b4) (fun cl C s H fp => ?b5)); (case b1 => exact ndc); (case b2 => walk_at "T.i"); (case b3 => walk_at "T.g"); (case b4 => walk_at "T.pf"); (case b5 => walk_at "T.e")))
local macro_rules | `(tactic| walk_at "T.n") => `(tactic| with_reducible first | exact vn "graph" 0 | exact vn "unlike" 1 | exact vn "pair" 2 | exact vn "step" 3)
local macro_rules | `(tactic| walk_at "T.gn") => `(tactic| with_reducible first | exact gn "graph" 0 (by with_unfolding_all assumption) | exact gn "unlike" 1 (by with_unfolding_all assumption) | exact gn "pair" 2 (by with_unfolding_all assumption) | exact gn "step" 3 (by with_unfolding_all assumption))
local macro_rules | `(tactic| walk_at "T.e") => `(tactic| first | (with_reducible exact pe_dnewT) | ((with_reducible refine' ix_atD ?a0 ?a1 ?a2); (case a0 => exact Room.units (by assumption)); (case a1 => walk_at "T.e"); (case a2 => walk_at "T.e")))
local macro_rules | `(tactic| walk_at "T.i") => `(tactic| ((with_reducible refine' pi_lstD ?a1); (case a1 => walk_at "T.e")))
local macro_rules | `(tactic| walk_at "T.g") => `(tactic| ((with_reducible refine' g_subD ?a0 ?a1 ?a2); (case a0 => exact Room.units (by assumption)); (case a1 => walk_at "T.e"); (case a2 => walk_at "T.e")))
local macro_rules | `(tactic| walk_at "T.st") => `(tactic| ((with_reducible refine' s_retF ?a1); (case a1 => walk_at "T.e")))
theorem ok_unlike (D : FnX K mg "unlike_steps" sUnlike ["graph"]) : Can P w K mg base "unlike_steps" 1 ["graph"] spUnlike := by
 refine can_fn (k := 0) D scUnlike (fun vs H Q E h => ?_) (fun f cdv A outer s H vs Q E hr h => ?_)
 all_goals
  unfold spUnlike at h
  split at h
 ·rfl
 ·exact h.elim
 ·rename_i gv
  obtain ⟨R, Ed, hgr, q⟩ := h
  have nd := scUnlike.nd
  obtain ⟨ga, go, gkvs, gks, rfl, hga, gkd, gmem, gst⟩ := hgr
  refine ⟨_, (by walk_at "T.top"), ?_⟩
  intro D hD
  have M0 := Gd.start hD
  refine .inr (.inl ⟨go, gkvs, M0.all _ _ hga, fun bs hbs => ?_⟩)
  have hbl := gkd.blen hbs
  refine for_by (it_keys ga go (bs.map V.ref)) (fun i σ H2 => ∃ (v2 : Option V) (G : Hp) (kvs : List (List Key × V)) (ks : List (Nat × Nat)), σ = [some (.ref ga), some (.ref D), v2] ∧ Gd G H H2 D kvs ∧ KeysAt H2 gkvs bs ∧ KD ks kvs ∧ Vals2 G kvs ks (unl Ed) ∧ ks = gks.take i)
   ⟨none, _, [], [], rfl, M0, hbs, KD.nil, (fun p hp => nomatch hp), by simp⟩ (fun i σ H2 _ ⟨_, _, _, _, _, M, _⟩ => ⟨_, M.all _ _ hga⟩) ?_ ?_
  ·rintro i z σ H2 hi hz ⟨v2, G, kvs, ks, rfl, M, hb2, kd, hv, rfl⟩
   have hi' : i < gks.length := by rw [← hbl]; exact hi
   obtain ⟨b, rfl, hb⟩ := gkd.key hb2 hi' hz
   obtain ⟨l, ss, g1, g2, g3, g4⟩ := gst gks[i] (List.getElem_mem hi')
   obtain ⟨l', xs, e, hl, hxs⟩ := g2.lst_inv
   cases e
   have xl : xs.length = ss.length := by rw [hxs.length, List.length_map]
   have hgb : DGet H2 ga (.ref b) (some (.ref l)) := .inr ⟨gkvs, kk gks[i], b, .inr ⟨go, M.all _ _ hga⟩, rfl, hb, g1.symm⟩
   refine .inr ⟨_, _, rfl, hgb, ?_⟩
   refine .inl ⟨⟨_, SqL.of (M.all _ _ hl)⟩, fun C hC => ?_⟩
   refine comp_by (it_list _ l xs) (fun m τ H4 ys => (∃ v, τ = [v]) ∧ H4 = upd H2 C (.lst ys) ∧ ∃ zs : List Om.Stp, DVs H ys (zs.map sD) ∧ zs.length ≤ m ∧ ∀ s, s ∈ zs ↔ (∃ m', m' < m ∧ ss[m']? = some s) ∧ s.1.1 ≠ s.1.2)
    (by rw [xl]; exact le_line (by omega)) ⟨⟨none, rfl⟩, rfl, [], .nil, Nat.le_refl _, by simp⟩ ?_ ?_ ?_
   ·rintro m τ H4 ys hm ⟨_, rfl, zs, hd, hzl, _⟩
    have : C ≠ l := fun z => by rw [z, M.all _ _ hl] at hC; cases hC
    exact ⟨SqL.of (Same.upd hC _ _ (M.all _ _ hl)), upd_same, by rw [hd.length, List.length_map]; exact hzl⟩
   ·rintro m z τ H4 ys hm hz ⟨⟨v, rfl⟩, rfl, zs, hd, hzl, hmem⟩
    have hm' : m < ss.length := by rw [← xl]; exact hm
    have es : ss[m]? = some ss[m] := List.getElem?_eq_getElem hm'
    obtain ⟨z', hz', dz⟩ := hxs.get (i := m) (d := sD ss[m]) (by rw [List.getElem?_map, es]; rfl)
    rw [hz] at hz'
    cases hz'
    obtain ⟨p, a, c, rfl, h1, h2, h3⟩ := sD_inv dz
    have u4 : Same H (upd H2 C (.lst ys)) := M.all.trans (Same.upd hC)
    dsimp only [gName]
    refine .inl ⟨_, gt (u4 _ _ h1) (by decide) rfl, .inl ⟨_, gt (u4 _ _ h2) (by decide) rfl, .inl ⟨_, gt (u4 _ _ h1) (by decide) rfl, .inl ⟨_, gt (u4 _ _ h2) (by decide) rfl, ?_⟩⟩⟩⟩
    dsimp only
    refine ite2 (fun c1 => ?_) (fun c1 => ?_)
    ·have ne : ss[m].1.1 ≠ ss[m].1.2 := fun z => by rw [z] at c1; simp at c1
     refine ⟨upd_same, ⟨_, rfl⟩, upd_upd, zs ++ [ss[m]], ?_, by simp; omega, fun u => ?_⟩
     ·rw [List.map_append]
      exact hd.app (.cons dz .nil)
     ·rw [List.mem_append, hmem, List.mem_singleton]
      constructor
      ·rintro (⟨⟨m', k1, k2⟩, k3⟩ | k)
       ·exact ⟨⟨m', by omega, k2⟩, k3⟩
       ·subst k; exact ⟨⟨m, by omega, es⟩, ne⟩
      ·rintro ⟨⟨m', k1, k2⟩, k3⟩
       by_cases e : m' = m
       ·subst e
        rw [es] at k2
        exact .inr (Option.some.inj k2).symm
       ·exact .inl ⟨⟨m', by omega, k2⟩, k3⟩
    ·have eq : ss[m].1.1 = ss[m].1.2 := by
      rcases Nat.decEq ss[m].1.1 ss[m].1.2 with h | h
      ·have h' : ¬ ((ss[m].1.1 : Nat) : Int) = ((ss[m].1.2 : Nat) : Int) := by omega
       rw [decide_eq_false h'] at c1
       exact absurd rfl c1
      ·exact h
     refine ⟨⟨_, rfl⟩, rfl, zs, hd, by omega, fun u => ?_⟩
     rw [hmem]
     constructor
     ·rintro ⟨⟨m', k1, k2⟩, k3⟩; exact ⟨⟨m', by omega, k2⟩, k3⟩
     ·rintro ⟨⟨m', k1, k2⟩, k3⟩
      by_cases e : m' = m
      ·subst e
       rw [es] at k2
       cases k2
       exact absurd eq k3
      ·exact ⟨⟨m', by omega, k2⟩, k3⟩
   ·rintro τ H4 ys ⟨_, rfl, zs, hd, hzl, hmem⟩
    have M1 := M.put (o := .lst ys) hC
    have U1 := M.up (o := .lst ys) hC
    have hb3 : upd H2 C (.lst ys) b = some (.tup ((kk gks[i]).map kV)) := Same.upd hC _ _ hb
    have ti : gks.take (i + 1) = gks.take i ++ [gks[i]] := by rw [List.take_add_one, List.getElem?_eq_getElem hi']; rfl
    have nin : gks[i] ∉ gks.take i := fun z => by
     have nd2 := gkd.nd
     rw [← List.take_append_drop (i + 1) gks, ti] at nd2
     have nd3 := (List.nodup_append.mp nd2).1
     exact (List.nodup_append.mp nd3).2.2 _ z _ (List.mem_singleton.mpr rfl) rfl
    refine .inr ⟨_, _, rfl, .inr ⟨kvs, kk gks[i], b, M1.hD, rfl, hb3, kd.lt_line, rfl⟩, ?_⟩
    have b8 := gkd.lt _ (List.getElem_mem hi')
    have st : StL (upd G C (.lst ys)) C zs := .lst upd_same (hd.mono (M.s0.trans U1))
    refine ⟨_, _, _, gks.take i ++ [gks[i]], rfl, M1.set, ?_, kd.put (v := .ref C) nin b8.1 b8.2, (hv.mono U1).put nin st (by omega) (fun s => ?_), ti.symm⟩
    ·refine Paired.mapP hb2 fun p b' h => ?_
     have : b' ≠ D := ne_of h M.hD (fun z => nomatch z)
     rw [upd_ne this]; exact Same.upd hC _ _ h
    ·rw [hmem]
     unfold unl
     rw [← g4]
     constructor
     ·rintro ⟨⟨m', k1, k2⟩, k3⟩; exact ⟨List.mem_of_getElem? k2, k3⟩
     ·rintro ⟨k2, k3⟩
      obtain ⟨m', e1, e2⟩ := List.mem_iff_getElem.mp k2
      exact ⟨⟨m', by rw [xl]; exact e1, by rw [List.getElem?_eq_getElem e1, e2]⟩, k3⟩
  ·rintro σ H2 ⟨v2, G, kvs, ks, rfl, M, hb2, kd, hv, rfl⟩
   refine .inl ⟨_, M.hD, trivial, fun o => ?_⟩
   rw [hbl, List.take_length] at kd hv
   exact q _ _ (M.s0.trans M.frz) ⟨D, o, kvs, gks, rfl, upd_same, kd, gmem, hv.mono M.frz⟩
 ·exact h.elim
end
end K35
end
section
namespace K35
open PySem L2
section
variable {P : Program} {w : World} {K : PySem.W.Frag} {mg : Str → Option Value} {base : Heap}
abbrev sWhole : Stmt := top 11
def spWhole : Sp := fun vs H Q _ => match vs with
 | [.int _] => Q (.bl true) H
 | _ => False
theorem scWhole : FnScope ["thing"] ["thing"] (defScope sWhole) := ⟨rfl, rfl, rfl, by decide +kernel, rfl, by decide +kernel, by decide +kernel⟩
local macro_rules | `(tactic| walk_at "T.n") => `(tactic| with_reducible first | exact vn "thing" 0)
theorem ok_whole (D : FnX K mg "is_whole" sWhole ["thing"]) (g1 : mg "isinstance" = none) (g2 : mg "int" = none) (g3 : mg "bool" = none) : Can P w K mg base "is_whole" 1 ["thing"] spWhole := by
 refine can_fn (k := 0) D scWhole (fun vs H Q E h => ?_) (fun f cdv A outer s H vs Q E hr h => ?_)
 all_goals
  unfold spWhole at h
  split at h
 ·rfl
 ·exact h.elim
 ·have nd := scWhole.nd
  refine ⟨_, (by walk_at "T.top1"), ?_⟩
  refine ⟨"int", rfl, by decide, ?_⟩
  refine iteP (by decide) ?_
  refine ⟨"int", rfl, by decide, ?_⟩
  exact h
 ·exact h.elim
abbrev sWin : Stmt := top 27
def spWin : Sp := fun vs H Q _ => match vs with
 | [.int b, .int a] => 0 ≤ b ∧ 0 ≤ a ∧ Q (.bl true) H
 | _ => False
theorem scWin : FnScope ["back", "ahead"] ["back", "ahead"] (defScope sWin) := ⟨rfl, rfl, rfl, by decide +kernel, rfl, by decide +kernel, by decide +kernel⟩
local macro_rules | `(tactic| walk_at "T.n") => `(tactic| with_reducible first | exact vn "back" 0 | exact vn "ahead" 1)
theorem ok_win (D : FnX K mg "is_window" sWin ["back", "ahead"]) (c1 : Can P w K mg base "is_whole" 1 ["thing"] spWhole) : Can P w K mg base "is_window" 2 ["back", "ahead"] spWin := by
 refine can_fn (k := 1) D scWin (fun vs H Q E h => ?_) (fun f cdv A outer s H vs Q E hr h => ?_)
 all_goals
  unfold spWin at h
  split at h
 ·rfl
 ·exact h.elim
 ·obtain ⟨h0, h1, q⟩ := h
  have nd := scWin.nd
  refine ⟨_, (by walk_at "T.top1"), ?_⟩
  refine iteP (decide_eq_true h0) ?_
  have q' := q
  rw [← decide_eq_true h1] at q'
  exact q'
 ·exact h.elim
abbrev sBehind : Stmt := top 29
def spBehind : Sp := fun vs H Q _ => match vs with
 | [lv, gv, .int c] => ∃ (m : Nat) (R R0 : Om.R2n) (E : Nat → Nat → Om.Stp → Prop), c = (m : Nat) ∧ m ≤ 100 ∧ LyV H lv R ∧ GrV H gv R0 E ∧ (∀ x y, R x y → R0 x y) ∧ (∀ x y s, R0 x y → E x y s → R0 s.2.1 s.2.2) ∧ ∀ v H', Same H H' → LyV H' v (Om.iterR E R m) → (∀ x y, Om.iterR E R m x y → R0 x y) → Q v H'
 | _ => False
theorem scBehind : FnScope ["pairs", "graph", "count", "place"] ["pairs", "graph", "count"] (defScope sBehind) := ⟨rfl, rfl, rfl, by decide +kernel, rfl, by decide +kernel, by decide +kernel⟩
local macro_rules | `(tactic| walk_at "T.n") => `(tactic| with_reducible first | exact vn "pairs" 0 | exact vn "graph" 1 | exact vn "count" 2)
local macro_rules | `(tactic| walk_at "T.gn") => `(tactic| with_reducible first | exact gn "pairs" 0 (by with_unfolding_all assumption) | exact gn "place" 3 (by with_unfolding_all assumption))
theorem ok_behind (D : FnX K mg "pairs_behind" sBehind ["pairs", "graph", "count"]) (g1 : mg "range" = none) (c1 : Can P w K mg base "layer_behind" 1 ["layer", "graph"] spLayer) : Can P w K mg base "pairs_behind" 2 ["pairs", "graph", "count"] spBehind := by
 refine can_fn (k := 1) D scBehind (fun vs H Q E h => ?_) (fun f cdv A outer s H vs Q E hr h => ?_)
 all_goals
  unfold spBehind at h
  split at h
 ·rfl
 ·exact h.elim
 ·rename_i lv gv c
  obtain ⟨m, R, R0, Ed, rfl, m100, hly, hgr, hsub, hcl, q⟩ := h
  have nd := scBehind.nd
  refine ⟨_, (by walk_at "T.top"), ?_⟩
  refine ⟨by omega, by omega, for_by (it_range 0 _) (fun i σ H2 => ∃ (v : V) (v3 : Option V), σ = [some v, some gv, some (.int (m : Nat)), v3] ∧ Same H H2 ∧ LyV H2 v (Om.iterR Ed R i) ∧ ∀ x y, Om.iterR Ed R i x y → R0 x y)
   ⟨lv, none, rfl, Same.refl _, hly, hsub⟩ (fun _ _ _ _ _ => trivial) ?_ ?_⟩
  ·rintro i z σ H2 hi hz ⟨v, v3, rfl, s2, l2, b2⟩
   refine ⟨_, R0, Ed, l2, hgr.mono s2, b2, hcl, fun v' H3 s3 l3 => ?_⟩
   refine ⟨v', _, rfl, s2.trans s3, l3, ?_⟩
   rintro x y ⟨x1, y1, s, h1, h2, h3⟩
   have := hcl _ _ _ (b2 _ _ h1) h2
   rw [h3] at this
   exact this
  ·rintro σ H2 ⟨v, v3, rfl, s2, l2, b2⟩
   rw [List.length_map, List.length_range, Int.toNat_natCast] at l2 b2
   exact q _ _ s2 l2 b2
 ·exact h.elim
end
section
variable {P : Program} {w : World} {K : PySem.W.Frag} {mg : Str → Option Value} {base : Heap}
abbrev sGTells : Stmt := top 28
def spGTells : Sp := fun vs H Q _ => match vs with
 | [gv, .int b0, .int a0] => ∃ (b a : Nat) (rows : Om.Rows) (k n : Nat), b0 = (b : Nat) ∧ a0 = (a : Nat) ∧ b ≤ 100 ∧ a ≤ 100 ∧ Om.CodeOk k n rows ∧ GrV H gv (Om.AllR rows) (Om.St rows) ∧ ∀ (c : Bool) H', Same H H' → (c = true ↔ ∀ x y, ¬ Om.Clash rows b (b + 1 + a) x y) → Q (.bl c) H'
 | _ => False
theorem scGTells : FnScope ["graph", "back", "ahead", "pairs"] ["graph", "back", "ahead"] (defScope sGTells) := ⟨rfl, rfl, rfl, by decide +kernel, rfl, by decide +kernel, by decide +kernel⟩
local macro_rules | `(tactic| walk_at "T.n") => `(tactic| with_reducible first | exact vn "graph" 0 | exact vn "back" 1 | exact vn "ahead" 2 | exact vn "pairs" 3)
local macro_rules | `(tactic| walk_at "T.gn") => `(tactic| with_reducible first | exact gn "pairs" 3 (by with_unfolding_all assumption))
local macro_rules | `(tactic| walk_at "T.e") => `(tactic| ((with_reducible refine' e_notD ?a1); (case a1 => walk_at "T.e")))
theorem st_all {k n : Nat} {rows : Om.Rows} (ok : Om.CodeOk k n rows) : ∀ x y s, Om.AllR rows x y → Om.St rows x y s → Om.AllR rows s.2.1 s.2.2 := fun x y s _ h => by
 obtain ⟨h1, h2, h3, h4⟩ := h
 rw [h4]
 exact ⟨(ok.stp h1).2.2, (ok.stp h2).2.2⟩
theorem ok_gtells (D : FnX K mg "graph_tells" sGTells ["graph", "back", "ahead"]) (c1 : Can P w K mg base "pairs_behind" 2 ["pairs", "graph", "count"] spBehind) (c2 : Can P w K mg base "layer_behind" 1 ["layer", "graph"] spLayer)
  (c3 : Can P w K mg base "unlike_steps" 1 ["graph"] spUnlike) : Can P w K mg base "graph_tells" 3 ["graph", "back", "ahead"] spGTells := by
 refine can_fn (k := 2) D scGTells (fun vs H Q E h => ?_) (fun f cdv A outer s H vs Q E hr h => ?_)
 all_goals
  unfold spGTells at h
  split at h
 ·rfl
 ·exact h.elim
 ·rename_i gv b0 a0
  obtain ⟨b, a, rows, k, n, rfl, rfl, hb, ha, ok, hgr, q⟩ := h
  have nd := scGTells.nd
  have cl := st_all ok
  refine ⟨_, (by walk_at "T.top"), ?_⟩
  refine ⟨b, Om.AllR rows, Om.AllR rows, Om.St rows, rfl, hb, hgr.ly, hgr, fun _ _ h => h, cl, fun v1 H1 s1 l1 b1 => ?_⟩
  refine ⟨_, _, hgr.mono s1, fun uv H2 s2 g2 => ?_⟩
  refine ⟨_, _, _, l1.mono s2, g2, b1, fun x y s h1 h2 => cl x y s h1 h2.1, fun v3 H3 s3 l3 => ?_⟩
  have hg3 := ((hgr.mono s1).mono s2).mono s3
  have b3 : ∀ x y, Om.nextR (unl (Om.St rows)) (Om.iterR (Om.St rows) (Om.AllR rows) b) x y → Om.AllR rows x y := by
   rintro x y ⟨x1, y1, s, h1, h2, h3⟩
   have := cl _ _ _ (b1 _ _ h1) h2.1
   rw [h3] at this
   exact this
  refine ⟨a, _, _, _, rfl, ha, l3, hg3, b3, cl, fun v4 H4 s4 l4 b4 => ?_⟩
  obtain ⟨la, lo, kvs, ks, rfl, hl, kd, hm⟩ := l4
  refine .inr (.inr ⟨kvs, .inr ⟨lo, hl⟩, ?_⟩)
  refine q _ _ ((((s1.trans s2).trans s3).trans s4)) ?_
  have key : ∀ x y, (x, y) ∈ ks ↔ Om.Clash rows b (b + 1 + a) x y := fun x y => by
   rw [hm]
   exact Om.clash_iff ok b a x y
  have e1 : (!(!kvs.isEmpty)) = true ↔ ks = [] := by
   have := kd.len
   cases kvs with
   | nil =>
    constructor
    ·intro _; cases ks with
     | nil => rfl
     | cons _ _ => simp at this
    ·intro _; rfl
   | cons p r =>
    constructor
    ·intro h; simp at h
    ·intro h; subst h; simp at this
  rw [e1]
  constructor
  ·intro h x y hc
   have := (key x y).mpr hc
   rw [h] at this
   cases this
  ·intro h
   cases ks with
   | nil => rfl
   | cons p r => exact absurd ((key p.1 p.2).mp List.mem_cons_self) (h _ _)
 ·exact h.elim
end
section
variable {P : Program} {w : World} {K : PySem.W.Frag} {mg : Str → Option Value} {base : Heap}
abbrev sTells : Stmt := top 26
def spTells : Sp := fun vs H Q _ => match vs with
 | [cv, .int b0, .int a0] => ∃ (b a : Nat) (rows : Om.Rows) (k n : Nat), b0 = (b : Nat) ∧ a0 = (a : Nat) ∧ b ≤ 100 ∧ a ≤ 100 ∧ Om.CodeOk k n rows ∧ DV H cv (codeD k n rows) ∧ ∀ (c : Bool) H', Same H H' → (c = true ↔ ∀ x y, ¬ Om.Clash rows b (b + 1 + a) x y) → Q (.bl c) H'
 | _ => False
theorem scTells : FnScope ["code", "back", "ahead"] ["code", "back", "ahead"] (defScope sTells) := ⟨rfl, rfl, rfl, by decide +kernel, rfl, by decide +kernel, by decide +kernel⟩
local macro_rules | `(tactic| walk_at "T.n") => `(tactic| with_reducible first | exact vn "code" 0 | exact vn "back" 1 | exact vn "ahead" 2)
theorem ok_tells (D : FnX K mg "tells" sTells ["code", "back", "ahead"]) (c1 : Can P w K mg base "is_window" 2 ["back", "ahead"] spWin) (c2 : Can P w K mg base "graph_tells" 3 ["graph", "back", "ahead"] spGTells)
  (c3 : Can P w K mg base "pair_graph" 2 ["code", "states"] spGraph) (c4 : Can P w K mg base "every_state" 1 ["code"] spEvery) : Can P w K mg base "tells" 4 ["code", "back", "ahead"] spTells := by
 refine can_fn (k := 3) D scTells (fun vs H Q E h => ?_) (fun f cdv A outer s H vs Q E hr h => ?_)
 all_goals
  unfold spTells at h
  split at h
 ·rfl
 ·exact h.elim
 ·rename_i cv b0 a0
  obtain ⟨b, a, rows, k, n, rfl, rfl, hb, ha, ok, hc, q⟩ := h
  have nd := scTells.nd
  refine ⟨_, (by walk_at "T.top1"), ?_⟩
  refine ⟨by omega, by omega, ?_⟩
  refine iteP rfl ?_
  refine ⟨k, n, rows, hc, ok.s8, fun l H1 s1 h1 => ?_⟩
  refine ⟨k, n, rows, hc.mono s1, ok, h1, fun gv H2 s2 g2 => ?_⟩
  exact ⟨b, a, rows, k, n, rfl, rfl, hb, ha, ok, g2, fun c H3 s3 hc3 => q c _ ((s1.trans s2).trans s3) hc3⟩
 ·exact h.elim
end
end K35
end
section
namespace K35
open PySem L2
section
variable {P : Program} {w : World} {K : PySem.W.Frag} {mg : Str → Option Value} {base : Heap}
abbrev sBehW : Stmt := top 24
def spBehW : Sp := fun vs H Q _ => match vs with
 | [cv, sv, .str z] => ∃ (k n : Nat) (rows : Om.Rows) (S : Om.Sn) (wd : List Bool), DV H cv (codeD k n rows) ∧ Om.CodeOk k n rows ∧ SL H sv S ∧ (∀ x, S x → x < rows.length) ∧ z = bs wd ∧ ∀ v H', Same H H' → SL H' v (Om.aft rows S wd) → Q v H'
 | _ => False
theorem scBehW : FnScope ["code", "states", "word", "behind", "state", "row"] ["code", "states", "word"] (defScope sBehW) := ⟨rfl, rfl, rfl, by decide +kernel, rfl, by decide +kernel, by decide +kernel⟩
local macro_rules | `(tactic| walk_at "T.n") => `(tactic| with_reducible first | exact vn "code" 0 | exact vn "states" 1 | exact vn "word" 2 | exact vn "behind" 3 | exact vn "state" 4 | exact vn "row" 5)
local macro_rules | `(tactic| walk_at "T.gn") => `(tactic| with_reducible first | exact gn "behind" 3 (by with_unfolding_all assumption) | exact gn "state" 4 (by with_unfolding_all assumption) | exact gn "row" 5 (by with_unfolding_all assumption))
local macro_rules | `(tactic| walk_at "T.e") => `(tactic| (with_reducible exact pe_dnewK))
local macro_rules | `(tactic| walk_at "T.g") => `(tactic| ((with_reducible refine' g_subD ?a0 ?a1 ?a2); (case a0 => exact Room.units (by assumption)); (case a1 => walk_at "T.e"); (case a2 => walk_at "T.e")))
local macro_rules | `(tactic| walk_at "T.b") => `(tactic| ((with_reducible refine' fn_sortedD ?a0 ?a9 ?a1); (case a0 => with_reducible assumption); (case a9 => rfl); (case a1 => walk_at "T.a")))
theorem perm_nat : ∀ {ms : List Int} {ks : List Nat}, ms.Perm (ks.map fun i => ((i : Nat) : Int)) → ∃ ns : List Nat, ms = ns.map (fun i => ((i : Nat) : Int)) ∧ ns.Perm ks := fun {ms ks} h => by
 have e : ms = (ms.map Int.toNat).map fun i => ((i : Nat) : Int) := by
  rw [List.map_map]
  have : ∀ m ∈ ms, 0 ≤ m := fun m hm => by
   obtain ⟨i, _, rfl⟩ := List.mem_map.mp (h.mem_iff.mp hm)
   omega
  conv => lhs; rw [← List.map_id ms]
  apply List.map_congr_left
  intro m hm
  have := this m hm
  simp only [id, Function.comp]
  omega
 refine ⟨ms.map Int.toNat, e, ?_⟩
 have := h.map Int.toNat
 rw [List.map_map] at this
 have e2 : ks.map (Int.toNat ∘ fun i => ((i : Nat) : Int)) = ks := by
  conv => rhs; rw [← List.map_id ks]
  apply List.map_congr_left
  intro m _
  simp
 rw [e2] at this
 exact this
theorem ok_behW (D : FnX K mg "states_behind_word" sBehW ["code", "states", "word"]) (g1 : mg "sorted" = none) : Can P w K mg base "states_behind_word" 1 ["code", "states", "word"] spBehW := by
 refine can_fn (k := 0) D scBehW (fun vs H Q E h => ?_) (fun f cdv A outer s H vs Q E hr h => ?_)
 all_goals
  unfold spBehW at h
  split at h
 ·rfl
 ·exact h.elim
 ·rename_i cv sv z
  obtain ⟨k, n, rows, S, wd, hc, ok, ⟨sl, ns, rfl, hsl, n8, hns⟩, hS, rfl, q⟩ := h
  have nd := scBehW.nd
  have s8 := ok.s8
  obtain ⟨a, b, ss, rfl, ha, hb, hss⟩ := code_inv hc
  refine ⟨_, (by walk_at "T.top"), ?_⟩
  intro D hD
  have M0 := Gk.start hD
  refine ⟨⟨_, SqL.of (M0.all _ _ hsl)⟩, ?_⟩
  refine for_by (it_list _ sl _) (fun i σ H2 => ∃ (v4 v5 : Option V) (G : Hp) (kvs : List (Key × V)) (ks : List Nat), σ = [some (.ref a), some (.ref sl), some (.str (bs wd)), some (.ref D), v4, v5] ∧ Gk G H H2 D kvs ∧ KN ks kvs ∧ ∀ y, y ∈ ks ↔ ∃ j x g, j < i ∧ ns[j]? = some x ∧ g < (rows.getD x []).length ∧ Om.step rows x g = (wd, y))
   ⟨none, none, _, [], [], rfl, M0, KN.nil, fun y => by simp⟩ (fun i σ H2 _ ⟨_, _, _, _, _, _, M, _⟩ => SqL.of (M.all _ _ hsl)) ?_ ?_
  ·rintro i z σ H2 hi hz ⟨v4, v5, G, kvs, ks, rfl, M, kn, hm⟩
   have hi' : i < ns.length := by simpa using hi
   have ex : ns[i]? = some ns[i] := List.getElem?_eq_getElem hi'
   have ez : z = .int (ns[i] : Nat) := by
    rw [List.getElem?_map, ex] at hz
    exact (Option.some.inj hz).symm
   subst ez
   have hx : ns[i] < rows.length := hS _ ((hns _).mp (List.getElem_mem hi'))
   generalize hxe : ns[i] = x at *
   obtain ⟨qx, rx, e1, e2, e3⟩ := state_at hss (s := x) (st := rows[x]) (List.getElem?_eq_getElem hx)
   have gx : rows.getD x [] = rows[x] := by simp [List.getD_eq_getElem?_getD, hx]
   have rxl : rx.length = rows[x].length := by rw [e3.length, List.length_map]
   refine ⟨_, gt (M.all _ _ ha) (by decide) rfl, .ref qx, gl (M.all _ _ hb) (by omega) (by simpa using e1), ⟨_, SqL.of (M.all _ _ e2)⟩, ?_⟩
   refine for_by (it_list _ qx rx) (fun g σ H3 => ∃ (v5 : Option V) (G : Hp) (kvs : List (Key × V)) (ks : List Nat), σ = [some (.ref a), some (.ref sl), some (.str (bs wd)), some (.ref D), some (.int (x : Nat)), v5] ∧ Gk G H H3 D kvs ∧ KN ks kvs ∧
     ∀ y, y ∈ ks ↔ (∃ j x g, j < i ∧ ns[j]? = some x ∧ g < (rows.getD x []).length ∧ Om.step rows x g = (wd, y)) ∨ ∃ g', g' < g ∧ g' < rows[x].length ∧ Om.step rows x g' = (wd, y))
    ⟨v5, G, kvs, ks, rfl, M, kn, fun y => by rw [hm]; simp⟩ (fun i σ H2 _ ⟨_, _, _, _, _, M, _⟩ => SqL.of (M.all _ _ e2)) ?_ ?_
   ·rintro g z σ H3 hg hz ⟨v5, G3, kvs3, ks3, rfl, M3, kn3, hm3⟩
    have hg' : g < rows[x].length := by omega
    obtain ⟨r, r1, r2⟩ := row_at e3 (l := g) (r := rows[x][g]) (List.getElem?_eq_getElem hg')
    rw [hz] at r1
    cases r1
    have stx : Om.step rows x g = rows[x][g] := by unfold Om.step; rw [gx]; simp [List.getD_eq_getElem?_getD, hg']
    have okr := ok.row _ (List.getElem_mem hx) _ (List.getElem_mem hg')
    refine ⟨_, gt (M3.all _ _ r2) (by decide) rfl, ?_⟩
    have key : ∀ y, (∃ g', g' < g + 1 ∧ g' < rows[x].length ∧ Om.step rows x g' = (wd, y)) ↔ (∃ g', g' < g ∧ g' < rows[x].length ∧ Om.step rows x g' = (wd, y)) ∨ rows[x][g] = (wd, y) := fun y => by
     constructor
     ·rintro ⟨g', k1, k2, k3⟩
      by_cases e : g' = g
      ·subst e; rw [stx] at k3; exact .inr k3
      ·exact .inl ⟨g', by omega, k2, k3⟩
     ·rintro (⟨g', k1, k2, k3⟩ | h)
      ·exact ⟨g', by omega, k2, k3⟩
      ·exact ⟨g, by omega, hg', by rw [stx]; exact h⟩
    refine ite2 (fun h1 => ?_) (fun h1 => ?_)
    ·have h1' := bs_inj (of_decide_eq_true h1)
     refine ⟨_, gt (M3.all _ _ r2) (by decide) rfl, ?_⟩
     obtain ⟨ks4, kn4, hk4⟩ := kn3.set (x := rows[x][g].2) (v := .bl true) (by omega)
     refine .inr ⟨_, _, rfl, .inl ⟨kvs3, Sum.inl ((rows[x][g].2 : Nat) : Int), M3.hD, rfl, ?_, rfl⟩, ?_⟩
     ·rw [kn3.len]; exact lt_line (by have := kn3.le; omega)
     ·refine ⟨_, G3, _, ks4, rfl, M3.set, kn4, fun y => ?_⟩
      rw [hk4, hm3, key, or_assoc]
      have : y = rows[x][g].2 ↔ rows[x][g] = (wd, y) := by
       rw [← h1']
       constructor
       ·intro e; rw [e]
       ·intro e; rw [e]
      rw [this]
    ·have h1' : ¬ rows[x][g].1 = wd := fun z => by rw [z] at h1; simp at h1
     refine ⟨_, G3, kvs3, ks3, rfl, M3, kn3, fun y => ?_⟩
     rw [hm3, key, ← or_assoc]
     constructor
     ·exact .inl
     ·rintro (h | h)
      ·exact h
      ·exact absurd (by rw [h]) h1'
   ·rintro σ H3 ⟨v5, G3, kvs3, ks3, rfl, M3, kn3, hm3⟩
    refine ⟨_, _, G3, kvs3, ks3, rfl, M3, kn3, fun y => ?_⟩
    rw [hm3]
    constructor
    ·rintro (⟨j, x', g, k1, k2, k3⟩ | ⟨g, _, k2, k3⟩)
     ·exact ⟨j, x', g, by omega, k2, k3⟩
     ·exact ⟨i, x, g, by omega, ex, by rw [gx]; exact k2, k3⟩
    ·rintro ⟨j, x', g, k1, k2, k3, k4⟩
     by_cases e : j = i
     ·subst e
      rw [ex] at k2
      cases k2
      rw [gx] at k3
      exact .inr ⟨g, by omega, k3, k4⟩
     ·exact .inl ⟨j, x', g, by omega, k2, k3, k4⟩
  ·rintro σ H2 ⟨v4, v5, G, kvs, ks, rfl, M, kn, hm⟩
   have e0 : (ks.map fun (i : Nat) => (Sum.inl (i : Int) : Key)) = (ks.map fun i => ((i : Nat) : Int)).map Sum.inl := by rw [List.map_map]; rfl
   refine .inl ⟨D, kvs, ks.map fun i => ((i : Nat) : Int), rfl, .inl M.hD, kn.keys.trans e0, by rw [List.length_map]; have := kn.le; omega, fun l ms hl hp _ => ?_⟩
   obtain ⟨ns', rfl, pm⟩ := perm_nat hp
   refine q _ _ (M.all.trans (Same.upd hl)) ⟨l, ns', rfl, ?_, by rw [pm.length_eq]; exact kn.le, fun y => ?_⟩
   ·rw [upd_same, List.map_map]; rfl
   ·rw [pm.mem_iff, hm]
    constructor
    ·rintro ⟨j, x, g, _, k2, k3, k4⟩
     exact ⟨x, g, (hns _).mp (List.mem_of_getElem? k2), k3, k4⟩
    ·rintro ⟨x, g, k1, k2, k3⟩
     obtain ⟨j, e1, e2⟩ := List.mem_iff_getElem.mp ((hns x).mpr k1)
     exact ⟨j, x, g, by simpa using e1, by rw [List.getElem?_eq_getElem e1, e2], k2, k3⟩
 ·exact h.elim
abbrev sBeh : Stmt := top 23
def spBeh : Sp := fun vs H Q _ => match vs with
 | [cv, sv, wv] => ∃ (k n : Nat) (rows : Om.Rows) (S : Om.Sn) (cs : List (List Bool)), DV H cv (codeD k n rows) ∧ Om.CodeOk k n rows ∧ SL H sv S ∧ (∀ x, S x → x < rows.length) ∧ WL H wv cs ∧ ∀ v H', Same H H' → SL H' v (Om.afts rows S cs) → Q v H'
 | _ => False
theorem scBeh : FnScope ["code", "states", "words", "word"] ["code", "states", "words"] (defScope sBeh) := ⟨rfl, rfl, rfl, by decide +kernel, rfl, by decide +kernel, by decide +kernel⟩
local macro_rules | `(tactic| walk_at "T.n") => `(tactic| with_reducible first | exact vn "code" 0 | exact vn "states" 1 | exact vn "words" 2 | exact vn "word" 3)
local macro_rules | `(tactic| walk_at "T.gn") => `(tactic| with_reducible first | exact gn "states" 1 (by with_unfolding_all assumption) | exact gn "word" 3 (by with_unfolding_all assumption))
theorem ok_beh (D : FnX K mg "states_behind" sBeh ["code", "states", "words"]) (c1 : Can P w K mg base "states_behind_word" 1 ["code", "states", "word"] spBehW) : Can P w K mg base "states_behind" 2 ["code", "states", "words"] spBeh := by
 refine can_fn (k := 1) D scBeh (fun vs H Q E h => ?_) (fun f cdv A outer s H vs Q E hr h => ?_)
 all_goals
  unfold spBeh at h
  split at h
 ·rfl
 ·exact h.elim
 ·rename_i cv sv wv
  obtain ⟨k, n, rows, S, cs, hc, ok, hs, hS, ⟨l, rfl, hl⟩, q⟩ := h
  have nd := scBeh.nd
  refine ⟨_, (by walk_at "T.top"), ?_⟩
  refine ⟨⟨_, SqL.of hl⟩, ?_⟩
  refine for_by (it_list _ l _) (fun i σ H2 => ∃ (v : V) (v3 : Option V), σ = [some cv, some v, some (.ref l), v3] ∧ Same H H2 ∧ SL H2 v (Om.afts rows S (cs.take i)) ∧ ∀ x, Om.afts rows S (cs.take i) x → x < rows.length)
   ⟨sv, none, rfl, Same.refl _, hs, hS⟩ (fun i σ H2 _ ⟨_, _, _, s, _⟩ => SqL.of (s _ _ hl)) ?_ ?_
  ·rintro i z σ H2 hi hz ⟨v, v3, rfl, s2, l2, b2⟩
   have hi' : i < cs.length := by simpa using hi
   have ez : z = .str (bs cs[i]) := by
    rw [List.getElem?_map, List.getElem?_eq_getElem hi'] at hz
    exact (Option.some.inj hz).symm
   subst ez
   have ti : cs.take (i + 1) = cs.take i ++ [cs[i]] := by rw [List.take_add_one, List.getElem?_eq_getElem hi']; rfl
   refine ⟨k, n, rows, _, cs[i], hc.mono s2, ok, l2, b2, rfl, fun v' H3 s3 l3 => ?_⟩
   have e : Om.afts rows S (cs.take (i + 1)) = Om.aft rows (Om.afts rows S (cs.take i)) cs[i] := by
    rw [ti]; unfold Om.afts; rw [List.foldl_append]; rfl
   refine ⟨v', _, rfl, s2.trans s3, by rw [e]; exact l3, fun x hx => ?_⟩
   rw [e] at hx
   exact Om.aft_lt ok hx
  ·rintro σ H2 ⟨v, v3, rfl, s2, l2, b2⟩
   rw [List.length_map, List.take_length] at l2
   exact q _ _ s2 l2
 ·exact h.elim
end
end K35
end
section
namespace K35
open PySem L2
section
variable {P : Program} {w : World} {K : PySem.W.Frag} {mg : Str → Option Value} {base : Heap}
abbrev sByL : Stmt := top 33
def spByL : Sp := fun vs H Q _ => match vs with
 | [cv, sv, .str z] => ∃ (k n : Nat) (rows : Om.Rows) (S : Om.Sn) (wd : List Bool), DV H cv (codeD k n rows) ∧ Om.CodeOk k n rows ∧ SL H sv S ∧ (∀ x, S x → x < rows.length) ∧ z = bs wd ∧ ∀ v H', Same H H' → BL H' v (2 ^ k) (Om.byL rows S wd) → Q v H'
 | _ => False
theorem scByL : FnScope ["code", "starts", "word", "by_letter", "state", "letter", "row"] ["code", "starts", "word"] (defScope sByL) := ⟨rfl, rfl, rfl, by decide +kernel, rfl, by decide +kernel, by decide +kernel⟩
local macro_rules | `(tactic| walk_at "T.n") => `(tactic| with_reducible first | exact vn "letter" 0)
local macro_rules | `(tactic| walk_at "T.gn") => `(tactic| with_reducible first | exact gn "letter" 0 (by with_unfolding_all assumption))
local macro_rules | `(tactic| walk_at "T.sc") => `(tactic| (have ndc : (["letter"] : List Str).Nodup := (by decide +kernel)); ((with_reducible refine' s_comp "by_letter" 3 ["letter"] [] ?b1 ?b0 ?b2 (fun cl C s H fp => ?b3) (fun cl C s H fp => ?b4) (fun cl C s H fp => ?b5)); (case b1 => exact ndc); (case b0 => assumption); (case b2 => walk_at "T.i"); (case b3 => walk_at "T.g"); (case b4 => walk_at "T.pf"); (case b5 => walk_at "T.e")))
local macro_rules | `(tactic| walk_at "T.n") => `(tactic| with_reducible first | exact vn "code" 0 | exact vn "starts" 1 | exact vn "word" 2 | exact vn "by_letter" 3 | exact vn "state" 4 | exact vn "letter" 5 | exact vn "row" 6)
local macro_rules | `(tactic| walk_at "T.gn") => `(tactic| with_reducible first | exact gn "by_letter" 3 (by with_unfolding_all assumption) | exact gn "state" 4 (by with_unfolding_all assumption) | exact gn "letter" 5 (by with_unfolding_all assumption) | exact gn "row" 6 (by with_unfolding_all assumption))
theorem ok_byL (D : FnX K mg "states_by_letter" sByL ["code", "starts", "word"]) (g1 : mg "range" = none) (g2 : mg "enumerate" = none) : Can P w K mg base "states_by_letter" 1 ["code", "starts", "word"] spByL := by
 refine can_fn (k := 0) D scByL (fun vs H Q E h => ?_) (fun f cdv A outer s H vs Q E hr h => ?_)
 all_goals
  unfold spByL at h
  split at h
 ·rfl
 ·exact h.elim
 ·rename_i cv sv z
  obtain ⟨k, n, rows, S, wd, hc, ok, ⟨sl, ns, rfl, hsl, n8, hns⟩, hS, rfl, q⟩ := h
  have nd := scByL.nd
  have s8 := ok.s8
  have k1 := ok.k1
  have k3 := ok.k3
  obtain ⟨a, b, ss, rfl, ha, hb, hss⟩ := code_inv hc
  refine ⟨_, (by walk_at "T.top"), ?_⟩
  have pk : (1 : Int) * 2 ^ k = ((2 ^ k : Nat) : Int) := by push_cast; omega
  have p8 : 2 ^ k ≤ 8 := by
   have : k = 1 ∨ k = 2 ∨ k = 3 := by omega
   rcases this with rfl | rfl | rfl <;> decide
  refine ⟨_, gt ha (by decide) rfl, ?_⟩
  refine ⟨⟨by omega, by omega, by decide⟩, ?_⟩
  have ek : (1 : Int) * 2 ^ (((k : Nat) : Int)).toNat = ((2 ^ k : Nat) : Int) := by rw [Int.toNat_natCast]; push_cast; omega
  dsimp only [tNil]
  rw [ek]
  refine ⟨Int.le_trans (by decide) (Int.natCast_nonneg _), Int.lt_of_le_of_lt (Int.ofNat_le.mpr p8) (by decide), fun L hL => ?_⟩
  refine comp_by (it_range 0 _) (fun i τ H2 ys => (∃ v, τ = [v]) ∧ ∃ ts : List Addr, Gm H H2 L ts (fun _ => []) ∧ ys = ts.map V.ref ∧ ts.length = i) (by rw [List.length_map, List.length_range]; exact le_line (by omega))
   ⟨⟨none, rfl⟩, [], ⟨Same.upd hL, upd_same, hL, List.nodup_nil, (fun t h => nomatch h), (fun l t h => by simp at h)⟩, rfl, rfl⟩ ?_ ?_ ?_
  ·rintro i τ H2 ys hi ⟨_, ts, M, rfl, tl⟩
   exact ⟨trivial, M.hL, by rw [List.length_map]; omega⟩
  ·rintro i x τ H2 ys hi hx ⟨⟨v, rfl⟩, ts, M, rfl, tl⟩
   refine ⟨Nat.zero_le _, fun T hT => ?_⟩
   refine ⟨Same.upd hT _ _ M.hL, ⟨_, rfl⟩, ts ++ [T], M.more hT, by rw [List.map_append]; rfl, by rw [List.length_append, tl]; rfl⟩
  ·rintro τ H2 ys ⟨_, ts, M2, rfl, tl⟩
   rw [List.length_map, List.length_range, Int.toNat_natCast] at tl
   refine ⟨⟨_, SqL.of (M2.s _ _ hsl)⟩, ?_⟩
   refine for_by (it_list _ sl _) (fun i σ H3 => ∃ (v4 v5 v6 : Option V) (yss : Nat → List Nat), σ = [some (.ref a), some (.ref sl), some (.str (bs wd)), some (.ref L), v4, v5, v6] ∧ Gm H H3 L ts yss ∧ (∀ l, (yss l).length ≤ i) ∧ ∀ l y, l < 2 ^ k → (y ∈ yss l ↔ ∃ j x, j < i ∧ ns[j]? = some x ∧ l < (rows.getD x []).length ∧ Om.step rows x l = (wd, y)))
    ⟨none, none, none, _, rfl, M2, fun l => Nat.le_refl _, fun l y _ => by simp⟩ (fun i σ H2 _ ⟨_, _, _, _, _, M, _⟩ => SqL.of (M.s _ _ hsl)) ?_ ?_
   ·rintro i z σ H3 hi hz ⟨v4, v5, v6, yss, rfl, M3, len3, hm3⟩
    have hi' : i < ns.length := by simpa using hi
    have ex : ns[i]? = some ns[i] := List.getElem?_eq_getElem hi'
    have ez : z = .int (ns[i] : Nat) := by
     rw [List.getElem?_map, ex] at hz
     exact (Option.some.inj hz).symm
    subst ez
    have hx : ns[i] < rows.length := hS _ ((hns _).mp (List.getElem_mem hi'))
    generalize hxe : ns[i] = x at *
    obtain ⟨qx, rx, e1, e2, e3⟩ := state_at hss (s := x) (st := rows[x]) (List.getElem?_eq_getElem hx)
    have gx : rows.getD x [] = rows[x] := by simp [List.getD_eq_getElem?_getD, hx]
    have rxl : rx.length = rows[x].length := by rw [e3.length, List.length_map]
    have rk : rows[x].length = 2 ^ k := ok.len _ (List.getElem_mem hx)
    refine ⟨_, gt (M3.s _ _ ha) (by decide) rfl, .ref qx, gl (M3.s _ _ hb) (by omega) (by simpa using e1), ⟨_, SqL.of (M3.s _ _ e2)⟩, ?_⟩
    refine for_pr (it_enumP _ qx rx) (fun g σ H4 => ∃ (v5 v6 : Option V) (yss' : Nat → List Nat), σ = [some (.ref a), some (.ref sl), some (.str (bs wd)), some (.ref L), some (.int (x : Nat)), v5, v6] ∧ Gm H H4 L ts yss' ∧ (∀ l, (yss' l).length ≤ i + (if l < g then 1 else 0)) ∧ ∀ l y, l < 2 ^ k → (y ∈ yss' l ↔ (∃ j x, j < i ∧ ns[j]? = some x ∧ l < (rows.getD x []).length ∧ Om.step rows x l = (wd, y)) ∨ (l < g ∧ Om.step rows x l = (wd, y))))
     ⟨v5, v6, yss, rfl, M3, fun l => by simpa using len3 l, fun l y hl => by rw [hm3 l y hl]; simp⟩ (fun g σ H2 _ ⟨_, _, _, _, M, _⟩ => M.s _ _ e2) ?_ ?_
    ·rintro g t σ H4 hg ⟨v5, v6, yss4, rfl, M4, len4, hm4⟩ ht
     have hg' : g < rows[x].length := by omega
     obtain ⟨r, r1, r2⟩ := row_at e3 (l := g) (r := rows[x][g]) (List.getElem?_eq_getElem hg')
     have er : rx.getD g .non = .ref r := by rw [List.getD_eq_getElem?_getD, r1]; rfl
     dsimp only
     rw [er]
     refine ⟨_, .inl upd_same, rfl, rfl, ?_⟩
     have M5 := M4.put (o := .tup [.int (g : Nat), .ref r]) ht
     have stx : Om.step rows x g = rows[x][g] := by unfold Om.step; rw [gx]; simp [List.getD_eq_getElem?_getD, hg']
     refine ⟨_, gt (M5.s _ _ r2) (by decide) rfl, ?_⟩
     have lg4 := len4 g
     rw [if_neg (Nat.lt_irrefl g)] at lg4
     refine ite2 (fun h1 => ?_) (fun h1 => ?_)
     ·have h1' := bs_inj (of_decide_eq_true h1)
      have tg : ts[g]? = some (ts[g]'(by omega)) := List.getElem?_eq_getElem (by omega)
      generalize ts[g]'(by omega) = tt at tg
      refine ⟨.ref tt, gl M5.hL (by omega) (by simpa using tg), ?_⟩
      refine ⟨⟨_, rfl, (M5.ht _ _ tg).1⟩, ?_⟩
      refine ⟨_, gt (M5.s _ _ r2) (by decide) rfl, _, (M5.ht _ _ tg).1, by rw [List.length_map]; exact lt_line (by omega), ?_⟩
      have M6 := M5.app (l := g) (y := rows[x][g].2) tg
      rw [List.map_append] at M6
      refine ⟨_, _, _, rfl, M6, fun l => ?_, fun l y hl => ?_⟩
      ·by_cases e : l = g
       ·subst e
        rw [if_pos rfl, List.length_append, if_pos (by omega)]
        simp; omega
       ·rw [if_neg e]
        have := len4 l
        split at this <;> split <;> omega
      ·by_cases e : l = g
       ·subst e
        rw [if_pos rfl, List.mem_append, hm4 _ _ hl, stx, List.mem_singleton]
        constructor
        ·rintro ((h | ⟨h, _⟩) | h)
         ·exact .inl h
         ·omega
         ·exact .inr ⟨by omega, by rw [h, ← h1']⟩
        ·rintro (h | ⟨_, h⟩)
         ·exact .inl (.inl h)
         ·exact .inr (by rw [h])
       ·rw [if_neg e, hm4 _ _ hl]
        constructor
        ·rintro (h | ⟨h, h2⟩)
         ·exact .inl h
         ·exact .inr ⟨by omega, h2⟩
        ·rintro (h | ⟨h, h2⟩)
         ·exact .inl h
         ·exact .inr ⟨by omega, h2⟩
     ·have h1' : ¬ rows[x][g].1 = wd := fun z => by rw [z] at h1; simp at h1
      refine ⟨_, _, yss4, rfl, M5, fun l => ?_, fun l y hl => ?_⟩
      ·have := len4 l
       split at this <;> split <;> omega
      ·rw [hm4 _ _ hl]
       constructor
       ·rintro (h | ⟨h, h2⟩)
        ·exact .inl h
        ·exact .inr ⟨by omega, h2⟩
       ·rintro (h | ⟨h, h2⟩)
        ·exact .inl h
        ·by_cases e : l = g
         ·subst e
          rw [stx] at h2
          exact absurd (by rw [h2]) h1'
         ·exact .inr ⟨by omega, h2⟩
    ·rintro σ H4 ⟨v5, v6, yss4, rfl, M4, len4, hm4⟩
     refine ⟨_, _, _, yss4, rfl, M4, fun l => ?_, fun l y hl => ?_⟩
     ·have := len4 l
      split at this <;> omega
     ·rw [hm4 _ _ hl]
      constructor
      ·rintro (⟨j, x', k1, k2, k3⟩ | ⟨h, h2⟩)
       ·exact ⟨j, x', by omega, k2, k3⟩
       ·exact ⟨i, x, by omega, ex, by rw [gx]; omega, h2⟩
      ·rintro ⟨j, x', k1, k2, k3, k4⟩
       by_cases e : j = i
       ·subst e
        rw [ex] at k2
        cases k2
        rw [gx] at k3
        exact .inr ⟨by omega, k4⟩
       ·exact .inl ⟨j, x', by omega, k2, k3, k4⟩
   ·rintro σ H3 ⟨v4, v5, v6, yss, rfl, M3, len3, hm3⟩
    rw [List.length_map] at len3 hm3
    refine q _ _ M3.s ⟨L, ts, rfl, M3.hL, tl, fun l t e => ⟨t, yss l, rfl, (M3.ht _ _ e).1, Nat.le_trans (len3 l) n8, fun y => ?_⟩⟩
    have hl : l < 2 ^ k := by rw [← tl]; exact (List.getElem?_eq_some_iff.mp e).1
    rw [hm3 _ _ hl]
    constructor
    ·rintro ⟨j, x, _, k2, k3, k4⟩
     exact ⟨x, (hns _).mp (List.mem_of_getElem? k2), k3, k4⟩
    ·rintro ⟨x, k1, k2, k3⟩
     obtain ⟨j, e1, e2⟩ := List.mem_iff_getElem.mp ((hns x).mpr k1)
     exact ⟨j, x, by simpa using e1, by rw [List.getElem?_eq_getElem e1, e2], k2, k3⟩
 ·exact h.elim
end
end K35
end
section
namespace K35
open PySem L2
section
variable {P : Program} {w : World} {K : PySem.W.Frag} {mg : Str → Option Value} {base : Heap}
abbrev sLetBy : Stmt := top 32
def spLetBy : Sp := fun vs H Q _ => match vs with
 | [cv, wv, .int b0] => ∃ (k n : Nat) (rows : Om.Rows) (cs : List (List Bool)) (b : Nat), DV H cv (codeD k n rows) ∧ Om.CodeOk k n rows ∧ WL H wv cs ∧ b0 = (b : Nat) ∧ b < cs.length ∧ cs.length ≤ 300 ∧ ∀ H', Same H H' → Q (optV (Om.rd rows k b cs)) H'
 | _ => False
theorem scLetBy : FnScope ["code", "words", "back", "starts", "letter", "states"] ["code", "words", "back"] (defScope sLetBy) := ⟨rfl, rfl, rfl, by decide +kernel, rfl, by decide +kernel, by decide +kernel⟩
local macro_rules | `(tactic| walk_at "T.n") => `(tactic| with_reducible first | exact vn "code" 0 | exact vn "words" 1 | exact vn "back" 2 | exact vn "starts" 3 | exact vn "letter" 4 | exact vn "states" 5)
local macro_rules | `(tactic| walk_at "T.gn") => `(tactic| with_reducible first | exact gn "starts" 3 (by with_unfolding_all assumption) | exact gn "letter" 4 (by with_unfolding_all assumption) | exact gn "states" 5 (by with_unfolding_all assumption))
theorem ok_letBy (D : FnX K mg "letter_by" sLetBy ["code", "words", "back"]) (g2 : mg "enumerate" = none) (c1 : Can P w K mg base "states_behind" 2 ["code", "states", "words"] spBeh) (c2 : Can P w K mg base "every_state" 1 ["code"] spEvery)
  (c3 : Can P w K mg base "states_by_letter" 1 ["code", "starts", "word"] spByL) : Can P w K mg base "letter_by" 3 ["code", "words", "back"] spLetBy := by
 refine can_fn (k := 2) D scLetBy (fun vs H Q E h => ?_) (fun f cdv A outer s H vs Q E hr h => ?_)
 all_goals
  unfold spLetBy at h
  split at h
 ·rfl
 ·exact h.elim
 ·rename_i cv wv b0
  obtain ⟨k, n, rows, cs, b, hc, ok, ⟨l, rfl, hl⟩, rfl, hb, c300, q⟩ := h
  have nd := scLetBy.nd
  refine ⟨_, (by walk_at "T.top"), ?_⟩
  have ll : (cs.map fun c => V.str (bs c)).length = cs.length := List.length_map _
  refine ⟨k, n, rows, hc, ok.s8, fun el H1 s1 h1 => ?_⟩
  refine ⟨_, s1 _ _ hl, fun w1 hw1 => ?_⟩
  rw [cutH _ _ (by rw [ll]; omega), ← List.map_take]
  have s2 := s1.trans (Same.upd (o := .lst ((cs.take b).map fun c => V.str (bs c))) hw1)
  have sE : SL (upd H1 w1 (.lst ((cs.take b).map fun c => V.str (bs c)))) (.ref el) (Om.allS rows) := ⟨el, List.range rows.length, rfl, Same.upd hw1 _ _ h1, by simpa using ok.s8, fun x => by simp [Om.allS]⟩
  refine ⟨k, n, rows, Om.allS rows, cs.take b, hc.mono s2, ok, sE, fun x hx => hx, ⟨w1, rfl, upd_same⟩, fun sv H2 s3 l2 => ?_⟩
  have s4 := s2.trans s3
  have eb : (cs.map fun c => V.str (bs c))[b]? = some (V.str (bs cs[b])) := by rw [List.getElem?_map, List.getElem?_eq_getElem hb]; rfl
  refine ⟨V.str (bs cs[b]), gl (s4 _ _ hl) (by omega) (by simpa using eb), ?_⟩
  refine ⟨k, n, rows, _, cs[b], hc.mono s4, ok, l2, Om.afts_lt ok (fun x hx => hx), rfl, fun bv H3 s5 l3 => ?_⟩
  obtain ⟨L, ts, rfl, hL, tl, hts⟩ := l3
  have s6 := s4.trans s5
  refine ⟨⟨_, SqL.of hL⟩, ?_⟩
  have eg : cs.getD b [] = cs[b] := by simp [List.getD_eq_getElem?_getD, hb]
  refine for_pr (it_enumP _ L _) (fun i σ H4 => ∃ (v4 v5 : Option V), σ = [some cv, some (.ref l), some (.int (b : Nat)), some sv, v4, v5] ∧ Same H3 H4 ∧ ∀ j, j < i → ¬ Om.Goes rows cs b j)
   ⟨none, none, rfl, Same.refl _, fun j hj => absurd hj (Nat.not_lt_zero _)⟩ (fun i σ H2 _ ⟨_, _, _, s, _⟩ => s _ _ hL) ?_ ?_
  ·rintro i t σ H4 hi ⟨v4, v5, rfl, s7, no⟩ ht
   have hi' : i < ts.length := by simpa using hi
   have er : (ts.map V.ref).getD i .non = .ref ts[i] := by simp [List.getD_eq_getElem?_getD, hi']
   dsimp only
   rw [er]
   refine ⟨_, .inl upd_same, rfl, rfl, ?_⟩
   have s8 := s7.trans (Same.upd (o := .tup [.int (i : Nat), .ref ts[i]]) ht)
   have lt := (hts i ts[i] (List.getElem?_eq_getElem hi')).mono s8
   refine ⟨_, (s6.trans s8) _ _ hl, fun w2 hw2 => ?_⟩
   have e1 : ((b : Nat) : Int) + 1 = ((b + 1 : Nat) : Int) := by omega
   rw [e1, cutT _ _ (by rw [ll]; omega), ← List.map_drop]
   have s9 := s8.trans (Same.upd (o := .lst ((cs.drop (b + 1)).map fun c => V.str (bs c))) hw2)
   refine ⟨k, n, rows, _, cs.drop (b + 1), hc.mono (s6.trans s9), ok, lt.mono (Same.upd hw2), fun x hx => Om.byL_lt ok x hx, ⟨w2, rfl, upd_same⟩, fun zv H5 s10 l5 => ?_⟩
   obtain ⟨z, ns, rfl, hz, _, hns⟩ := l5
   refine ⟨_, hz, ?_⟩
   refine ite2 (fun h1 => ?_) (fun h1 => ?_)
   ·have gi : Om.Goes rows cs b i := by
     unfold Om.Goes
     rw [eg]
     cases ns with
     | nil => simp at h1
     | cons x ns => exact ⟨x, (hns x).mp List.mem_cons_self⟩
    have := q _ ((s6.trans s9).trans s10)
    rw [Om.rd_first (by omega) gi no] at this
    exact this
   ·refine ⟨_, _, rfl, s9.trans s10, fun j hj => ?_⟩
    by_cases e : j = i
    ·subst e
     rintro ⟨x, hx⟩
     rw [eg] at hx
     have := (hns x).mpr hx
     cases ns with
     | nil => cases this
     | cons y ns => exact h1 rfl
    ·exact no j (by omega)
  ·rintro σ H4 ⟨v4, v5, rfl, s7, no⟩
   rw [List.length_map, tl] at no
   have := q _ (s6.trans s7)
   rw [Om.rd_no no] at this
   exact this
 ·exact h.elim
end
end K35
end
section
namespace K35
open PySem L2
section
variable {P : Program} {w : World} {K : PySem.W.Frag} {mg : Str → Option Value} {base : Heap}
abbrev sRowsL : Stmt := top 42
def spRowsL : Sp := fun vs H Q _ => match vs with
 | [.ref a, cv, .int most] => ∃ (k n : Nat) (rows : Om.Rows) (G : Hp), DV G cv (codeD k n rows) ∧ Om.CodeOk k n rows ∧ Gh G H H a ∧ 0 ≤ most ∧ most ≤ 50 ∧
   ∀ p t (pl : Nat) (ls : List Nat) H', Gh G H H' a → pl < rows.length → ls.length ≤ 50 → (∀ l ∈ ls, l < 2 ^ k) → H' p = some (.tup [.int (pl : Nat), .ref t]) → H' t = some (.lst ((ni ls).map V.int)) → t ≠ a → Q (.ref p) H'
 | _ => False
theorem scRowsL : FnScope ["store", "code", "most", "size", "place"] ["store", "code", "most"] (defScope sRowsL) := ⟨rfl, rfl, rfl, by decide +kernel, rfl, by decide +kernel, by decide +kernel⟩
theorem three_getN {H : Hp} {p : Addr} {k : Nat} (k1 : 1 ≤ k) (k3 : k ≤ 3) (h : H p = some (.lst [.int 2, .int 4, .int 8])) : getV H (.ref p) ((k : Int) - 1) = some (.int ((2 ^ k : Nat) : Int)) := by
 have : k = 1 ∨ k = 2 ∨ k = 3 := by omega
 rcases this with rfl | rfl | rfl
 ·exact gl h (by decide) rfl
 ·exact gl h (by decide) rfl
 ·exact gl h (by decide) rfl
local macro_rules | `(tactic| walk_at "T.n") => `(tactic| with_reducible first | exact vn "store" 0 | exact vn "code" 1 | exact vn "most" 2 | exact vn "size" 3 | exact vn "place" 4)
local macro_rules | `(tactic| walk_at "T.gn") => `(tactic| with_reducible first | exact gn "size" 3 (by with_unfolding_all assumption) | exact gn "place" 4 (by with_unfolding_all assumption))
local macro_rules | `(tactic| walk_at "T.n") => `(tactic| with_reducible first | exact vn "j" 0 | exact vn "store" 1 | exact vn "size" 2)
local macro_rules | `(tactic| walk_at "T.gn") => `(tactic| with_reducible first | exact gn "j" 0 (by with_unfolding_all assumption))
local macro_rules | `(tactic| walk_at "T.c") => `(tactic| (have ndc : (["j", "store", "size"] : List Str).Nodup := (by decide +kernel)); ((with_reducible refine' c_comp ["j", "store", "size"] [0, 3] ?b1 ?b2 (fun cl C s H fp => ?b3) (fun cl C s H fp => ?b4) (fun cl C s H fp => ?b5)); (case b1 => exact ndc); (case b2 => walk_at "T.i"); (case b3 => walk_at "T.g"); (case b4 => walk_at "T.pf"); (case b5 => walk_at "T.e")))
local macro_rules | `(tactic| walk_at "T.n") => `(tactic| with_reducible first | exact vn "store" 0 | exact vn "code" 1 | exact vn "most" 2 | exact vn "size" 3 | exact vn "place" 4)
local macro_rules | `(tactic| walk_at "T.gn") => `(tactic| with_reducible first | exact gn "size" 3 (by with_unfolding_all assumption) | exact gn "place" 4 (by with_unfolding_all assumption))
theorem ok_rowsL (D : FnX K mg "_law_rows" sRowsL ["store", "code", "most"]) (g1 : mg "range" = none) (g2 : mg "len" = none) (c1 : Can P w K mg base "_law_take" 1 ["store", "many"] spTake) : Can P w K mg base "_law_rows" 2 ["store", "code", "most"] spRowsL := by
 refine can_fn (k := 1) D scRowsL (fun vs H Q E h => ?_) (fun f cdv A outer s H vs Q E hr h => ?_)
 all_goals
  unfold spRowsL at h
  split at h
 ·rfl
 ·exact h.elim
 ·rename_i a cv most
  obtain ⟨k, n, rows, G, dv, ok, M0, m0, m50, q⟩ := h
  have nd := scRowsL.nd
  obtain ⟨ca, cb, ss, rfl, hca, hcb, hss⟩ := code_inv dv
  have sl : ss.length = rows.length := by rw [hss.length, List.length_map]
  have k1 := ok.k1
  have k3 := ok.k3
  have s1 := ok.s1
  have s8 := ok.s8
  have p8 : 2 ^ k ≤ 8 := by
   have : k = 0 ∨ k = 1 ∨ k = 2 ∨ k = 3 := by omega
   rcases this with rfl | rfl | rfl | rfl <;> decide
  have pk : 0 < 2 ^ k := Nat.pow_pos (by decide)
  refine ⟨_, (by walk_at "T.top"), ?_⟩
  refine ⟨le_line (Nat.le_of_ble_eq_true rfl), fun p1 hp1 => ?_⟩
  have M1 := M0.new (o := .lst [.int 2, .int 4, .int 8]) hp1
  refine ⟨_, gt (M1.s _ _ hca) (by decide) rfl, _, three_getN k1 k3 upd_same, ?_⟩
  refine ⟨_, gt (M1.s _ _ hca) (by decide) rfl, _, lenL (M1.s _ _ hcb), ?_⟩
  refine ⟨M1.st, by omega, by omega, fun pl H2 l0 l1 d2 o2 => ?_⟩
  have M2 := M1.take d2 o2
  refine ⟨M2.st, by omega, by omega, fun m H3 n0 n1 d3 o3 => ?_⟩
  have M3 := M2.take d3 o3
  refine ⟨by omega, by omega, fun T hT => ?_⟩
  have gT := M3.freeG hT
  have T0 := M3.free0 hT
  have Ta := M3.ne hT
  refine comp_by (it_range 0 _) (fun i τ H4 ys => (∃ v, τ = [v, some (.ref a), some (.int ((2 ^ k : Nat) : Int))]) ∧ Gh G H H4 a ∧ H4 T = some (.lst ys) ∧ ∃ ls : List Nat, ys = (ni ls).map V.int ∧ ls.length = i ∧ ∀ l ∈ ls, l < 2 ^ k) (by rw [List.length_map, List.length_range]; exact le_line (by omega))
   ⟨⟨none, rfl⟩, M3.new hT, upd_same, [], rfl, rfl, by simp⟩ ?_ ?_ ?_
  ·rintro i τ H4 ys hi ⟨_, M4, h4, ls, rfl, ll, _⟩
   refine ⟨trivial, h4, ?_⟩
   unfold ni
   simp
   omega
  ·rintro i x τ H4 ys hi hx ⟨⟨v, rfl⟩, M4, h4, ls, rfl, ll, lb⟩
   refine ⟨M4.st, by exact_mod_cast pk, by omega, fun r H5 r0 r1 d5 o5 => ?_⟩
   have M5 := M4.take d5 o5
   refine ⟨o5 _ _ h4 Ta, ⟨_, rfl⟩, M5.own gT T0 Ta, upd_same, ls ++ [r.toNat], ?_, by rw [List.length_append, ll]; rfl, fun l hl => ?_⟩
   ·unfold ni
    rw [List.map_append, List.map_append]
    congr 1
    have : ((r.toNat : Nat) : Int) = r := by omega
    simp [this]
   ·rcases List.mem_append.mp hl with hl | hl
    ·exact lb l hl
    ·rw [List.mem_singleton.mp hl]; omega
  ·rintro τ H4 ys ⟨_, M4, h4, ls, rfl, ll, lb⟩
   rw [List.length_map, List.length_range] at ll
   refine ⟨le_line (Nat.le_of_ble_eq_true rfl), fun p hp => ?_⟩
   have M5 := M4.new (o := .tup [.int pl, .ref T]) hp
   have ep : ((pl.toNat : Nat) : Int) = pl := by omega
   refine q p T pl.toNat ls _ M5 (by omega) (by omega) lb ?_ (Same.upd hp _ _ h4) Ta
   rw [upd_same, ep]
 ·exact h.elim
end
end K35
end
section
namespace K35
open PySem L2
section
variable {P : Program} {w : World} {K : PySem.W.Frag} {mg : Str → Option Value} {base : Heap}
abbrev sPairs : Stmt := top 44
def prs (N i : Nat) : List (Nat × Nat) := (List.range i).flatMap fun x => (List.range N).map fun y => (x, y)
theorem prs_len (N : Nat) : ∀ i, (prs N i).length = i * N
 | 0 => by simp [prs]
 | i + 1 => by
  have ih := prs_len N i
  unfold prs at ih ⊢
  rw [List.range_succ, List.flatMap_append, List.length_append, ih, List.flatMap_singleton, List.length_map, List.length_range, Nat.add_mul, Nat.one_mul]
theorem prs_mem {N x y : Nat} : (x, y) ∈ prs N N ↔ x < N ∧ y < N := by
 unfold prs
 rw [List.mem_flatMap]
 constructor
 ·rintro ⟨x', h1, h2⟩
  obtain ⟨y', h3, h4⟩ := List.mem_map.mp h2
  cases h4
  exact ⟨List.mem_range.mp h1, List.mem_range.mp h3⟩
 ·rintro ⟨h1, h2⟩
  exact ⟨x, List.mem_range.mpr h1, List.mem_map.mpr ⟨y, List.mem_range.mpr h2, rfl⟩⟩
theorem prs_nd (N : Nat) : ∀ i, (prs N i).Nodup
 | 0 => List.nodup_nil
 | i + 1 => by
  have ih := prs_nd N i
  unfold prs at ih ⊢
  rw [List.range_succ, List.flatMap_append, List.flatMap_singleton, List.nodup_append]
  refine ⟨ih, ?_, fun a ha b hb => ?_⟩
  ·exact nodup_map_of (fun a _ b _ e => (Prod.mk.inj e).2) List.nodup_range
  ·rw [List.mem_flatMap] at ha
   obtain ⟨x, h1, h2⟩ := ha
   obtain ⟨y, _, rfl⟩ := List.mem_map.mp h2
   obtain ⟨y', _, rfl⟩ := List.mem_map.mp hb
   have := List.mem_range.mp h1
   intro e
   have := (Prod.mk.inj e).1
   omega
def spPairs : Sp := fun vs H Q _ => match vs with
 | [cv] => ∃ (k n : Nat) (rows : Om.Rows), DV H cv (codeD k n rows) ∧ rows.length ≤ 8 ∧ ∀ l xs H', Same H H' → H' l = some (.lst xs) → DVs H' xs ((prs rows.length rows.length).map pairD) → Q (.ref l) H'
 | _ => False
theorem scPairs : FnScope ["code", "some", "one"] ["code"] (defScope sPairs) := ⟨rfl, rfl, rfl, by decide +kernel, rfl, by decide +kernel, by decide +kernel⟩
local macro_rules | `(tactic| walk_at "T.n") => `(tactic| with_reducible first | exact vn "code" 0 | exact vn "some" 1 | exact vn "one" 2)
local macro_rules | `(tactic| walk_at "T.gn") => `(tactic| with_reducible first | exact gn "some" 1 (by with_unfolding_all assumption) | exact gn "one" 2 (by with_unfolding_all assumption))
local macro_rules | `(tactic| walk_at "T.n") => `(tactic| with_reducible first | exact vn "other" 0 | exact vn "one" 1)
local macro_rules | `(tactic| walk_at "T.gn") => `(tactic| with_reducible first | exact gn "other" 0 (by with_unfolding_all assumption))
local macro_rules | `(tactic| walk_at "T.c") => `(tactic| (have ndc : (["other", "one"] : List Str).Nodup := (by decide +kernel)); ((with_reducible refine' c_comp ["other", "one"] [2] ?b1 ?b2 (fun cl C s H fp => ?b3) (fun cl C s H fp => ?b4) (fun cl C s H fp => ?b5)); (case b1 => exact ndc); (case b2 => walk_at "T.i"); (case b3 => walk_at "T.g"); (case b4 => walk_at "T.pf"); (case b5 => walk_at "T.e")))
local macro_rules | `(tactic| walk_at "T.n") => `(tactic| with_reducible first | exact vn "code" 0 | exact vn "some" 1 | exact vn "one" 2)
local macro_rules | `(tactic| walk_at "T.gn") => `(tactic| with_reducible first | exact gn "some" 1 (by with_unfolding_all assumption) | exact gn "one" 2 (by with_unfolding_all assumption))
theorem ok_pairs (D : FnX K mg "_law_pairs" sPairs ["code"]) (g1 : mg "range" = none) (g2 : mg "len" = none) : Can P w K mg base "_law_pairs" 1 ["code"] spPairs := by
 refine can_fn (k := 0) D scPairs (fun vs H Q E h => ?_) (fun f cdv A outer s H vs Q E hr h => ?_)
 all_goals
  unfold spPairs at h
  split at h
 ·rfl
 ·exact h.elim
 ·rename_i cv
  obtain ⟨k, n, rows, hc, r8, q⟩ := h
  have nd := scPairs.nd
  obtain ⟨a, b, ss, rfl, ha, hb, hss⟩ := code_inv hc
  have sl : ss.length = rows.length := by rw [hss.length, List.length_map]
  refine ⟨_, (by walk_at "T.top"), ?_⟩
  refine ⟨Nat.zero_le _, fun A0 hA0 => ?_⟩
  have u0 := Same.upd (o := .lst []) hA0
  refine ⟨_, gt (u0 _ _ ha) (by decide) rfl, _, lenL (u0 _ _ hb), ?_⟩
  refine ⟨by omega, by omega, for_by (it_range 0 _) (fun i σ H2 => ∃ (v2 : Option V) (A : Addr) (us : List V), σ = [some (.ref a), some (.ref A), v2] ∧ Same H H2 ∧ H2 A = some (.lst us) ∧ DVs H2 us ((prs rows.length i).map pairD))
   ⟨none, A0, [], rfl, u0, upd_same, .nil⟩ (fun _ _ _ _ _ => trivial) ?_ ?_⟩
  ·rintro i z σ H2 hi hz ⟨v2, A, us, rfl, s2, hA, du⟩
   rw [List.length_map, List.length_range] at hi
   have ez : z = .int (i : Nat) := by
    rw [List.getElem?_map, List.getElem?_range hi] at hz
    have := (Option.some.inj hz).symm
    rw [this]; simp
   subst ez
   have hi' : i < rows.length := by omega
   refine ⟨_, gt (s2 _ _ ha) (by decide) rfl, _, lenL (s2 _ _ hb), by omega, by omega, fun C hC => ?_⟩
   have R0 := Gr.start hC
   refine comp_by (it_range 0 _) (fun j τ H3 ys => (∃ v, τ = [v, some (.int (i : Nat))]) ∧ ∃ G3, Gr G3 H2 H3 C ys ∧ DVs G3 ys (((List.range j).map fun y => (i, y)).map pairD)) ?_ ⟨⟨none, rfl⟩, _, R0, .nil⟩ ?_ ?_ ?_
   ·rw [List.length_map, List.length_range]; exact le_line (by omega)
   ·rintro j τ H3 ys hj ⟨_, G3, R, dr⟩
    exact ⟨trivial, R.hL, by rw [dr.length]; simp⟩
   ·rintro j x τ H3 ys hj hx ⟨⟨v, rfl⟩, G3, R, dr⟩
    rw [List.length_map, List.length_range] at hj
    have ex : x = .int (j : Nat) := by
     rw [List.getElem?_map, List.getElem?_range hj] at hx
     have := (Option.some.inj hx).symm
     rw [this]; simp
    subst ex
    refine ⟨le_line (Nat.le_of_ble_eq_true rfl), fun p hp => ?_⟩
    have R1 := R.put (o := .tup [.int (i : Nat), .int (j : Nat)]) hp
    have U1 := R.up (o := .tup [.int (i : Nat), .int (j : Nat)]) hp
    refine ⟨R1.hL, ⟨_, rfl⟩, _, R1.set, ?_⟩
    rw [List.range_succ, List.map_append, List.map_append]
    exact (dr.mono U1).app (.cons (pair_DV (x := (i, j)) upd_same) .nil)
   ·rintro τ H3 ys ⟨_, G3, R, dr⟩
    have dy := dr.mono R.s
    rw [List.length_map, List.length_range, Int.toNat_natCast, sl] at dy
    have ul : us.length = i * rows.length := by rw [du.length, List.length_map, prs_len]
    have yl : ys.length = rows.length := by rw [dy.length]; simp
    have big : i * rows.length ≤ 7 * 8 := Nat.mul_le_mul (by omega) r8
    refine ⟨_, _, R.all _ _ hA, R.hL, by rw [ul, yl]; exact le_line (by omega), fun N hN => ?_⟩
    refine ⟨_, N, us ++ ys, rfl, (s2.trans R.all).trans (Same.upd hN), upd_same, ?_⟩
    have e : prs rows.length (i + 1) = prs rows.length i ++ (List.range rows.length).map fun y => (i, y) := by
     unfold prs
     rw [List.range_succ, List.flatMap_append, List.flatMap_singleton]
    rw [e, List.map_append]
    exact ((du.mono R.all).mono (Same.upd hN)).app (dy.mono (Same.upd hN))
  ·rintro σ H2 ⟨v2, A, us, rfl, s2, hA, du⟩
   rw [List.length_map, List.length_range, Int.toNat_natCast, sl] at du
   exact q _ _ _ s2 hA du
 ·exact h.elim
end
end K35
end
section
namespace K35
open PySem L2
section
variable {P : Program} {w : World} {K : PySem.W.Frag} {mg : Str → Option Value} {base : Heap}
abbrev sSteps : Stmt := top 45
def spSteps : Sp := fun vs H Q _ => match vs with
 | [cv, .ref p] => ∃ (k n : Nat) (rows : Om.Rows) (x y : Nat), DV H cv (codeD k n rows) ∧ Om.CodeOk k n rows ∧ H p = some (.tup [.int (x : Nat), .int (y : Nat)]) ∧ x < rows.length ∧ y < rows.length ∧
   ∀ l (ss : List ((Nat × Nat) × (Nat × Nat))) H', Same H H' → H l = none → DV H' (.ref l) (.list (ss.map stepD)) → ss.length ≤ 64 → (∀ s, s ∈ ss ↔ Om.St rows x y s) → Q (.ref l) H'
 | _ => False
theorem scSteps : FnScope ["code", "pair", "some", "letter", "word", "one", "turn", "same", "other"] ["code", "pair"] (defScope sSteps) := ⟨rfl, rfl, rfl, by decide +kernel, rfl, by decide +kernel, by decide +kernel⟩
local macro_rules | `(tactic| walk_at "T.n") => `(tactic| with_reducible first | exact vn "code" 0 | exact vn "pair" 1 | exact vn "some" 2 | exact vn "letter" 3 | exact vn "word" 4 | exact vn "one" 5 | exact vn "turn" 6 | exact vn "same" 7 | exact vn "other" 8)
local macro_rules | `(tactic| walk_at "T.gn") => `(tactic| with_reducible first | exact gn "some" 2 (by with_unfolding_all assumption) | exact gn "letter" 3 (by with_unfolding_all assumption) | exact gn "word" 4 (by with_unfolding_all assumption) | exact gn "one" 5 (by with_unfolding_all assumption) | exact gn "turn" 6 (by with_unfolding_all assumption) | exact gn "same" 7 (by with_unfolding_all assumption) | exact gn "other" 8 (by with_unfolding_all assumption))
theorem ok_steps (D : FnX K mg "_law_steps" sSteps ["code", "pair"]) (g1 : mg "enumerate" = none) : Can P w K mg base "_law_steps" 1 ["code", "pair"] spSteps := by
 refine can_fn (k := 0) D scSteps (fun vs H Q E h => ?_) (fun f cdv A outer s H vs Q E hr h => ?_)
 all_goals
  unfold spSteps at h
  split at h
 ·rfl
 ·exact h.elim
 ·rename_i cv p
  obtain ⟨k, n, rows, x, y, hc, ok, hp, hx, hy, q⟩ := h
  have nd := scSteps.nd
  obtain ⟨a, b, st, rfl, ha, hb, hst⟩ := code_inv hc
  obtain ⟨qx, rx, e1, e2, e3⟩ := state_at hst (s := x) (st := rows[x]) (List.getElem?_eq_getElem hx)
  obtain ⟨qy, ry, f1, f2, f3⟩ := state_at hst (s := y) (st := rows[y]) (List.getElem?_eq_getElem hy)
  have lx : rows[x].length = 2 ^ k := ok.len _ (List.getElem_mem hx)
  have ly : rows[y].length = 2 ^ k := ok.len _ (List.getElem_mem hy)
  have p8 : 2 ^ k ≤ 8 := by
   have := ok.k3
   have : k = 0 ∨ k = 1 ∨ k = 2 ∨ k = 3 := by omega
   rcases this with rfl | rfl | rfl | rfl <;> decide
  have rxl : rx.length = 2 ^ k := by rw [e3.length, List.length_map, lx]
  have ryl : ry.length = 2 ^ k := by rw [f3.length, List.length_map, ly]
  have gx : rows.getD x [] = rows[x] := by simp [List.getD_eq_getElem?_getD, hx]
  have gy : rows.getD y [] = rows[y] := by simp [List.getD_eq_getElem?_getD, hy]
  have stx : ∀ i (hi : i < rows[x].length), Om.step rows x i = rows[x][i] := fun i hi => by unfold Om.step; rw [gx]; simp [List.getD_eq_getElem?_getD, hi]
  have sty : ∀ i (hi : i < rows[y].length), Om.step rows y i = rows[y][i] := fun i hi => by unfold Om.step; rw [gy]; simp [List.getD_eq_getElem?_getD, hi]
  refine ⟨_, (by walk_at "T.top"), ?_⟩
  refine ⟨Nat.zero_le _, fun L hL => ?_⟩
  have R0 := Gr.start hL
  refine ⟨_, gt (R0.all _ _ ha) (by decide) rfl, _, gt (R0.all _ _ hp) (by decide) rfl, .ref qx, gl (R0.all _ _ hb) (by omega) (by simpa using e1), ⟨_, SqL.of (R0.all _ _ e2)⟩, ?_⟩
  refine for_pr (it_enumP _ qx rx) (fun i σ H2 => ∃ (v3 v4 v5 v6 v7 v8 : Option V) (G : Hp) (vs : List V) (ss : List ((Nat × Nat) × (Nat × Nat))), σ = [some (.ref a), some (.ref p), some (.ref L), v3, v4, v5, v6, v7, v8] ∧ Gr G H H2 L vs ∧ DVs G vs (ss.map stepD) ∧ ss.length ≤ i * 8 ∧ ∀ s, s ∈ ss ↔ s.1.1 < i ∧ Om.St rows x y s)
   ⟨none, none, none, none, none, none, _, [], [], rfl, R0, .nil, by simp, by simp⟩ (fun i σ H2 _ ⟨_, _, _, _, _, _, _, _, _, _, R, _⟩ => R.all _ _ e2) ?_ ?_
  ·rintro i t σ H2 hi ⟨v3, v4, v5, v6, v7, v8, G, vs, ss, rfl, R, hd, hl, hb1⟩ ht
   have hi' : i < rows[x].length := by omega
   obtain ⟨r, r1, r2⟩ := row_at e3 (l := i) (r := rows[x][i]) (List.getElem?_eq_getElem hi')
   have er : rx.getD i .non = .ref r := by rw [List.getD_eq_getElem?_getD, r1]; rfl
   have R1 := R.new (o := .tup [.int (i : Nat), .ref r]) ht
   dsimp only
   rw [er]
   refine ⟨_, .inl upd_same, rfl, ?_⟩
   refine ⟨_, .inl (R1.all _ _ r2), rfl, ?_⟩
   refine ⟨rfl, rfl, ?_⟩
   have okr := ok.row _ (List.getElem_mem hx) _ (List.getElem_mem hi')
   refine ⟨_, gt (R1.all _ _ ha) (by decide) rfl, _, gt (R1.all _ _ hp) (by decide) rfl, .ref qy, gl (R1.all _ _ hb) (by omega) (by simpa using f1), ⟨_, SqL.of (R1.all _ _ f2)⟩, ?_⟩
   refine for_pr (it_enumP _ qy ry) (fun j σ H2 => ∃ (v6 v7 v8 : Option V) (G : Hp) (vs : List V) (ss : List ((Nat × Nat) × (Nat × Nat))), σ = [some (.ref a), some (.ref p), some (.ref L), some (.int (i : Nat)), some (.str (bs rows[x][i].1)), some (.int (rows[x][i].2 : Nat)), v6, v7, v8] ∧ Gr G H H2 L vs ∧ DVs G vs (ss.map stepD) ∧ ss.length ≤ i * 8 + j ∧ ∀ s, s ∈ ss ↔ (s.1.1 < i ∨ (s.1.1 = i ∧ s.1.2 < j)) ∧ Om.St rows x y s)
    ⟨v6, v7, v8, G, vs, ss, rfl, R1, hd, by omega, fun s => by rw [hb1]; constructor <;> rintro ⟨h1, h2⟩ <;> exact ⟨by omega, h2⟩⟩ (fun i σ H2 _ ⟨_, _, _, _, _, _, _, R, _⟩ => R.all _ _ f2) ?_ ?_
   ·rintro j t2 σ H3 hj ⟨v6, v7, v8, G, vs, ss, rfl, R2, hd, hl, hb1⟩ ht2
    have hj' : j < rows[y].length := by omega
    obtain ⟨r', s1, s2⟩ := row_at f3 (l := j) (r := rows[y][j]) (List.getElem?_eq_getElem hj')
    have er' : ry.getD j .non = .ref r' := by rw [List.getD_eq_getElem?_getD, s1]; rfl
    have R3 := R2.new (o := .tup [.int (j : Nat), .ref r']) ht2
    dsimp only
    rw [er']
    refine ⟨_, .inl upd_same, rfl, ?_⟩
    refine ⟨_, .inl (R3.all _ _ s2), rfl, ?_⟩
    refine ⟨rfl, rfl, ?_⟩
    have key : ∀ s : Om.Stp, s.1.1 = i → s.1.2 = j → (Om.St rows x y s ↔ rows[x][i].1 = rows[y][j].1 ∧ s = ((i, j), (rows[x][i].2, rows[y][j].2))) := by
     rintro ⟨⟨a1, a2⟩, a3⟩ h1 h2
     dsimp only at h1 h2
     subst h1 h2
     unfold Om.St
     dsimp only
     rw [gx, gy, stx _ hi', sty _ hj']
     constructor
     ·rintro ⟨_, _, h3, h4⟩; exact ⟨h3, by rw [h4]⟩
     ·rintro ⟨h3, h4⟩
      exact ⟨hi', hj', h3, (Prod.mk.inj h4).2⟩
    refine ite2 (fun h1 => ?_) (fun h1 => ⟨_, _, _, G, vs, ss, rfl, R3, hd, by omega, fun s => ?_⟩)
    rotate_left
    ·have h1' : ¬ rows[x][i].1 = rows[y][j].1 := fun z => by rw [z] at h1; simp at h1
     rw [hb1]
     constructor
     ·rintro ⟨g1, g2⟩; exact ⟨by omega, g2⟩
     ·rintro ⟨g1, g2⟩
      by_cases c : s.1.1 = i ∧ s.1.2 = j
      ·exact absurd ((key _ c.1 c.2).mp g2).1 h1'
      ·exact ⟨by omega, g2⟩
    have h1' := bs_inj (of_decide_eq_true h1)
    refine ⟨⟨_, rfl, R3.hL⟩, ?_⟩
    refine ⟨le_line (Nat.le_of_ble_eq_true rfl), fun z hz => ⟨le_line (Nat.le_of_ble_eq_true rfl), fun z2 hz2 => ?_⟩⟩
    have R4 := R3.put (o := .tup [.int (rows[x][i].2 : Nat), .int (rows[y][j].2 : Nat)]) hz
    have U4 := R3.up (o := .tup [.int (rows[x][i].2 : Nat), .int (rows[y][j].2 : Nat)]) hz
    have R5 := R4.put (o := .tup [.int (i : Nat), .int (j : Nat), .ref z]) hz2
    have U5 := R4.up (o := .tup [.int (i : Nat), .int (j : Nat), .ref z]) hz2
    have vl : vs.length = ss.length := by rw [hd.length, List.length_map]
    refine ⟨_, R5.hL, by rw [vl]; exact lt_line (by omega), ?_⟩
    refine ⟨_, _, _, _, vs ++ [.ref z2], ss ++ [((i, j), (rows[x][i].2, rows[y][j].2))], rfl, R5.set, ?_, by simp; omega, fun u => ?_⟩
    ·rw [List.map_append]
     refine (hd.mono (U4.trans U5)).app (.cons (.tup upd_same (.cons (.int _) (.cons (.int _) (.cons ?_ .nil)))) .nil)
     exact (pair_DV (x := (rows[x][i].2, rows[y][j].2)) upd_same).mono U5
    ·rw [List.mem_append, hb1, List.mem_singleton]
     constructor
     ·rintro (⟨g1, g2⟩ | g)
      ·exact ⟨by omega, g2⟩
      ·subst g
       exact ⟨.inr ⟨rfl, Nat.lt_succ_self _⟩, (key _ rfl rfl).mpr ⟨h1', rfl⟩⟩
     ·rintro ⟨g1, g2⟩
      by_cases c : u.1.1 = i ∧ u.1.2 = j
      ·exact .inr ((key _ c.1 c.2).mp g2).2
      ·exact .inl ⟨by omega, g2⟩
   ·rintro σ H3 ⟨v6, v7, v8, G, vs, ss, rfl, R2, hd, hl, hb1⟩
    refine ⟨_, _, _, _, _, _, G, vs, ss, rfl, R2, hd, by omega, fun s => ?_⟩
    rw [hb1]
    constructor
    ·rintro ⟨g1, g2⟩; exact ⟨by omega, g2⟩
    ·rintro ⟨g1, g2⟩
     refine ⟨?_, g2⟩
     have := g2.2.1
     rw [gy] at this
     omega
  ·rintro σ H2 ⟨v3, v4, v5, v6, v7, v8, G, vs, ss, rfl, R, hd, hl, hb1⟩
   refine q L ss _ R.all hL (.lst R.hL (hd.mono R.s)) (by omega) fun s => ?_
   rw [hb1]
   constructor
   ·exact fun h => h.2
   ·intro h
    refine ⟨?_, h⟩
    have := h.1
    rw [gx] at this
    omega
 ·exact h.elim
end
end K35
end
section
namespace K35
open PySem L2
section
variable {P : Program} {w : World} {K : PySem.W.Frag} {mg : Str → Option Value} {base : Heap}
abbrev sParts : Stmt := top 47
def spParts : Sp := fun vs H Q _ => match vs with
 | [.ref l, bv] => ∃ (ss : List Om.Stp) (R : Om.R2n), DV H (.ref l) (.list (ss.map stepD)) ∧ BkD H bv R ∧ ∀ c : Bool, (c = true ↔ ∃ s ∈ ss, s.1.1 ≠ s.1.2 ∧ R s.2.1 s.2.2) → Q (.bl c) H
 | _ => False
theorem scParts : FnScope ["some", "on", "letter", "turn", "behind"] ["some", "on"] (defScope sParts) := ⟨rfl, rfl, rfl, by decide +kernel, rfl, by decide +kernel, by decide +kernel⟩
local macro_rules | `(tactic| walk_at "T.n") => `(tactic| with_reducible first | exact vn "some" 0 | exact vn "on" 1 | exact vn "letter" 2 | exact vn "turn" 3 | exact vn "behind" 4)
local macro_rules | `(tactic| walk_at "T.gn") => `(tactic| with_reducible first | exact gn "letter" 2 (by with_unfolding_all assumption) | exact gn "turn" 3 (by with_unfolding_all assumption) | exact gn "behind" 4 (by with_unfolding_all assumption))
local macro_rules | `(tactic| walk_at "T.cmp") => `(tactic| ((with_reducible refine' op_inDict ?a1); (case a1 => exact Room.units (by assumption))))
theorem ok_parts (D : FnX K mg "_law_parts" sParts ["some", "on"]) : Can P w K mg base "_law_parts" 1 ["some", "on"] spParts := by
 refine can_fn (k := 0) D scParts (fun vs H Q E h => ?_) (fun f cdv A outer s H vs Q E hr h => ?_)
 all_goals
  unfold spParts at h
  split at h
 ·rfl
 ·exact h.elim
 ·rename_i l bv
  obtain ⟨ss, R, dl, ⟨a, kvs, ks, rfl, rd, kd, hm⟩, q⟩ := h
  have nd := scParts.nd
  obtain ⟨l', xs, e, hl, hxs⟩ := dl.lst_inv
  cases e
  have xl : xs.length = ss.length := by rw [hxs.length, List.length_map]
  refine ⟨_, (by walk_at "T.top"), ?_⟩
  refine ⟨⟨_, SqL.of hl⟩, ?_⟩
  refine for_by (it_list _ l xs) (fun i σ H2 => ∃ (v2 v3 v4 : Option V), σ = [some (.ref l), some (.ref a), v2, v3, v4] ∧ H2 = H ∧ ∀ s, (∃ j, j < i ∧ ss[j]? = some s) → ¬ (s.1.1 ≠ s.1.2 ∧ R s.2.1 s.2.2))
   ⟨none, none, none, rfl, rfl, by rintro s ⟨j, h, _⟩; omega⟩ (fun i σ H2 _ ⟨_, _, _, _, e, _⟩ => by subst e; exact SqL.of hl) ?_ ?_
  ·rintro i z σ H2 hi hz ⟨v2, v3, v4, rfl, rfl, hb⟩
   have hi' : i < ss.length := by omega
   have es : ss[i]? = some ss[i] := List.getElem?_eq_getElem hi'
   obtain ⟨z', e1, e2⟩ := hxs.get (i := i) (d := stepD ss[i]) (by rw [List.getElem?_map, es]; rfl)
   rw [hz] at e1
   cases e1
   obtain ⟨qs, qr, rfl, h1, h2⟩ := step_inv e2
   refine ⟨_, .inl h1, rfl, rfl, ?_⟩
   have step : ∀ c : Bool, (c = true ↔ (ss[i].1.1 ≠ ss[i].1.2 ∧ R ss[i].2.1 ss[i].2.2)) → c = false → ∀ s, (∃ j, j < i + 1 ∧ ss[j]? = some s) → ¬ (s.1.1 ≠ s.1.2 ∧ R s.2.1 s.2.2) := by
    rintro c hc rfl s ⟨j, g1, g2⟩
    by_cases e : j = i
    ·subst e
     rw [es] at g2
     cases g2
     exact fun z => by have := hc.mpr z; cases this
    ·exact hb s ⟨j, by omega, g2⟩
   show if (!decide (((ss[i].1.1 : Nat) : Int) = ((ss[i].1.2 : Nat) : Int))) = true then _ else _
   refine ite2 (fun c1 => ?_) (fun c1 => ?_)
   ·have ne : ss[i].1.1 ≠ ss[i].1.2 := fun z => by rw [z] at c1; simp at c1
    refine ⟨a, valV kvs (kk ss[i].2), rfl, .inr ⟨kvs, kk ss[i].2, qr, rd, rfl, h2, rfl⟩, ?_⟩
    have km := kd.mem (p := ss[i].2)
    refine ite2 (fun c2 => ?_) (fun c2 => ?_)
    ·refine q true ⟨fun _ => ⟨_, List.getElem_mem hi', ne, (hm _ _).mp (km.mp c2)⟩, fun _ => rfl⟩
    ·refine ⟨_, _, _, rfl, rfl, step false ⟨(fun h => by cases h), fun h => ?_⟩ rfl⟩
     exact absurd (km.mpr ((hm _ _).mpr h.2)) c2
   ·have eq : ss[i].1.1 = ss[i].1.2 := by
     rcases Nat.decEq ss[i].1.1 ss[i].1.2 with h | h
     ·have h' : ¬ ((ss[i].1.1 : Nat) : Int) = ((ss[i].1.2 : Nat) : Int) := by omega
      rw [decide_eq_false h'] at c1
      exact absurd rfl c1
     ·exact h
    dsimp only
    refine iteF ?_
    exact ⟨_, _, _, rfl, rfl, step false ⟨(fun h => by cases h), fun h => absurd eq h.1⟩ rfl⟩
  ·rintro σ H2 ⟨v2, v3, v4, rfl, rfl, hb⟩
   refine q false ⟨(fun h => by cases h), ?_⟩
   rintro ⟨s, h1, h2⟩
   obtain ⟨j, e1, e2⟩ := List.mem_iff_getElem.mp h1
   exact absurd h2 (hb s ⟨j, by omega, by rw [List.getElem?_eq_getElem e1, e2]⟩)
 ·exact h.elim
end
end K35
end
section
namespace K35
open PySem L2
section
variable {P : Program} {w : World} {K : PySem.W.Frag} {mg : Str → Option Value} {base : Heap}
abbrev sWindows : Stmt := top 46
def spWindows : Sp := fun vs H Q _ => match vs with
 | [cv] => ∃ (k n : Nat) (rows : Om.Rows), DV H cv (codeD k n rows) ∧ Om.CodeOk k n rows ∧ ∀ l xs H', Same H H' → H' l = some (.lst xs) → DVs H' xs ((Om.wins rows).map pairD) → Q (.ref l) H'
 | _ => False
theorem scWindows : FnScope ["code", "steps", "pair", "fronts", "backs", "k", "found", "letter", "turn", "behind", "some", "windows", "total", "back"] ["code"] (defScope sWindows) := ⟨rfl, rfl, rfl, by decide +kernel, rfl, by decide +kernel, by decide +kernel⟩
local macro_rules | `(tactic| walk_at "T.n") => `(tactic| with_reducible first | exact vn "pair" 0 | exact vn "steps" 1 | exact vn "backs" 2 | exact vn "total" 3 | exact vn "back" 4)
local macro_rules | `(tactic| walk_at "T.gn") => `(tactic| with_reducible first | exact gn "pair" 0 (by with_unfolding_all assumption))
local macro_rules | `(tactic| walk_at "T.c") => `(tactic| (have ndc : (["pair", "steps", "backs", "total", "back"] : List Str).Nodup := (by decide +kernel)); ((with_reducible refine' c_comp ["pair", "steps", "backs", "total", "back"] [1, 4, 12, 13] ?b1 ?b2 (fun cl C s H fp => ?b3) (fun cl C s H fp => ?b4) (fun cl C s H fp => ?b5)); (case b1 => exact ndc); (case b2 => walk_at "T.i"); (case b3 => walk_at "T.g"); (case b4 => walk_at "T.pf"); (case b5 => walk_at "T.e")))
local macro_rules | `(tactic| walk_at "T.n") => `(tactic| with_reducible first | exact vn "step" 0 | exact vn "backs" 1)
local macro_rules | `(tactic| walk_at "T.gn") => `(tactic| with_reducible first | exact gn "step" 0 (by with_unfolding_all assumption))
local macro_rules | `(tactic| walk_at "T.c") => `(tactic| (have ndc : (["step", "backs"] : List Str).Nodup := (by decide +kernel)); ((with_reducible refine' c_comp ["step", "backs"] [4] ?b1 ?b2 (fun cl C s H fp => ?b3) (fun cl C s H fp => ?b4) (fun cl C s H fp => ?b5)); (case b1 => exact ndc); (case b2 => walk_at "T.i"); (case b3 => walk_at "T.g"); (case b4 => walk_at "T.pf"); (case b5 => walk_at "T.e")))
local macro_rules | `(tactic| walk_at "T.n") => `(tactic| with_reducible first | exact vn "code" 0 | exact vn "steps" 1 | exact vn "pair" 2 | exact vn "fronts" 3 | exact vn "backs" 4 | exact vn "found" 6 | exact vn "behind" 9 | exact vn "some" 10 | exact vn "windows" 11 | exact vn "total" 12 | exact vn "back" 13)
local macro_rules | `(tactic| walk_at "T.gn") => `(tactic| with_reducible first | exact gn "steps" 1 (by with_unfolding_all assumption) | exact gn "pair" 2 (by with_unfolding_all assumption) | exact gn "fronts" 3 (by with_unfolding_all assumption) | exact gn "backs" 4 (by with_unfolding_all assumption) | exact gn "k" 5 (by with_unfolding_all assumption) | exact gn "found" 6 (by with_unfolding_all assumption) | exact gn "letter" 7 (by with_unfolding_all assumption) | exact gn "turn" 8 (by with_unfolding_all assumption) | exact gn "behind" 9 (by with_unfolding_all assumption) | exact gn "some" 10 (by with_unfolding_all assumption) | exact gn "windows" 11 (by with_unfolding_all assumption) | exact gn "total" 12 (by with_unfolding_all assumption) | exact gn "back" 13 (by with_unfolding_all assumption))
local macro_rules | `(tactic| walk_at "T.e") => `(tactic| first | (with_reducible exact pe_dnewT) | ((with_reducible refine' ix_atD ?a0 ?a1 ?a2); (case a0 => exact Room.units (by assumption)); (case a1 => walk_at "T.e"); (case a2 => walk_at "T.e")))
local macro_rules | `(tactic| walk_at "T.i") => `(tactic| ((with_reducible refine' pi_lstF ?a1); (case a1 => walk_at "T.e")))
local macro_rules | `(tactic| walk_at "T.cmp") => `(tactic| ((with_reducible refine' op_inDict ?a1); (case a1 => exact Room.units (by assumption))))
local macro_rules | `(tactic| walk_at "T.g") => `(tactic| ((with_reducible refine' g_subD ?a0 ?a1 ?a2); (case a0 => exact Room.units (by assumption)); (case a1 => walk_at "T.e"); (case a2 => walk_at "T.e")))
local macro_rules | `(tactic| walk_at "T.b") => `(tactic| first | ((with_reducible refine' fn_listD ?a0 ?a9 ?a1); (case a0 => with_reducible assumption); (case a9 => rfl); (case a1 => walk_at "T.a")) | ((with_reducible refine' fn_dictO ?a0 ?a9 ?a1); (case a0 => with_reducible assumption); (case a9 => rfl); (case a1 => walk_at "T.a")))
theorem upd_comm {H : Hp} {a b : Addr} {x y : HO} (h : a ≠ b) : upd (upd H b x) a y = upd (upd H a y) b x := by
 funext c
 unfold upd
 by_cases h1 : c = a
 ·subst h1; rw [if_pos rfl, if_neg h, if_pos rfl]
 ·rw [if_neg h1]
  by_cases h2 : c = b
  ·rw [if_pos h2, if_pos h2]
  ·rw [if_neg h2, if_neg h2, if_neg h1]
theorem updN {H H' : Hp} {a : Addr} {u : HO} (s : Same H H') (h : H a = none) : Same H (upd H' a u) := fun x v e => by
 rw [upd_ne (ne_of_none e h)]; exact s _ _ e
structure FB (rows : Om.Rows) (H1 H : Hp) (F B : Addr) (fs gs : List V) (m : Nat) : Prop where
 s : Same H1 H
 f0 : H1 F = none
 b0 : H1 B = none
 ne : F ≠ B
 hF : H F = some (.lst fs)
 hB : H B = some (.lst gs)
 lf : fs.length = m + 1
 lg : gs.length = m + 1
 fr : ∀ i, i ≤ m → ∃ v, fs[i]? = some v ∧ FrL H F B v (Om.iterR (Om.St rows) (Om.AllR rows) i)
 bk : ∀ i, i ≤ m → ∃ v, gs[i]? = some v ∧ BkD H v (Om.On rows i)
theorem ok_windows (D : FnX K mg "_law_windows" sWindows ["code"]) (g1 : mg "range" = none) (g2 : mg "list" = none) (g3 : mg "dict" = none) (c1 : Can P w K mg base "_law_pairs" 1 ["code"] spPairs) (c2 : Can P w K mg base "_law_steps" 1 ["code", "pair"] spSteps) (c3 : Can P w K mg base "_law_parts" 1 ["some", "on"] spParts) :
  Can P w K mg base "_law_windows" 2 ["code"] spWindows := by
 refine can_fn (k := 1) D scWindows (fun vs H Q E h => ?_) (fun f cdv A outer s H vs Q E hr h => ?_)
 all_goals
  unfold spWindows at h
  split at h
 ·rfl
 ·exact h.elim
 ·rename_i cv
  obtain ⟨k, n, rows, hc, ok, q⟩ := h
  have nd := scWindows.nd
  have s8 := ok.s8
  refine ⟨_, (by walk_at "T.top"), ?_⟩
  intro S hS
  have M0 := Gd.start hS
  refine ⟨k, n, rows, hc.mono M0.all, s8, fun l xs H1 s1 hl1 dx1 => ?_⟩
  obtain ⟨G1, M1, gg1, he1⟩ := M0.call s1
  have lS : l ≠ S := ne_of hl1 M1.hD (fun z => nomatch z)
  have hlG : G1 l = some (.lst xs) := by rw [he1 _ lS]; exact hl1
  have dxG : DVs G1 xs ((prs rows.length rows.length).map pairD) := DVs.lt (Lt.but M1.hD he1) dx1
  have xl : xs.length = (prs rows.length rows.length).length := by rw [dx1.length, List.length_map]
  refine .inr (.inl ⟨⟨_, SqL.of hl1⟩, ?_⟩)
  refine for_by (it_list _ l xs) (fun i σ H2 => ∃ (v2 : Option V) (G : Hp) (kvs : List (List Key × V)) (ks : List (Nat × Nat)), σ = [some cv, some (.ref S), v2, none, none, none, none, none, none, none, none, none, none, none] ∧ Gd G H H2 S kvs ∧ Same G1 G ∧ KD ks kvs ∧ Vals3 G kvs ks (Om.St rows) ∧ ks = (prs rows.length rows.length).take i)
   ⟨none, G1, [], [], rfl, M1, Same.refl _, KD.nil, (fun p hp => nomatch hp), by simp⟩ (fun i σ H2 _ ⟨_, _, _, _, _, M, g, _⟩ => SqL.of (M.s _ _ (g _ _ hlG))) ?_ ?_
  ·rintro i z σ H2 hi hz ⟨v2, G, kvs, ks, rfl, M, g, kd, hv, rfl⟩
   have hi' : i < (prs rows.length rows.length).length := by omega
   obtain ⟨z', e1, e2⟩ := dxG.get (i := i) (d := pairD (prs rows.length rows.length)[i]) (by rw [List.getElem?_map, List.getElem?_eq_getElem hi']; rfl)
   rw [hz] at e1
   cases e1
   have pm : (prs rows.length rows.length)[i].1 < rows.length ∧ (prs rows.length rows.length)[i].2 < rows.length := prs_mem.mp (by exact List.getElem_mem hi')
   have ti : (prs rows.length rows.length).take (i + 1) = (prs rows.length rows.length).take i ++ [(prs rows.length rows.length)[i]] := by rw [List.take_add_one, List.getElem?_eq_getElem hi']; rfl
   have nin : (prs rows.length rows.length)[i] ∉ (prs rows.length rows.length).take i := fun z => by
    have nd2 := prs_nd rows.length rows.length
    rw [← List.take_append_drop (i + 1) (prs rows.length rows.length), ti] at nd2
    have nd3 := (List.nodup_append.mp nd2).1
    exact (List.nodup_append.mp nd3).2.2 _ z _ (List.mem_singleton.mpr rfl) rfl
   generalize (prs rows.length rows.length)[i] = pr at *
   obtain ⟨b, rfl, hb⟩ := pair_inv e2
   have hb2 := M.s _ _ (g _ _ hb)
   refine ⟨k, n, rows, pr.1, pr.2, hc.mono M.all, ok, hb2, pm.1, pm.2, fun t ss H3 s3 ht3 hst h64 hmem => ?_⟩
   obtain ⟨G2, M2, gg, he⟩ := M.call s3
   have st2 : DV G2 (.ref t) (.list (ss.map stepD)) := DV.lt (Lt.but M2.hD he) hst
   refine .inr ⟨_, _, rfl, .inr ⟨kvs, kk pr, b, M2.hD, rfl, s3 _ _ hb2, kd.lt_line, rfl⟩, ?_⟩
   refine ⟨_, G2, _, _, rfl, M2.set, g.trans gg, kd.put (v := .ref t) nin (by omega) (by omega), (hv.mono gg).put nin st2 h64 hmem, ti.symm⟩
  ·rintro σ H2 ⟨v2, G, kvs, ks, rfl, M, g, kd, hv, rfl⟩
   rw [xl, List.take_length] at kd hv
   obtain ⟨ks, rfl⟩ : ∃ ks, ks = prs rows.length rows.length := ⟨_, rfl⟩
   have kmem : ∀ x y, (x, y) ∈ prs rows.length rows.length ↔ Om.AllR rows x y := fun x y => prs_mem
   have kne : prs rows.length rows.length ≠ [] := fun z => by
    have := (kmem 0 0).mpr ⟨ok.s1, ok.s1⟩
    rw [z] at this
    cases this
   refine .inl ⟨kvs, M.hD, fun o bs l0 hkb hl0 => ?_⟩
   have gr3 : Gr3 (upd H2 S (.frz o (.dT kvs))) S rows := ⟨o, kvs, _, upd_same, kd, kmem, hv.mono M.frz⟩
   have SH : Same H (upd H2 S (.frz o (.dT kvs))) := M.s0.trans M.frz
   have dk : DVs (upd H2 S (.frz o (.dT kvs))) (bs.map V.ref) ((prs rows.length rows.length).map pairD) := keys_DVs kd.keys (Paired.mapP hkb fun x b e => by
    rw [upd_ne (ne_of e M.hD (fun z => nomatch z))]; exact e)
   have hl3 : H2 l0 = none → (upd H2 S (.frz o (.dT kvs))) l0 = none := fun h => by
    have : l0 ≠ S := fun z => by subst z; rw [M.hD] at h; cases h
    rw [upd_ne this]; exact h
   have hS3 : (upd H2 S (.frz o (.dT kvs))) S = some (.frz o (.dT kvs)) := upd_same
   generalize upd H2 S (.frz o (.dT kvs)) = H3 at *
   refine ⟨le_line (Nat.le_of_ble_eq_true rfl), fun F hF => ?_⟩
   have u4 : Same H3 (upd H3 l0 (.lst (bs.map V.ref))) := Same.upd (hl3 hl0)
   have hF3 : H3 F = none := u4.free hF
   have u5 := u4.trans (Same.upd (o := .lst [V.ref l0]) hF)
   refine ⟨kvs, _, .inr ⟨o, u5 _ _ hS3⟩, kd, kne, fun a0 ha0 => ?_⟩
   refine ⟨le_line (Nat.le_of_ble_eq_true rfl), fun B hB => ?_⟩
   have u6 := u5.trans (Same.upd (o := .dT kvs) ha0)
   have u7 := u6.trans (Same.upd (o := .lst [V.ref a0]) hB)
   have hB3 : H3 B = none := u6.free hB
   have ha3 : H3 a0 = none := u5.free ha0
   have l0F : l0 ≠ F := fun z => by subst z; rw [upd_same] at hF; cases hF
   have Fa0 : F ≠ a0 := fun z => by subst z; rw [upd_same] at ha0; cases ha0
   have FB' : F ≠ B := fun z => by subst z; rw [upd_ne Fa0, upd_same] at hB; cases hB
   have l0B : l0 ≠ B := fun z => by
    subst z
    have : l0 ≠ a0 := fun z => by subst z; rw [upd_ne l0F, upd_same] at ha0; cases ha0
    rw [upd_ne this, upd_ne l0F, upd_same] at hB; cases hB
   have a0B : a0 ≠ B := fun z => by subst z; rw [upd_same] at hB; cases hB
   have l0a : l0 ≠ a0 := fun z => by subst z; rw [upd_ne l0F, upd_same] at ha0; cases ha0
   have fb0 : FB rows H3 (upd (upd (upd (upd H3 l0 (.lst (bs.map V.ref))) F (.lst [V.ref l0])) a0 (.dT kvs)) B (.lst [V.ref a0])) F B [V.ref l0] [V.ref a0] 0 := by
    refine ⟨u7, hF3, hB3, FB', ?_, upd_same, rfl, rfl, fun i hi => ?_, fun i hi => ?_⟩
    ·rw [upd_ne FB', upd_ne Fa0, upd_same]
    ·obtain rfl : i = 0 := by omega
     refine ⟨_, rfl, l0, bs.map V.ref, _, rfl, l0F, l0B, ?_, dk.mono u7, ?_, kmem⟩
     ·rw [upd_ne l0B, upd_ne l0a, upd_ne l0F, upd_same]
     ·rw [prs_len]; exact Nat.mul_le_mul s8 s8
    ·obtain rfl : i = 0 := by omega
     refine ⟨_, rfl, a0, kvs, _, rfl, .inl ?_, kd, kmem⟩
     rw [upd_ne a0B, upd_same]
   have hA0 : (upd (upd (upd (upd H3 l0 (.lst (bs.map V.ref))) F (.lst [V.ref l0])) a0 (.dT kvs)) B (.lst [V.ref a0])) a0 = some (.dT kvs) := by rw [upd_ne a0B, upd_same]
   generalize upd (upd (upd (upd H3 l0 (.lst (bs.map V.ref))) F (.lst [V.ref l0])) a0 (.dT kvs)) B (.lst [V.ref a0]) = H4 at *
   clear u4 u5 u6 u7 hF ha0 hB hl0
   refine ⟨by decide, by decide, for_by (it_range 0 _) (fun m σ H5 => ∃ (v2 v5 v6 v7 v8 v9 v10 : Option V) (fp gp : List V) (fl : V) (a : Addr) (akvs : List (List Key × V)), σ = [some cv, some (.ref S), v2, some (.ref F), some (.ref B), v5, v6, v7, v8, v9, v10, none, none, none] ∧
     FB rows H3 H5 F B (fp ++ [fl]) (gp ++ [V.ref a]) m ∧ H5 a = some (.dT akvs) ∧ H3 a = none)
    ⟨v2, none, none, none, none, none, none, [], [], .ref l0, a0, kvs, rfl, fb0, hA0, ha3⟩ (fun _ _ _ _ _ => trivial) ?_ ?_⟩
   ·rintro m z σ H5 hm hz ⟨v2, v5, v6, v7, v8, v9, v10, fp, gp, fl, a, akvs, rfl, fb, hA, hA3⟩
    have hm6 : m < 6 := by rw [List.length_map, List.length_range] at hm; exact hm
    intro D hD
    have M := Gd.start hD
    have flast : (fp ++ [fl])[m]? = some fl := by
     have := fb.lf
     rw [List.length_append, List.length_singleton] at this
     rw [List.getElem?_append_right (by omega), show m - fp.length = 0 by omega]; rfl
    obtain ⟨fl', e1, l, xs', ps, rfl, lF, lB, hl, dps, p64, pmem⟩ := fb.fr m (Nat.le_refl _)
    rw [flast] at e1
    cases e1
    refine .inl ⟨.ref l, (by rw [getV_lst (M.all _ _ fb.hF)]; exact atI_last _ _), ?_⟩
    refine .inr (.inl ⟨⟨_, SqL.of (M.all _ _ hl)⟩, ?_⟩)
    have xl' : xs'.length = ps.length := by rw [dps.length, List.length_map]
    obtain ⟨so, skvs, sks, hSo, skd, smem, sst⟩ := gr3
    refine for_by (it_list _ l xs') (fun j σ H6 => ∃ (v2 v7 v8 v9 : Option V) (G : Hp) (kvs : List (List Key × V)) (ks : List (Nat × Nat)), σ = [some cv, some (.ref S), v2, some (.ref F), some (.ref B), some z, some (.ref D), v7, v8, v9, v10, none, none, none] ∧ Gd G H5 H6 D kvs ∧ KD ks kvs ∧
      ∀ x' y', (x', y') ∈ ks ↔ ∃ i, i < j ∧ ∃ p, ps[i]? = some p ∧ ∃ s, Om.St rows p.1 p.2 s ∧ s.2 = (x', y'))
     ⟨v2, v7, v8, v9, _, [], [], rfl, M, KD.nil, fun x' y' => by simp⟩ (fun i σ H2 _ ⟨_, _, _, _, _, _, _, _, M, _⟩ => SqL.of (M.all _ _ hl)) ?_ ?_
    ·rintro j y σ H6 hj hy ⟨v2, v7, v8, v9, G6, kvs6, ks6, rfl, M6, kd6, hm6'⟩
     have hj' : j < ps.length := by omega
     have ep : ps[j]? = some ps[j] := List.getElem?_eq_getElem hj'
     obtain ⟨y', e1, e2⟩ := dps.get (i := j) (d := pairD ps[j]) (by rw [List.getElem?_map, ep]; rfl)
     rw [hy] at e1
     cases e1
     obtain ⟨b, rfl, hb⟩ := pair_inv e2
     have hall : Om.AllR rows ps[j].1 ps[j].2 := Om.iter_all ok m _ _ ((pmem _ _).mp (List.getElem_mem hj'))
     obtain ⟨t, ss, w1, w2, w3, w4⟩ := sst ps[j] ((smem _ _).mpr hall)
     obtain ⟨t', ts, e, ht, hts⟩ := w2.lst_inv
     cases e
     have tl : ts.length = ss.length := by rw [hts.length, List.length_map]
     have sA := fb.s.trans M6.all
     refine .inr ⟨_, _, rfl, .inr ⟨skvs, kk ps[j], b, .inr ⟨so, sA _ _ hSo⟩, rfl, M6.all _ _ hb, w1.symm⟩, ?_⟩
     refine .inr (.inl ⟨⟨_, SqL.of (sA _ _ ht)⟩, ?_⟩)
     refine for_by (it_list _ t ts) (fun g σ H7 => ∃ (v7 v8 v9 : Option V) (G : Hp) (kvs : List (List Key × V)) (ks : List (Nat × Nat)), σ = [some cv, some (.ref S), some (.ref b), some (.ref F), some (.ref B), some z, some (.ref D), v7, v8, v9, v10, none, none, none] ∧ Gd G H5 H7 D kvs ∧ KD ks kvs ∧
       ∀ x' y', (x', y') ∈ ks ↔ (∃ i, i < j ∧ ∃ p, ps[i]? = some p ∧ ∃ s, Om.St rows p.1 p.2 s ∧ s.2 = (x', y')) ∨ ∃ g' s, g' < g ∧ ss[g']? = some s ∧ s.2 = (x', y'))
      ⟨v7, v8, v9, G6, kvs6, ks6, rfl, M6, kd6, fun x' y' => by rw [hm6']; simp⟩ (fun i σ H2 _ ⟨_, _, _, _, _, _, _, M, _⟩ => SqL.of ((fb.s.trans M.all) _ _ ht)) ?_ ?_
     ·rintro g y σ H7 hg hy ⟨v7, v8, v9, G7, kvs7, ks7, rfl, M7, kd7, hm7⟩
      have hg' : g < ss.length := by omega
      have es : ss[g]? = some ss[g] := List.getElem?_eq_getElem hg'
      obtain ⟨y', e1, e2⟩ := hts.get (i := g) (d := stepD ss[g]) (by rw [List.getElem?_map, es]; rfl)
      rw [hy] at e1
      cases e1
      obtain ⟨qs, qr, rfl, h1, h2⟩ := step_inv e2
      have sA7 := fb.s.trans M7.all
      refine ⟨_, .inl (sA7 _ _ h1), rfl, rfl, ?_⟩
      obtain ⟨g1', g2', g3', g4'⟩ := (w4 _).mp (List.getElem_mem hg')
      have r1 := (ok.stp g1').2.2
      have r2 := (ok.stp g2').2.2
      obtain ⟨ks8, kd8, hk8⟩ := kd7.set (p := ss[g].2) (v := .bl true) (by rw [g4']; show _ < 8; omega) (by rw [g4']; show _ < 8; omega)
      refine .inr ⟨_, _, rfl, .inr ⟨kvs7, kk ss[g].2, qr, M7.hD, rfl, sA7 _ _ h2, kd7.lt_line, rfl⟩, ?_⟩
      refine ⟨_, _, _, G7, _, ks8, rfl, M7.set, kd8, fun x' y' => ?_⟩
      rw [hk8, hm7]
      constructor
      ·rintro ((h | ⟨g0, s, k1, k2, k3⟩) | h)
       ·exact .inl h
       ·exact .inr ⟨g0, s, by omega, k2, k3⟩
       ·exact .inr ⟨g, ss[g], by omega, es, h.symm⟩
      ·rintro (h | ⟨g0, s, k1, k2, k3⟩)
       ·exact .inl (.inl h)
       ·by_cases e : g0 = g
        ·subst e
         rw [es] at k2
         cases k2
         exact .inr k3.symm
        ·exact .inl (.inr ⟨g0, s, by omega, k2, k3⟩)
     ·rintro σ H7 ⟨v7, v8, v9, G7, kvs7, ks7, rfl, M7, kd7, hm7⟩
      refine ⟨_, _, _, _, G7, kvs7, ks7, rfl, M7, kd7, fun x' y' => ?_⟩
      rw [hm7]
      constructor
      ·rintro (⟨i, k1, k2⟩ | ⟨g0, s, k1, k2, k3⟩)
       ·exact ⟨i, by omega, k2⟩
       ·exact ⟨j, by omega, _, ep, s, (w4 _).mp (List.mem_of_getElem? k2), k3⟩
      ·rintro ⟨i, k1, p, k2, s, k3, k4⟩
       by_cases e : i = j
       ·subst e
        rw [ep] at k2
        cases k2
        obtain ⟨g0, e1, e2⟩ := List.mem_iff_getElem.mp ((w4 _).mpr k3)
        exact .inr ⟨g0, s, by omega, by rw [List.getElem?_eq_getElem e1, e2], k4⟩
       ·exact .inl ⟨i, by omega, p, k2, s, k3, k4⟩
    ·rintro σ H6 ⟨v2, v7, v8, v9, G6, kvs6, ks6, rfl, M6, kd6, hm6'⟩
     have fnew : ∀ x' y', (x', y') ∈ ks6 ↔ Om.iterR (Om.St rows) (Om.AllR rows) (m + 1) x' y' := fun x' y' => by
      rw [hm6', xl']
      constructor
      ·rintro ⟨i, k1, p, k2, s, k3, k4⟩
       exact ⟨p.1, p.2, s, (pmem _ _).mp (List.mem_of_getElem? k2), k3, k4⟩
      ·rintro ⟨x, y, s, k1, k2, k3⟩
       obtain ⟨i, e1, e2⟩ := List.mem_iff_getElem.mp ((pmem x y).mpr k1)
       exact ⟨i, e1, (x, y), by rw [List.getElem?_eq_getElem e1, e2], s, k2, k3⟩
     have D5 : H5 D = none := hD
     refine ⟨⟨_, rfl, M6.all _ _ fb.hF⟩, ?_⟩
     refine .inl ⟨kvs6, M6.hD, fun o6 bs6 l1 hkb6 hl1 => ?_⟩
     have l1D : l1 ≠ D := fun z => by subst z; rw [M6.hD] at hl1; cases hl1
     have l1F : l1 ≠ F := fun z => by subst z; rw [M6.all _ _ fb.hF] at hl1; cases hl1
     have l1B : l1 ≠ B := fun z => by subst z; rw [M6.all _ _ fb.hB] at hl1; cases hl1
     have z1 : Same H5 (upd H6 D (.frz o6 (.dT kvs6))) := M6.s0.trans M6.frz
     have z2 : Same H5 (upd (upd H6 D (.frz o6 (.dT kvs6))) l1 (.lst (bs6.map V.ref))) := z1.trans (Same.upd (by rw [upd_ne l1D]; exact hl1))
     have fr1 : FrL (upd (upd H6 D (.frz o6 (.dT kvs6))) l1 (.lst (bs6.map V.ref))) F B (.ref l1) (Om.iterR (Om.St rows) (Om.AllR rows) (m + 1)) := by
      refine ⟨l1, _, ks6, rfl, l1F, l1B, upd_same, keys_DVs kd6.keys (Paired.mapP hkb6 fun x b e => ?_), kd6.le, fnew⟩
      rw [upd_ne (ne_of_none e hl1), upd_ne (ne_of e M6.hD (fun z => nomatch z))]; exact e
     generalize upd (upd H6 D (.frz o6 (.dT kvs6))) l1 (.lst (bs6.map V.ref)) = E1 at *
     refine ⟨_, z2 _ _ fb.hF, by rw [fb.lf]; exact lt_line (by omega), ?_⟩
     have c1' : Ch F B E1 (upd E1 F (.lst ((fp ++ [V.ref l]) ++ [V.ref l1]))) := Ch.setF
     have s3a : Same H3 (upd E1 F (.lst ((fp ++ [V.ref l]) ++ [V.ref l1]))) := updN (fb.s.trans z2) fb.f0
     have hF2 : (upd E1 F (.lst ((fp ++ [V.ref l]) ++ [V.ref l1]))) F = some (.lst ((fp ++ [V.ref l]) ++ [V.ref l1])) := upd_same
     have hB2 : (upd E1 F (.lst ((fp ++ [V.ref l]) ++ [V.ref l1]))) B = some (.lst (gp ++ [V.ref a])) := by rw [upd_ne (Ne.symm fb.ne)]; exact z2 _ _ fb.hB
     have hA2 : (upd E1 F (.lst ((fp ++ [V.ref l]) ++ [V.ref l1]))) a = some (.dT akvs) := by rw [upd_ne (ne_of hA fb.hF (fun z => nomatch z))]; exact z2 _ _ hA
     generalize upd E1 F (.lst ((fp ++ [V.ref l]) ++ [V.ref l1])) = E2 at *
     intro D2 hD2
     have aD2 : a ≠ D2 := ne_of_none hA2 hD2
     have blast : (gp ++ [V.ref a])[m]? = some (V.ref a) := by
      have := fb.lg
      rw [List.length_append, List.length_singleton] at this
      rw [List.getElem?_append_right (by omega), show m - gp.length = 0 by omega]; rfl
     obtain ⟨aks, akd, amem⟩ : ∃ aks, KD aks akvs ∧ ∀ x y, (x, y) ∈ aks ↔ Om.On rows m x y := by
      obtain ⟨v, e1, a', kvs', ks', e2, e3, e4, e5⟩ := fb.bk m (Nat.le_refl _)
      rw [blast] at e1
      cases e1
      cases e2
      rcases e3 with e3 | ⟨_, e3⟩
      ·rw [hA] at e3; cases e3; exact ⟨ks', e4, e5⟩
      ·rw [hA] at e3; cases e3
     refine .inl ⟨.ref a, (by rw [getV_lst (Same.upd hD2 _ _ hB2)]; exact atI_last _ _), .inl ⟨akvs, Same.upd hD2 _ _ hA2, fun oa bsa hkba => ?_⟩⟩
     rw [upd_comm aD2]
     have hD2f : (upd E2 a (.frz oa (.dT akvs))) D2 = none := by rw [upd_ne (Ne.symm aD2)]; exact hD2
     have kbf : KeysAt (upd E2 a (.frz oa (.dT akvs))) akvs bsa := Paired.mapP hkba fun x b e => by
      have b1 : b ≠ D2 := fun z => by subst z; rw [upd_same] at e; cases e
      rw [upd_ne b1] at e
      rw [upd_ne (ne_of e hA2 (fun z => nomatch z))]; exact e
     have c2' : Ch F B E2 (upd E2 a (.frz oa (.dT akvs))) := Ch.frz hA2
     have s3b : Same H3 (upd E2 a (.frz oa (.dT akvs))) := updN s3a hA3
     have hF2' : (upd E2 a (.frz oa (.dT akvs))) F = some (.lst ((fp ++ [V.ref l]) ++ [V.ref l1])) := by rw [upd_ne (ne_of hF2 hA2 (fun z => nomatch z))]; exact hF2
     have hB2' : (upd E2 a (.frz oa (.dT akvs))) B = some (.lst (gp ++ [V.ref a])) := by rw [upd_ne (ne_of hB2 hA2 (fun z => nomatch z))]; exact hB2
     have hAf : (upd E2 a (.frz oa (.dT akvs))) a = some (.frz oa (.dT akvs)) := upd_same
     generalize upd E2 a (.frz oa (.dT akvs)) = E3 at *
     have N0 := Gd.start hD2f
     have abl := akd.blen kbf
     refine for_by (it_keys a oa (bsa.map V.ref)) (fun j σ H7 => ∃ (v2 : Option V) (G : Hp) (kvs : List (List Key × V)) (ks : List (Nat × Nat)), σ = [some cv, some (.ref S), v2, some (.ref F), some (.ref B), some z, some (.ref D), v7, v8, v9, some (.ref D2), none, none, none] ∧ Gd G E3 H7 D2 kvs ∧ KD ks kvs ∧
       ∀ x y, (x, y) ∈ ks ↔ (x, y) ∈ aks.take j ∧ ∃ s, Om.St rows x y s ∧ Om.On rows m s.2.1 s.2.2)
      ⟨v2, _, [], [], rfl, N0, KD.nil, fun x' y' => by simp⟩ (fun i σ H2 _ ⟨_, _, _, _, _, M, _⟩ => ⟨_, M.all _ _ hAf⟩) ?_ ?_
     ·rintro j y σ H7 hj hy ⟨v2, G7, kvs7, ks7, rfl, N, kd7, hm7⟩
      have hj' : j < aks.length := by rw [← abl]; exact hj
      obtain ⟨b, rfl, hb⟩ := akd.key kbf hj' hy
      have ti : aks.take (j + 1) = aks.take j ++ [aks[j]] := by rw [List.take_add_one, List.getElem?_eq_getElem hj']; rfl
      have hon : Om.On rows m aks[j].1 aks[j].2 := (amem _ _).mp (List.getElem_mem hj')
      have b8 := akd.lt _ (List.getElem_mem hj')
      generalize aks[j] = pr at *
      obtain ⟨t, ss, w1, w2, w3, w4⟩ := sst pr ((smem _ _).mpr (Om.on_all hon))
      obtain ⟨t', ts, e, ht, hts⟩ := w2.lst_inv
      cases e
      have tl : ts.length = ss.length := by rw [hts.length, List.length_map]
      have sA := s3b.trans N.all
      refine .inr ⟨_, _, rfl, .inr ⟨skvs, kk pr, b, .inr ⟨so, sA _ _ hSo⟩, rfl, N.all _ _ hb, w1.symm⟩, ?_⟩
      refine .inr (.inl ⟨⟨_, SqL.of (sA _ _ ht)⟩, fun C hC => ?_⟩)
      refine comp_by (it_list _ t ts) (fun g τ H8 ys => (∃ v, τ = [v, some (.ref B)]) ∧ H8 = upd H7 C (.lst ys) ∧ ∃ zs : List Om.Stp, DVs H3 ys (zs.map stepD) ∧ zs.length ≤ g ∧ ∀ s, s ∈ zs ↔ (∃ g', g' < g ∧ ss[g']? = some s) ∧ Om.On rows m s.2.1 s.2.2)
       (by rw [tl]; exact le_line (by omega)) ⟨⟨none, rfl⟩, rfl, [], .nil, Nat.le_refl _, by simp⟩ ?_ ?_ ?_
      ·rintro g τ H8 ys hg ⟨_, rfl, zs, hd, hzl, _⟩
       exact ⟨SqL.of (Same.upd hC _ _ (sA _ _ ht)), upd_same, by rw [hd.length, List.length_map]; exact hzl⟩
      ·rintro g y τ H8 ys hg hy ⟨⟨v, rfl⟩, rfl, zs, hd, hzl, hmem⟩
       have hg' : g < ss.length := by omega
       have es : ss[g]? = some ss[g] := List.getElem?_eq_getElem hg'
       obtain ⟨y', e1, e2⟩ := hts.get (i := g) (d := stepD ss[g]) (by rw [List.getElem?_map, es]; rfl)
       rw [hy] at e1
       cases e1
       obtain ⟨qs, qr, rfl, h1, h2⟩ := step_inv e2
       have u8 : Same H3 (upd H7 C (.lst ys)) := sA.trans (Same.upd hC)
       have uE : Same E3 (upd H7 C (.lst ys)) := N.all.trans (Same.upd hC)
       dsimp only [gName]
       refine .inl ⟨_, gt (u8 _ _ h1) (by decide) rfl, .inl ⟨.ref a, (by rw [getV_lst (uE _ _ hB2')]; exact atI_last _ _), ?_⟩⟩
       refine ⟨a, valV akvs (kk ss[g].2), rfl, .inr ⟨akvs, kk ss[g].2, qr, .inr ⟨oa, uE _ _ hAf⟩, rfl, u8 _ _ h2, rfl⟩, ?_⟩
       have km := akd.mem (p := ss[g].2)
       refine ite2 (fun c1 => ?_) (fun c1 => ?_)
       ·refine ⟨upd_same, ⟨_, rfl⟩, upd_upd, zs ++ [ss[g]], ?_, by simp; omega, fun u => ?_⟩
        ·rw [List.map_append]
         exact hd.app (.cons e2 .nil)
        ·rw [List.mem_append, hmem, List.mem_singleton]
         constructor
         ·rintro (⟨⟨m', k1, k2⟩, k3⟩ | k)
          ·exact ⟨⟨m', by omega, k2⟩, k3⟩
          ·subst k; exact ⟨⟨g, by omega, es⟩, (amem _ _).mp (km.mp c1)⟩
         ·rintro ⟨⟨m', k1, k2⟩, k3⟩
          by_cases e : m' = g
          ·subst e
           rw [es] at k2
           exact .inr (Option.some.inj k2).symm
          ·exact .inl ⟨⟨m', by omega, k2⟩, k3⟩
       ·refine ⟨⟨_, rfl⟩, rfl, zs, hd, by omega, fun u => ?_⟩
        rw [hmem]
        constructor
        ·rintro ⟨⟨m', k1, k2⟩, k3⟩; exact ⟨⟨m', by omega, k2⟩, k3⟩
        ·rintro ⟨⟨m', k1, k2⟩, k3⟩
         by_cases e : m' = g
         ·subst e
          rw [es] at k2
          cases k2
          exact absurd (km.mpr ((amem _ _).mpr k3)) c1
         ·exact ⟨⟨m', by omega, k2⟩, k3⟩
      ·rintro τ H8 ys ⟨_, rfl, zs, hd, hzl, hmem⟩
       have N1 := N.put (o := .lst ys) hC
       refine ⟨Nat.zero_le _, fun e he => ?_⟩
       have N2 := N1.put (o := .lst []) he
       have u9 : Same H3 (upd (upd H7 C (.lst ys)) e (.lst [])) := s3b.trans N2.all
       refine ⟨_, _, .lst (Same.upd he _ _ upd_same) (hd.mono u9), .lst upd_same .nil, steps_shaped _, by decide, ?_⟩
       have zne : zs = [] ↔ ¬ ∃ s, Om.St rows pr.1 pr.2 s ∧ Om.On rows m s.2.1 s.2.2 := by
        constructor
        ·rintro rfl ⟨s, k1, k2⟩
         obtain ⟨g0, e1, e2⟩ := List.mem_iff_getElem.mp ((w4 _).mpr k1)
         have := (hmem s).mpr ⟨⟨g0, by omega, by rw [List.getElem?_eq_getElem e1, e2]⟩, k2⟩
         cases this
        ·intro hn
         cases zs with
         | nil => rfl
         | cons s zs =>
          obtain ⟨⟨g0, _, k2⟩, k3⟩ := (hmem s).mp List.mem_cons_self
          exact absurd ⟨s, (w4 _).mp (List.mem_of_getElem? k2), k3⟩ hn
       by_cases hz0 : zs = []
       ·have e0 : PyData.eqv (.list (zs.map stepD)) (.list []) = true := by rw [hz0]; rfl
        rw [e0]
        refine iteF ?_
        refine ⟨_, _, kvs7, ks7, rfl, N2, kd7, fun x y => ?_⟩
        rw [hm7, ti, List.mem_append, List.mem_singleton]
        constructor
        ·rintro ⟨k1, k2⟩; exact ⟨.inl k1, k2⟩
        ·rintro ⟨k1 | k1, k2⟩
         ·exact ⟨k1, k2⟩
         ·subst k1; exact absurd k2 (zne.mp hz0)
       ·have e0 : PyData.eqv (.list (zs.map stepD)) (.list []) = false := by
         cases zs with
         | nil => exact absurd rfl hz0
         | cons _ _ => rfl
        rw [e0]
        refine iteP rfl ?_
        obtain ⟨ks8, kd8, hk8⟩ := kd7.set (p := pr) (v := .bl true) b8.1 b8.2
        refine .inr ⟨_, _, rfl, .inr ⟨kvs7, kk pr, b, N2.hD, rfl, N2.all _ _ hb, kd7.lt_line, rfl⟩, ?_⟩
        refine ⟨_, _, _, ks8, rfl, N2.set, kd8, fun x y => ?_⟩
        have hex := Classical.not_not.mp (fun z => hz0 (zne.mpr z))
        rw [hk8, hm7, ti, List.mem_append, List.mem_singleton]
        constructor
        ·rintro (⟨k1, k2⟩ | k)
         ·exact ⟨.inl k1, k2⟩
         ·subst k; exact ⟨.inr rfl, hex⟩
        ·rintro ⟨k1 | k1, k2⟩
         ·exact .inl ⟨k1, k2⟩
         ·exact .inr k1
     ·rintro σ H7 ⟨v2, G7, kvs7, ks7, rfl, N, kd7, hm7⟩
      rw [abl, List.take_length] at hm7
      have sA := s3b.trans N.all
      refine ⟨⟨_, rfl, N.all _ _ hB2'⟩, ?_⟩
      refine ⟨_, N.all _ _ hB2', by rw [fb.lg]; exact lt_line (by omega), ?_⟩
      have D2B : D2 ≠ B := fun z => by subst z; rw [hB2'] at hD2f; cases hD2f
      have D2F : D2 ≠ F := fun z => by subst z; rw [hF2'] at hD2f; cases hD2f
      have cB : Ch F B E3 (upd H7 B (.lst ((gp ++ [V.ref a]) ++ [V.ref D2]))) := (Ch.same N.all).trans Ch.setB
      have cAll : Ch F B E1 (upd H7 B (.lst ((gp ++ [V.ref a]) ++ [V.ref D2]))) := (c1'.trans c2').trans cB
      have c5 : Ch F B H5 (upd H7 B (.lst ((gp ++ [V.ref a]) ++ [V.ref D2]))) := (Ch.same z2).trans cAll
      refine ⟨_, _, _, _, _, _, _, fp ++ [.ref l], gp ++ [V.ref a], .ref l1, D2, kvs7, rfl, ⟨updN sA fb.b0, fb.f0, fb.b0, fb.ne, ?_, upd_same, ?_, ?_, fun i hi => ?_, fun i hi => ?_⟩, ?_, ?_⟩
      ·rw [upd_ne fb.ne]; exact N.all _ _ hF2'
      ·rw [List.length_append, fb.lf]; rfl
      ·rw [List.length_append, fb.lg]; rfl
      ·rcases Nat.lt_or_ge i (m + 1) with h | h
       ·obtain ⟨v, k1, k2⟩ := fb.fr i (by omega)
        exact ⟨v, by rw [List.getElem?_append_left (by rw [fb.lf]; exact h)]; exact k1, k2.ch fb.hF fb.hB c5⟩
       ·obtain rfl : i = m + 1 := by omega
        refine ⟨.ref l1, ?_, fr1.ch (z2 _ _ fb.hF) (z2 _ _ fb.hB) cAll⟩
        rw [List.getElem?_append_right (by rw [fb.lf]; exact Nat.le_refl _), fb.lf, Nat.sub_self]; rfl
      ·rcases Nat.lt_or_ge i (m + 1) with h | h
       ·obtain ⟨v, k1, k2⟩ := fb.bk i (by omega)
        exact ⟨v, by rw [List.getElem?_append_left (by rw [fb.lg]; exact h)]; exact k1, k2.ch fb.hF fb.hB c5⟩
       ·obtain rfl : i = m + 1 := by omega
        refine ⟨.ref D2, ?_, D2, kvs7, ks7, rfl, .inl (by rw [upd_ne D2B]; exact N.hD), kd7, fun x y => ?_⟩
        ·rw [List.getElem?_append_right (by rw [fb.lg]; exact Nat.le_refl _), fb.lg, Nat.sub_self]; rfl
        ·rw [hm7, amem]; exact Iff.rfl
      ·rw [upd_ne D2B]; exact N.hD
      ·exact s3b.free hD2f
   ·rintro σ H5 ⟨v2, v5, v6, v7, v8, v9, v10, fp, gp, fl, a, akvs, rfl, fb, hA, hA3⟩
    rw [List.length_map, List.length_range, show ((6 : Int)).toNat = 6 from rfl] at fb
    refine ⟨Nat.zero_le _, fun W hW => ?_⟩
    have R0 := Gr.start hW
    obtain ⟨so, skvs, sks, hSo, skd, smem, sst⟩ := gr3
    refine ⟨by decide, by decide, for_by (it_range 0 _) (fun t σ H6 => ∃ (v2 v12 v13 : Option V) (G : Hp) (ws : List V), σ = [some cv, some (.ref S), v2, some (.ref F), some (.ref B), v5, v6, v7, v8, v9, v10, some (.ref W), v12, v13] ∧ Gr G H5 H6 W ws ∧ DVs G ws (((Om.preW t 0).filter (Om.wf rows)).map pairD))
     ⟨v2, none, none, _, [], rfl, R0, .nil⟩ (fun _ _ _ _ _ => trivial) ?_ ?_⟩
    ·rintro t z σ H6 ht hz ⟨v2, v12, v13, G, ws, rfl, R, hd⟩
     have ht' : t < 7 := by rw [List.length_map, List.length_range] at ht; exact ht
     have ez : z = .int (t : Nat) := by
      rw [List.length_map, List.length_range] at ht
      rw [List.getElem?_map, List.getElem?_range ht] at hz
      have := (Option.some.inj hz).symm
      rw [this]; simp
     subst ez
     refine ⟨by omega, by omega, for_by (it_range 0 _) (fun b σ H7 => ∃ (v2 v13 : Option V) (G : Hp) (ws : List V), σ = [some cv, some (.ref S), v2, some (.ref F), some (.ref B), v5, v6, v7, v8, v9, v10, some (.ref W), some (.int (t : Nat)), v13] ∧ Gr G H5 H7 W ws ∧ DVs G ws (((Om.preW t b).filter (Om.wf rows)).map pairD))
      ⟨v2, v13, G, ws, rfl, R, hd⟩ (fun _ _ _ _ _ => trivial) ?_ ?_⟩
     ·rintro b y σ H7 hb hy ⟨v2, v13, G, ws, rfl, R, hd⟩
      have hb' : b < t + 1 := by rw [List.length_map, List.length_range] at hb; omega
      have ey : y = .int (b : Nat) := by
       rw [List.length_map, List.length_range] at hb
       rw [List.getElem?_map, List.getElem?_range hb] at hy
       have := (Option.some.inj hy).symm
       rw [this]; simp
      subst ey
      have ea : ((t : Nat) : Int) - ((b : Nat) : Int) = ((t - b : Nat) : Int) := by omega
      obtain ⟨fv, f1, l, xs', ps, rfl, lF, lB, hl, dps, p64, pmem⟩ := fb.fr b (by omega)
      obtain ⟨bv, b1, bkd⟩ := fb.bk (t - b) (by omega)
      have xl' : xs'.length = ps.length := by rw [dps.length, List.length_map]
      have hB7 : H7 B = some (.lst (gp ++ [V.ref a])) := R.all _ _ fb.hB
      refine .inl ⟨.ref l, gl (R.all _ _ fb.hF) (by omega) (by simpa using f1), ?_⟩
      refine .inr (.inl ⟨⟨_, SqL.of (R.all _ _ hl)⟩, fun C hC => ?_⟩)
      refine comp_by (it_list _ l xs') (fun g τ H8 ys => (∃ v, τ = [v, some (.ref S), some (.ref B), some (.int (t : Nat)), some (.int (b : Nat))]) ∧ H8 = upd H7 C (.lst ys) ∧ ∃ zs : List (Nat × Nat), DVs H5 ys (zs.map pairD) ∧ zs.length ≤ g ∧
        ∀ p, p ∈ zs ↔ (∃ g', g' < g ∧ ps[g']? = some p) ∧ ∃ s, Om.St rows p.1 p.2 s ∧ s.1.1 ≠ s.1.2 ∧ Om.On rows (t - b) s.2.1 s.2.2)
       (by rw [xl']; exact le_line (by omega)) ⟨⟨none, rfl⟩, rfl, [], .nil, Nat.le_refl _, by simp⟩ ?_ ?_ ?_
      ·rintro g τ H8 ys hg ⟨_, rfl, zs, hz, hzl, _⟩
       exact ⟨SqL.of (Same.upd hC _ _ (R.all _ _ hl)), upd_same, by rw [hz.length, List.length_map]; exact hzl⟩
      ·rintro g y τ H8 ys hg hy ⟨⟨v, rfl⟩, rfl, zs, hz, hzl, hmem⟩
       have hg' : g < ps.length := by omega
       have ep : ps[g]? = some ps[g] := List.getElem?_eq_getElem hg'
       obtain ⟨y', e1, e2⟩ := dps.get (i := g) (d := pairD ps[g]) (by rw [List.getElem?_map, ep]; rfl)
       rw [hy] at e1
       cases e1
       obtain ⟨pb, rfl, hpb⟩ := pair_inv e2
       have hall : Om.AllR rows ps[g].1 ps[g].2 := Om.iter_all ok b _ _ ((pmem _ _).mp (List.getElem_mem hg'))
       obtain ⟨q1, ss, w1, w2, w3, w4⟩ := sst ps[g] ((smem _ _).mpr hall)
       have uA : Same H5 (upd H7 C (.lst ys)) := R.all.trans (Same.upd hC)
       have u3 := fb.s.trans uA
       dsimp only [gName]
       refine .inr ⟨_, _, rfl, .inr ⟨skvs, kk ps[g], pb, .inr ⟨so, u3 _ _ hSo⟩, rfl, uA _ _ hpb, w1.symm⟩, ?_⟩
       refine .inl ⟨bv, gl (uA _ _ fb.hB) (by omega) (by rw [ea, Int.toNat_natCast]; exact b1), ?_⟩
       refine ⟨ss, _, w2.mono u3, bkd.ch fb.hF fb.hB (Ch.same uA), fun c hc => ?_⟩
       have hc' : c = true ↔ ∃ s, Om.St rows ps[g].1 ps[g].2 s ∧ s.1.1 ≠ s.1.2 ∧ Om.On rows (t - b) s.2.1 s.2.2 := by
        rw [hc]
        constructor
        ·rintro ⟨s, k1, k2⟩; exact ⟨s, (w4 s).mp k1, k2⟩
        ·rintro ⟨s, k1, k2⟩; exact ⟨s, (w4 s).mpr k1, k2⟩
       refine ite2 (fun c1 => ?_) (fun c1 => ?_)
       ·refine ⟨upd_same, ⟨_, rfl⟩, upd_upd, zs ++ [ps[g]], ?_, by simp; omega, fun u => ?_⟩
        ·rw [List.map_append]
         exact hz.app (.cons e2 .nil)
        ·rw [List.mem_append, hmem, List.mem_singleton]
         constructor
         ·rintro (⟨⟨m', k1, k2⟩, k3⟩ | k)
          ·exact ⟨⟨m', by omega, k2⟩, k3⟩
          ·subst k; exact ⟨⟨g, by omega, ep⟩, hc'.mp c1⟩
         ·rintro ⟨⟨m', k1, k2⟩, k3⟩
          by_cases e : m' = g
          ·subst e
           rw [ep] at k2
           exact .inr (Option.some.inj k2).symm
          ·exact .inl ⟨⟨m', by omega, k2⟩, k3⟩
       ·refine ⟨⟨_, rfl⟩, rfl, zs, hz, by omega, fun u => ?_⟩
        rw [hmem]
        constructor
        ·rintro ⟨⟨m', k1, k2⟩, k3⟩; exact ⟨⟨m', by omega, k2⟩, k3⟩
        ·rintro ⟨⟨m', k1, k2⟩, k3⟩
         by_cases e : m' = g
         ·subst e
          rw [ep] at k2
          cases k2
          exact absurd (hc'.mpr k3) c1
         ·exact ⟨⟨m', by omega, k2⟩, k3⟩
      ·rintro τ H8 ys ⟨_, rfl, zs, hz, hzl, hmem⟩
       have R1 := R.put (o := .lst ys) hC
       have U1 := R.up (o := .lst ys) hC
       refine ⟨Nat.zero_le _, fun e he => ?_⟩
       have R2 := R1.put (o := .lst []) he
       have U2 := R1.up (o := .lst []) he
       refine ⟨_, _, .lst (Same.upd he _ _ upd_same) (hz.mono R2.all), .lst upd_same .nil, pairs_shaped _, by decide, ?_⟩
       have zne : zs = [] ↔ Om.wf rows (b, t - b) = true := by
        rw [Om.wf_iff, Om.win_iff ok]
        constructor
        ·rintro rfl x y k1 s k2 k3 k4
         obtain ⟨g0, e1, e2⟩ := List.mem_iff_getElem.mp ((pmem x y).mpr k1)
         have := (hmem (x, y)).mpr ⟨⟨g0, by omega, by rw [List.getElem?_eq_getElem e1, e2]⟩, s, k2, k3, k4⟩
         cases this
        ·intro hn
         cases zs with
         | nil => rfl
         | cons p zs =>
          obtain ⟨⟨g0, _, k2⟩, s, k3, k4, k5⟩ := (hmem p).mp List.mem_cons_self
          exact absurd k5 (hn _ _ ((pmem _ _).mp (List.mem_of_getElem? k2)) s k3 k4)
       have wsl : ws.length ≤ 28 := by
        rw [hd.length, List.length_map]
        exact Nat.le_trans (List.length_filter_le _ _) (Om.preW_len t ht' b (by omega))
       by_cases hz0 : zs = []
       ·have e0 : PyData.eqv (.list (zs.map pairD)) (.list []) = true := by rw [hz0]; rfl
        rw [e0]
        refine iteP rfl ?_
        refine ⟨⟨_, rfl, R2.hL⟩, ?_⟩
        refine ⟨le_line (Nat.le_of_ble_eq_true rfl), fun p hp => ?_⟩
        have R3 := R2.put (o := .tup [.int (b : Nat), .int (((t : Nat) : Int) - ((b : Nat) : Int))]) hp
        have U3 := R2.up (o := .tup [.int (b : Nat), .int (((t : Nat) : Int) - ((b : Nat) : Int))]) hp
        refine ⟨_, R3.hL, lt_line (by omega), ?_⟩
        refine ⟨_, _, _, ws ++ [.ref p], rfl, R3.set, ?_⟩
        rw [Om.preW_succ, List.filter_append, List.map_append, List.filter_cons, if_pos (zne.mp hz0)]
        refine ((hd.mono ((U1.trans U2).trans U3))).app (.cons (pair_DV (x := (b, t - b)) ?_) .nil)
        rw [upd_same, ea]
       ·have e0 : PyData.eqv (.list (zs.map pairD)) (.list []) = false := by
         cases zs with
         | nil => exact absurd rfl hz0
         | cons _ _ => rfl
        rw [e0]
        refine iteF ?_
        refine ⟨_, _, _, ws, rfl, R2, ?_⟩
        rw [Om.preW_succ, List.filter_append, List.map_append, List.filter_cons, if_neg (fun z => hz0 (zne.mpr z))]
        simp only [List.filter_nil, List.map_nil, List.append_nil]
        exact hd.mono (U1.trans U2)
     ·rintro σ H7 ⟨v2, v13, G, ws, rfl, R, hd⟩
      rw [List.length_map, List.length_range, show (((t : Nat) : Int) + 1).toNat = t + 1 by omega, Om.preW_end] at hd
      exact ⟨_, _, _, G, ws, rfl, R, hd⟩
    ·rintro σ H6 ⟨v2, v12, v13, G, ws, rfl, R, hd⟩
     rw [List.length_map, List.length_range, show ((7 : Int)).toNat = 7 from rfl, Om.preW_all] at hd
     exact q _ _ _ ((SH.trans fb.s).trans R.all) R.hL (hd.mono R.s)
 ·exact h.elim
end
end K35
end
section
namespace K35
open PySem L2
section
variable {P : Program} {w : World} {K : PySem.W.Frag} {mg : Str → Option Value} {base : Heap}
abbrev sSentL : Stmt := top 43
def spSentL : Sp := fun vs H Q _ => match vs with
 | [cv, .int st, .ref t] => ∃ (k n : Nat) (rows : Om.Rows) (s0 : Nat) (ls : List Nat), DV H cv (codeD k n rows) ∧ Om.CodeOk k n rows ∧ st = (s0 : Int) ∧ s0 < rows.length ∧ H t = some (.lst ((ni ls).map V.int)) ∧ ls.length ≤ 400 ∧ (∀ l ∈ ls, l < 2 ^ k) ∧
   ∀ p H', Same H H' → H' p = some (.tup [.str (bs (Om.send rows s0 ls).1), .int ((Om.send rows s0 ls).2 : Nat)]) → Q (.ref p) H'
 | _ => False
theorem scSentL : FnScope ["code", "place", "text", "wire", "letter", "word"] ["code", "place", "text"] (defScope sSentL) := ⟨rfl, rfl, rfl, by decide +kernel, rfl, by decide +kernel, by decide +kernel⟩
local macro_rules | `(tactic| walk_at "T.n") => `(tactic| with_reducible first | exact vn "code" 0 | exact vn "place" 1 | exact vn "text" 2 | exact vn "wire" 3 | exact vn "letter" 4 | exact vn "word" 5)
local macro_rules | `(tactic| walk_at "T.gn") => `(tactic| with_reducible first | exact gn "place" 1 (by with_unfolding_all assumption) | exact gn "wire" 3 (by with_unfolding_all assumption) | exact gn "letter" 4 (by with_unfolding_all assumption) | exact gn "word" 5 (by with_unfolding_all assumption))
theorem ok_sentL (D : FnX K mg "_law_sent" sSentL ["code", "place", "text"]) : Can P w K mg base "_law_sent" 1 ["code", "place", "text"] spSentL := by
 refine can_fn (k := 0) D scSentL (fun vs H Q E h => ?_) (fun f cdv A outer s H vs Q E hr h => ?_)
 all_goals
  unfold spSentL at h
  split at h
 ·rfl
 ·exact h.elim
 ·rename_i cv st t
  obtain ⟨k, n, rows, s0, ls, hc, ok, rfl, hs0, ht, hlen, hls, q⟩ := h
  have nd := scSentL.nd
  obtain ⟨a, b, ss, rfl, ha, hb, hss⟩ := code_inv hc
  refine ⟨_, (by walk_at "T.top"), ?_⟩
  have hn : (ni ls).length = ls.length := by unfold ni; simp
  refine ⟨⟨_, SqL.of ht⟩, for_by (it_list _ t ((ni ls).map V.int)) (fun i σ H2 => (∃ v4 v5, σ = [some (.ref a), some (.int ((Om.send rows s0 (ls.take i)).2 : Nat)), some (.ref t), some (.str (bs (Om.send rows s0 (ls.take i)).1)), v4, v5]) ∧ H2 = H ∧ (Om.send rows s0 (ls.take i)).2 < rows.length)
   ⟨⟨none, none, rfl⟩, rfl, hs0⟩ (fun i σ H2 _ ⟨_, e, _⟩ => SqL.of (by rw [e]; exact ht)) ?_ ?_⟩
  ·rintro i x σ H2 hi hx ⟨⟨v4, v5, rfl⟩, rfl, hlt⟩
   rw [List.getElem?_map, ni, List.getElem?_map] at hx
   obtain ⟨n', hn', rfl⟩ := Option.map_eq_some_iff.mp hx
   obtain ⟨l, hl, rfl⟩ := Option.map_eq_some_iff.mp hn'
   obtain ⟨st, e1, e2, e3, e4⟩ := Om.step_get ok hlt (hls l (List.mem_of_getElem? hl))
   obtain ⟨p, rs, f1, f2, f3⟩ := state_at hss e1
   obtain ⟨r, f4, f5⟩ := row_at f3 e2
   have ti : ls.take (i + 1) = ls.take i ++ [l] := by rw [List.take_add_one, hl]; rfl
   have sn : Om.send rows s0 (ls.take i ++ [l]) = ((Om.send rows s0 (ls.take i)).1 ++ (Om.step rows (Om.send rows s0 (ls.take i)).2 l).1, (Om.step rows (Om.send rows s0 (ls.take i)).2 l).2) := by
    rw [Om.send_app]
    show ((Om.send rows s0 (ls.take i)).1 ++ ((Om.step rows (Om.send rows s0 (ls.take i)).2 l).1 ++ []), (Om.step rows (Om.send rows s0 (ls.take i)).2 l).2) = _
    rw [List.append_nil]
   refine ⟨_, gt ha (by decide) rfl, _, gl hb (by omega) (by simpa using f1), .ref r, gl f2 (by omega) (by simpa using f4), ?_⟩
   refine ⟨_, .inl f5, rfl, rfl, ?_⟩
   have hlen2 : ((Om.send rows s0 (ls.take (i + 1))).1).length ≤ 2400 := by
    rw [(Om.send_ok ok (ls.take (i + 1)) s0 hs0 fun x hx => hls x (List.mem_of_mem_take hx)).1, List.length_take]
    have h6 := ok.n6
    calc n * min (i + 1) ls.length ≤ 6 * 400 := Nat.mul_le_mul h6 (by omega)
     _ ≤ 2400 := by decide
   rw [ti, sn, List.length_append] at hlen2
   refine ⟨by rw [bs_len, bs_len]; exact le_lineB (by omega), ⟨some (.int (l : Nat)), some (.str (bs (Om.step rows (Om.send rows s0 (ls.take i)).2 l).1)), ?_⟩, rfl, ?_⟩
   ·rw [ti, sn, ← bs_app]
    rfl
   ·rw [ti, sn]; exact e4
  ·rintro σ H2 ⟨⟨v4, v5, rfl⟩, rfl, hlt⟩
   have tl : ls.take ((ni ls).map V.int).length = ls := List.take_of_length_le (by rw [List.length_map, hn]; exact Nat.le_refl _)
   rw [tl]
   refine ⟨le_line (Nat.le_of_ble_eq_true rfl), fun p hp => ?_⟩
   exact q p _ (Same.upd hp) upd_same
 ·exact h.elim
end
end K35
end
section
namespace K35
open PySem L2
section
variable {P : Program} {w : World} {K : PySem.W.Frag} {mg : Str → Option Value} {base : Heap}
abbrev sFault : Stmt := top 48
def spFault : Sp := fun vs H Q _ => match vs with
 | [.str z, .int n0] => ∃ (xs : List Nat) (n : Nat), z = mkS xs ∧ n0 = (n : Nat) ∧ 1 ≤ n ∧ n ≤ 6 ∧ xs.length ≤ 2000 ∧ (∀ i, FBad n xs i → Q (.int (i : Nat)) H) ∧ (AllP n xs → Q .non H)
 | _ => False
theorem scFault : FnScope ["wire", "n", "at", "word"] ["wire", "n"] (defScope sFault) := ⟨rfl, rfl, rfl, by decide +kernel, rfl, by decide +kernel, by decide +kernel⟩
local macro_rules | `(tactic| walk_at "T.n") => `(tactic| with_reducible first | exact vn "wire" 0 | exact vn "n" 1 | exact vn "at" 2 | exact vn "word" 3)
local macro_rules | `(tactic| walk_at "T.gn") => `(tactic| with_reducible first | exact gn "at" 2 (by with_unfolding_all assumption) | exact gn "word" 3 (by with_unfolding_all assumption))
local macro_rules | `(tactic| walk_at "T.t") => `(tactic| ((with_reducible refine' PW.pt ?a1); (case a1 => ((with_reducible refine' t_orT (i := 3) (j := 1) ?b0 ?b9 (m_repl (m_repl (n1 "word" 3)))); (case b0 => with_reducible assumption); (case b9 => rfl)))))
theorem ok_fault (D : FnX K mg "_law_fault" sFault ["wire", "n"]) (g1 : mg "range" = none) (g2 : mg "len" = none) : Can P w K mg base "_law_fault" 1 ["wire", "n"] spFault := by
 refine can_fn (k := 0) D scFault (fun vs H Q E h => ?_) (fun f cdv A outer s H vs Q E hr h => ?_)
 all_goals
  unfold spFault at h
  split at h
 ·rfl
 ·exact h.elim
 ·rename_i z n0
  obtain ⟨xs, n, rfl, rfl, n1, n6, l2, qb, qa⟩ := h
  have nd := scFault.nd
  have lx := mkS_len xs
  have pl := pcs_le (xs := xs) n1
  refine ⟨_, (by walk_at "T.top"), ?_⟩
  refine ⟨_, lenStr (by rw [lx]; exact le_lineB (by omega)), ?_⟩
  rw [lx]
  refine ⟨⟨by omega, by omega, by omega, by omega, by omega, by omega, by omega⟩, ?_⟩
  rw [rng_pcs xs n1 n6]
  refine for_by (it_rangeS 0 (n : Int) (pcs n xs)) (fun i σ H2 => (∃ v2 v3, σ = [some (.str (mkS xs)), some (.int (n : Nat)), v2, v3]) ∧ H2 = H ∧ ∀ j, j < i → okP n (pce n xs j) = true) ⟨⟨none, none, rfl⟩, rfl, fun j hj => absurd hj (Nat.not_lt_zero _)⟩ (fun _ _ _ _ _ => trivial) ?_ ?_
  ·rintro i x σ H2 hi hx ⟨⟨v2, v3, rfl⟩, rfl, hj⟩
   have hi' : i < pcs n xs := by simpa using hi
   have ex : x = .int ((i * n : Nat) : Int) := by
    rw [List.getElem?_map, List.getElem?_range hi'] at hx
    have := (Option.some.inj hx).symm
    rw [this]; show V.int (0 + (i : Int) * (n : Int)) = _; rw [Int.zero_add, Int.natCast_mul]
   subst ex
   have e3 := pcs_lt n1 hi'
   refine ⟨by rw [lx]; exact le_lineB (by omega), ?_⟩
   rw [slice_cut xs (Nat.le_of_lt e3)]
   have ep : (xs.drop (i * n)).take n = pce n xs i := rfl
   rw [ep]
   have lc := pce_len n xs i
   have lp := mkS_len (pce n xs i)
   refine ⟨_, _, rfl, rfl, by rw [lp]; exact le_line (by omega), ?_⟩
   have ed : ((i * n : Nat) : Int) / ((n : Nat) : Int) = ((i : Nat) : Int) := by
    rw [Int.natCast_mul]; exact Int.mul_ediv_cancel _ (by omega)
   rw [lp]
   by_cases c1 : (((pce n xs i).length : Nat) : Int) < ((n : Nat) : Int)
   ·rw [if_pos c1]
    refine iteP rfl ?_
    refine ⟨⟨by omega, by omega⟩, ?_⟩
    show Q (.int (((i * n : Nat) : Int) / ((n : Nat) : Int))) _
    rw [ed]
    refine qb i ⟨hi', ?_, hj⟩
    unfold okP
    rw [decide_eq_false (by omega), Bool.false_and]
   ·rw [if_neg c1]
    have e0 : (("" : Str)).length = 0 := by decide +kernel
    refine ⟨_, rfl, _, rfl, by rw [lp, e0]; omega, ?_⟩
    have lr : (Txt.replace (mkS (pce n xs i)) ("0" : Str) ("" : Str)).length ≤ 6 := by
     have e0 : ("0" : Str) = ⟨#[48]⟩ := by decide +kernel
     have e2 : ("" : Str) = ⟨#[]⟩ := by decide +kernel
     have := PyProof.Rows.replace_strikes (mkS (pce n xs i)) 48
     rw [← e0, ← e2, mkS_cps] at this
     have h1 : (Txt.replace (mkS (pce n xs i)) ("0" : Str) ("" : Str)).length = (Txt.replace (mkS (pce n xs i)) ("0" : Str) ("" : Str)).cps.toList.length := by simp [Str.length]
     rw [h1, this]
     exact Nat.le_trans (List.length_filter_le _ _) (by omega)
    refine ⟨_, rfl, by rw [e0]; omega, ?_⟩
    refine ⟨_, rfl, ?_⟩
    rw [repl_any]
    have eo : okP n (pce n xs i) = (pce n xs i).all is01 := by
     unfold okP
     rw [decide_eq_true (by omega), Bool.true_and]
    cases e : (pce n xs i).all is01 with
    | true =>
     refine iteF ?_
     refine ⟨⟨_, _, rfl⟩, rfl, fun j hj' => ?_⟩
     rcases Nat.lt_or_ge j i with z | z
     ·exact hj j z
     ·rw [show j = i by omega, eo]; exact e
    | false =>
     refine iteP rfl ?_
     refine ⟨⟨by omega, by omega⟩, ?_⟩
     show Q (.int (((i * n : Nat) : Int) / ((n : Nat) : Int))) _
     rw [ed]
     exact qb i ⟨hi', by rw [eo]; exact e, hj⟩
  ·rintro σ H2 ⟨⟨v2, v3, rfl⟩, rfl, hj⟩
   rw [List.length_map, List.length_range] at hj
   exact qa hj
 ·exact h.elim
end
end K35
end
section
namespace K35
open PySem L2
section
variable {P : Program} {w : World} {K : PySem.W.Frag} {mg : Str → Option Value} {base : Heap}
def Cl (K : PySem.W.Frag) (mg : Str → Option Value) (C : Addr) (x : Str) (b : Bool) : Prop := ∃ D, mg x = some (.ref D) ∧ PySem.W.kitOne K (.ref C) (.ref D) = some b
theorem Cl.at {K : PySem.W.Frag} {mg : Str → Option Value} {C D : Addr} {x : Str} {b : Bool} (h : Cl K mg C x b) (hm : mg x = some (.ref D)) : PySem.W.kitOne K (.ref C) (.ref D) = some b := by
 obtain ⟨D', h1, h2⟩ := h
 rw [hm] at h1
 cases h1
 exact h2
structure KindsOf (K : PySem.W.Frag) (mg : Str → Option Value) (C : Addr) (m : Nat) : Prop where
 z : PySem.W.ExCls K C
 k0 : Cl K mg C "NoLetter" (decide (0 = m))
 k1 : Cl K mg C "NoCode" (decide (1 = m))
 k2 : Cl K mg C "NoWindow" (decide (2 = m))
 k3 : Cl K mg C "NoMark" (decide (3 = m))
 k4 : Cl K mg C "NoText" (decide (4 = m))
 k5 : Cl K mg C "NoName" (decide (5 = m))
 k6 : Cl K mg C "NoRow" (decide (6 = m))
 k7 : Cl K mg C "NoWire" (decide (7 = m))
 k8 : PySem.W.kitOne K (.ref C) (.type "ValueError") = some true
end
end K35
end
section
namespace K35
open PySem L2
section
variable {P : Program} {w : World} {K : PySem.W.Frag} {mg : Str → Option Value} {base : Heap}
theorem tyN_same {H H' : Hp} {x : V} {T : String} (h : tyN H x = some T) (s : Same H H') : tyN H' x = some T := by
 cases x with
 | ref a =>
  have h1 : (match H a with | some (.lst _) => some "list" | some (.tup _) => some "tuple" | some (.dK _) => some "dict" | _ => none) = some T := h
  show (match H' a with | some (.lst _) => some "list" | some (.tup _) => some "tuple" | some (.dK _) => some "dict" | _ => none) = some T
  cases e : H a with
  | none => rw [e] at h1; cases h1
  | some o => rw [e] at h1; rw [s _ _ e]; exact h1
 | _ => exact h
def WrOk (H : Hp) (n : Nat) (x : V) : Prop := (∃ xs : List Nat, x = .str (mkS xs) ∧ xs.length ≤ 2000 ∧ pcs n xs ≤ 320) ∨ ∃ T, tyN H x = some T ∧ T ≠ "str"
def WBad (n : Nat) (x : V) (i : Nat) : Prop := match x with
 | .str z => FBad n z.cps.toList i
 | _ => i = 0
def WAll (n : Nat) (x : V) : Prop := match x with
 | .str z => AllP n z.cps.toList
 | _ => False
theorem wbad_mk {n i : Nat} {xs : List Nat} : WBad n (.str (mkS xs)) i ↔ FBad n xs i := by
 show FBad n (mkS xs).cps.toList i ↔ _
 rw [mkS_cps]
theorem wall_mk {n : Nat} {xs : List Nat} : WAll n (.str (mkS xs)) ↔ AllP n xs := by
 show AllP n (mkS xs).cps.toList ↔ _
 rw [mkS_cps]
theorem wbad_odd {H : Hp} {n i : Nat} {x : V} {T : String} (h : tyN H x = some T) (hne : T ≠ "str") : WBad n x i ↔ i = 0 := by
 cases x with
 | str z => exact absurd (Option.some.inj h) (fun z => hne z.symm)
 | _ => exact Iff.rfl
theorem wall_odd {H : Hp} {n : Nat} {x : V} {T : String} (h : tyN H x = some T) (hne : T ≠ "str") : ¬ WAll n x := by
 cases x with
 | str z => exact absurd (Option.some.inj h) (fun z => hne z.symm)
 | _ => exact id
theorem wholeW_thing {C : Addr} {cv x : V} {H : Hp} {Q : VK} {E : XK} {T : String} (h : tyN H x = some T) (hne : T ≠ "str") (q : ∀ d, H d = none → E (.ref C) (some d) (upd H d (.xd [("at", .int 0)]))) : spWholeW C [cv, x] H Q E := by
 cases x with
 | str z => exact absurd (Option.some.inj h) (fun z => hne z.symm)
 | _ => exact ⟨T, h, hne, q⟩
abbrev sReadBy : Stmt := top 31
def spReadBy (C0 C : Addr) : Sp := fun vs H Q E => match vs with
 | [cv, .int b0, .int a0, x] => ∃ (k n : Nat) (rows : Om.Rows) (b a : Nat), DV H cv (codeD k n rows) ∧ Om.CodeOk k n rows ∧ b0 = (b : Nat) ∧ a0 = (a : Nat) ∧ b ≤ 100 ∧ a ≤ 100 ∧ WrOk H n x ∧
   (¬ Om.Win rows b a → ∀ H', Same H H' → E (.ref C0) none H') ∧
   (Om.Win rows b a → ∀ i d H', WBad n x i → Same H H' → H' d = none → E (.ref C) (some d) (upd H' d (.xd [("at", .int (i : Nat))]))) ∧
   (Om.Win rows b a → WAll n x → ∀ v H', Same H H' → Q v H')
 | _ => False
theorem scReadBy : FnScope ["code", "back", "ahead", "wire", "words", "width"] ["code", "back", "ahead", "wire"] (defScope sReadBy) := ⟨rfl, rfl, rfl, by decide +kernel, rfl, by decide +kernel, by decide +kernel⟩
local macro_rules | `(tactic| walk_at "T.n") => `(tactic| with_reducible first | exact vn "place" 0 | exact vn "code" 1 | exact vn "words" 2 | exact vn "width" 3 | exact vn "back" 4)
local macro_rules | `(tactic| walk_at "T.gn") => `(tactic| with_reducible first | exact gn "place" 0 (by with_unfolding_all assumption))
local macro_rules | `(tactic| walk_at "T.c") => `(tactic| (have ndc : (["place", "code", "words", "width", "back"] : List Str).Nodup := (by decide +kernel)); ((with_reducible refine' c_comp ["place", "code", "words", "width", "back"] [0, 4, 5, 1] ?b1 ?b2 (fun cl C s H fp => ?b3) (fun cl C s H fp => ?b4) (fun cl C s H fp => ?b5)); (case b1 => exact ndc); (case b2 => walk_at "T.i"); (case b3 => walk_at "T.g"); (case b4 => walk_at "T.pf"); (case b5 => walk_at "T.e")))
local macro_rules | `(tactic| walk_at "T.n") => `(tactic| with_reducible first | exact vn "code" 0 | exact vn "back" 1 | exact vn "ahead" 2 | exact vn "wire" 3 | exact vn "words" 4 | exact vn "width" 5)
local macro_rules | `(tactic| walk_at "T.gn") => `(tactic| with_reducible first | exact gn "words" 4 (by with_unfolding_all assumption) | exact gn "width" 5 (by with_unfolding_all assumption))
local macro_rules | `(tactic| walk_at "T.b") => `(tactic| first | ((with_reducible refine' fn_canY "whole_words" ?a0 ?a1 ?a2); (case a0 => with_reducible assumption); (case a1 => exact Room.mono (by assumption) (by first | decide | exact Nat.le_refl _)); (case a2 => walk_at "T.a")) | fail "no")
local macro_rules | `(tactic| walk_at "T.st") => `(tactic| first | ((with_reducible refine' s_raiseP ?a0 ?a3 ?a6); (case a0 => with_reducible assumption); (case a3 => with_reducible assumption); (case a6 => walk_at "T.a")) | fail "no")
theorem ok_readBy {C0 C : Addr} (D : FnX K mg "read_by" sReadBy ["code", "back", "ahead", "wire"]) (g1 : mg "range" = none) (g2 : mg "len" = none) (c1 : Can P w K mg base "tells" 4 ["code", "back", "ahead"] spTells) (c2 : CanY P w K mg base "whole_words" 4 ["code", "wire"] (spWholeW C))
  (c3 : Can P w K mg base "letter_by" 3 ["code", "words", "back"] spLetBy) (Z0 : ExnOk K C0) (m0 : mg "NoWindow" = some (.ref C0)) : CanY P w K mg base "read_by" 5 ["code", "back", "ahead", "wire"] (spReadBy C0 C) := by
 refine canY_fn (k := 4) D scReadBy (fun vs H Q E h => ?_) (fun f cdv A outer s H vs Q E hr h => ?_)
 all_goals
  unfold spReadBy at h
  split at h
 ·rfl
 ·exact h.elim
 ·rename_i cv b0 a0 x
  obtain ⟨k, n, rows, b, a, hc, ok, rfl, rfl, b100, a100, hw, qn, qe, q⟩ := h
  have nd := scReadBy.nd
  refine ⟨_, (by walk_at "T.top"), ?_⟩
  refine ⟨b, a, rows, k, n, rfl, rfl, b100, a100, ok, hc, fun c H1 s1 hc1 => ?_⟩
  cases c with
  | false =>
   refine iteP rfl ?_
   exact ⟨by decide, qn (fun p => absurd (hc1.mpr p) (by decide)) H1 s1⟩
  | true =>
   have win : Om.Win rows b a := hc1.mp rfl
   have qe := qe win
   have q := q win
   refine iteF ?_
   rcases hw with ⟨xs, rfl, l2, p320⟩ | ⟨T, ht, hne⟩
   ·refine ⟨xs, k, n, rows, hc.mono s1, ok, rfl, l2, fun i d H' fb s' hd => qe i d H' (wbad_mk.mpr fb) (s1.trans s') hd, fun wv H2 al s2 wp => ?_⟩
    have q := q (wall_mk.mpr al)
    obtain ⟨cs, ex, hlc, hn, hp⟩ := allP_words ok.n1 (pcs n xs) rfl al
    have c400 : cs.length ≤ 400 := by omega
    have wl : WL H2 wv cs := by
     obtain ⟨l, rfl, h⟩ := wp
     refine ⟨l, rfl, ?_⟩
     rw [h]
     congr 2
     rw [← hlc]
     refine List.ext_getElem (by simp) fun i h1 h2 => ?_
     have h2' : i < cs.length := by simpa using h2
     rw [List.getElem_map, List.getElem_map, List.getElem_range, hp i h2']
     rfl
    obtain ⟨l, rfl, hl⟩ := wl
    refine ⟨_, lenL hl, ?_⟩
    rw [List.length_map]
    refine ⟨by omega, by omega, fun C hC => ?_⟩
    have s3 := s1.trans s2
    have rs : (((cs.length : Nat) : Int) - (((b : Nat) : Int) + 1 + ((a : Nat) : Int)) + 1).toNat = cs.length + 1 - (b + 1 + a) := by omega
    refine comp_by (it_range 0 _) (fun i τ H4 ys => (∃ v, τ = [v, some cv, some (.ref l), some (.int (((b : Nat) : Int) + 1 + ((a : Nat) : Int))), some (.int (b : Nat))]) ∧ Same H2 H4 ∧ H4 C = some (.lst ys) ∧ ys = ((Om.readL rows k b a cs).take i).map optV) (by rw [List.length_map, List.length_range]; exact le_line (by omega))
     ⟨⟨none, rfl⟩, Same.upd hC, upd_same, rfl⟩ ?_ ?_ ?_
    ·rintro i τ H4 ys hi ⟨_, s4, h4, rfl⟩
     refine ⟨trivial, h4, ?_⟩
     rw [List.length_map, List.length_take]
     omega
    ·rintro i x τ H4 ys hi hx ⟨⟨v, rfl⟩, s4, h4, rfl⟩
     have hi' : i < cs.length + 1 - (b + 1 + a) := by
      rw [List.length_map, List.length_range] at hi
      omega
     have ex : x = .int (i : Nat) := by
      rw [List.length_map, List.length_range] at hi
      rw [List.getElem?_map, List.getElem?_range hi] at hx
      have := (Option.some.inj hx).symm
      rw [this]; simp
     subst ex
     refine ⟨_, s4 _ _ hl, fun w2 hw2 => ?_⟩
     have e1 : ((b : Nat) : Int) + 1 + ((a : Nat) : Int) = ((b + 1 + a : Nat) : Int) := by omega
     have e2 : cutV (cs.map fun c => V.str (bs c)) (some ((i : Nat) : Int)) (some (((i : Nat) : Int) + (((b : Nat) : Int) + 1 + ((a : Nat) : Int)))) = ((cs.drop i).take (b + 1 + a)).map fun c => V.str (bs c) := by
      rw [e1, cut_any _ _ _ (by rw [List.length_map]; omega), List.map_take, List.map_drop]
     rw [e2]
     have s5 := s4.trans (Same.upd (o := .lst (((cs.drop i).take (b + 1 + a)).map fun c => V.str (bs c))) hw2)
     have ln : ((cs.drop i).take (b + 1 + a)).length = b + 1 + a := by rw [List.length_take, List.length_drop]; omega
     refine ⟨k, n, rows, _, b, hc.mono (s3.trans s5), ok, ⟨w2, rfl, upd_same⟩, rfl, by rw [ln]; omega, by rw [ln]; omega, fun H5 s6 => ?_⟩
     have h5 := s6 _ _ (Same.upd (o := .lst (((cs.drop i).take (b + 1 + a)).map fun c => V.str (bs c))) hw2 _ _ h4)
     refine ⟨h5, ⟨_, rfl⟩, ?_, upd_same, ?_⟩
     ·exact (s5.trans s6).own hC
     ·rw [List.take_add_one, Om.readL_at hi', List.map_append]; rfl
    ·rintro τ H4 ys ⟨_, s4, h4, rfl⟩
     rw [List.length_map, List.length_range, rs] at h4
     rw [List.take_of_length_le (by rw [Om.readL_len]; exact Nat.le_refl _)] at h4
     exact q _ _ (s3.trans s4)
   ·exact wholeW_thing (tyN_same ht s1) hne fun d hd => qe 0 d H1 ((wbad_odd ht hne).mpr rfl) s1 hd
 ·exact h.elim
end
end K35
end
section
namespace K35
open PySem L2
section
variable {P : Program} {w : World} {K : PySem.W.Frag} {mg : Str → Option Value} {base : Heap}
def wireS (i : Nat) : Str := ("wire " : Str) ++ strI (i : Nat)
theorem strI_lg {i : Nat} (h : i < 2048) : ((i : Nat) : Int).natAbs.log2 < 1920 := by
 rcases Nat.eq_zero_or_pos ((i : Nat) : Int).natAbs with e | e
 ·rw [e]; decide
 ·exact (Nat.log2_lt (by omega)).mpr (Nat.lt_of_lt_of_le (show ((i : Nat) : Int).natAbs < 2 ^ 11 by omega) (Nat.pow_le_pow_right (by decide) (by decide)))
theorem wireS_len {i : Nat} (h : i < 2048) : (("wire " : Str)).length + (strI ((i : Nat) : Int)).length ≤ sizeLine := by
 have := strI_short i h
 have e : (("wire " : Str)).length = 5 := rfl
 rw [e]
 exact le_line (by omega)
abbrev sClass : Stmt := top 49
def spClass (C0 C : Addr) : Sp := fun vs H Q _ => match vs with
 | [.ref x] => (H x = some (ExcD x (.ref C0) none) ∧ ∀ H', Same H H' → Q (.str ("window" : Str)) H') ∨ ∃ d i, i < 2048 ∧ H x = some (ExcD x (.ref C) (some d)) ∧ H d = some (.xd [("at", .int (i : Nat))]) ∧ ∀ H', Same H H' → Q (.str (wireS i)) H'
 | _ => False
theorem scClass : FnScope ["e"] ["e"] (defScope sClass) := ⟨rfl, rfl, rfl, by decide +kernel, rfl, by decide +kernel, by decide +kernel⟩
local macro_rules | `(tactic| walk_at "T.n") => `(tactic| with_reducible first | exact vn "e" 0)
local macro_rules | `(tactic| walk_at "T.b") => `(tactic| first | ((with_reducible refine' fn_isY ?a0 ?a9 ?a1); (case a0 => with_reducible assumption); (case a9 => rfl); (case a1 => walk_at "T.a")) | ((with_reducible refine' fn_str ?a0 ?a9 ?a1); (case a0 => with_reducible assumption); (case a9 => rfl); (case a1 => walk_at "T.a")) | fail "no")
local macro_rules | `(tactic| walk_at "T.e") => `(tactic| first | ((with_reducible refine' e_clsX "NoLetter" ?a0 ?a9); (case a0 => with_reducible assumption); (case a9 => rfl)) | ((with_reducible refine' e_clsX "NoCode" ?a0 ?a9); (case a0 => with_reducible assumption); (case a9 => rfl)) | ((with_reducible refine' e_clsX "NoWindow" ?a0 ?a9); (case a0 => with_reducible assumption); (case a9 => rfl)) | ((with_reducible refine' e_clsX "NoMark" ?a0 ?a9); (case a0 => with_reducible assumption); (case a9 => rfl)) | ((with_reducible refine' e_clsX "NoText" ?a0 ?a9); (case a0 => with_reducible assumption); (case a9 => rfl)) | ((with_reducible refine' e_clsX "NoName" ?a0 ?a9); (case a0 => with_reducible assumption); (case a9 => rfl)) | ((with_reducible refine' e_clsX "NoRow" ?a0 ?a9); (case a0 => with_reducible assumption); (case a9 => rfl)) | ((with_reducible refine' e_clsX "NoWire" ?a0 ?a9); (case a0 => with_reducible assumption); (case a9 => rfl)) | ((with_reducible refine' e_tyVE ?a0 ?a9); (case a0 => with_reducible assumption); (case a9 => rfl)) | ((with_reducible refine' e_at ?a1); (case a1 => walk_at "T.n")))
theorem ok_class {C0 C fI : Addr} (D : FnX K mg "_law_class" sClass ["e"]) (g1 : mg "isinstance" = none) (g3 : mg "ValueError" = none) (g4 : mg "str" = none) (K0 : KindsOf K mg C0 2) (K7 : KindsOf K mg C 7) (W : ExnI K C fI) (S : ExnS K C) : CanH P w K mg base "_law_class" 1 ["e"] (spClass C0 C) := by
 obtain ⟨D0, m0, _⟩ := K0.k0
 obtain ⟨D1, m1, _⟩ := K0.k1
 obtain ⟨D2, m2, _⟩ := K0.k2
 obtain ⟨D3, m3, _⟩ := K0.k3
 obtain ⟨D4, m4, _⟩ := K0.k4
 obtain ⟨D5, m5, _⟩ := K0.k5
 obtain ⟨D6, m6, _⟩ := K0.k6
 obtain ⟨D7, m7, _⟩ := K0.k7
 refine canH_fn (k := 0) D scClass (fun vs H Q E h => ?_) (fun yy f cdv A outer s H vs Q hr h => ?_)
 all_goals
  unfold spClass at h
  split at h
 ·rfl
 ·exact h.elim
 ·rename_i x
  have nd := scClass.nd
  refine ⟨_, (by walk_at "T.top"), ?_⟩
  rcases h with ⟨hx, q⟩ | ⟨d, i, i2, hx, hd, q⟩
  ·refine ⟨C0, _, true, K0.z, hx, K0.k8, ?_⟩
   refine iteF ?_
   refine ⟨le_line (Nat.le_of_ble_eq_true rfl), fun t ht => ?_⟩
   have s1 := Same.upd (o := .tup [.ref D1, .ref D0, .ref D3, .ref D5, .ref D6, .ref D4]) ht
   have ka : PySem.W.kitAny K (.ref C0) ([D1, D0, D3, D5, D6, D4].map Value.ref) = some false := by
    simp only [List.map_cons, List.map_nil, PySem.W.kitAny, K0.k1.at m1, K0.k0.at m0, K0.k3.at m3, K0.k5.at m5, K0.k6.at m6, K0.k4.at m4]
    rfl
   refine ⟨C0, _, false, K0.z, s1 _ _ hx, .inr ⟨[D1, D0, D3, D5, D6, D4], upd_same, ka⟩, ?_⟩
   refine iteF ?_
   refine ⟨C0, _, _, K0.z, s1 _ _ hx, .inl (K0.k2.at m2), ?_⟩
   refine ⟨C0, _, _, K0.z, s1 _ _ hx, .inl (K0.k7.at m7), ?_⟩
   refine ⟨C0, _, _, K0.z, s1 _ _ hx, .inl (K0.k2.at m2), ?_⟩
   exact q _ s1
  ·refine ⟨C, _, true, K7.z, hx, K7.k8, ?_⟩
   refine iteF ?_
   refine ⟨le_line (Nat.le_of_ble_eq_true rfl), fun t ht => ?_⟩
   have s1 := Same.upd (o := .tup [.ref D1, .ref D0, .ref D3, .ref D5, .ref D6, .ref D4]) ht
   have ka : PySem.W.kitAny K (.ref C) ([D1, D0, D3, D5, D6, D4].map Value.ref) = some false := by
    simp only [List.map_cons, List.map_nil, PySem.W.kitAny, K7.k1.at m1, K7.k0.at m0, K7.k3.at m3, K7.k5.at m5, K7.k6.at m6, K7.k4.at m4]
    rfl
   refine ⟨C, _, false, K7.z, s1 _ _ hx, .inr ⟨[D1, D0, D3, D5, D6, D4], upd_same, ka⟩, ?_⟩
   refine iteF ?_
   refine ⟨C, _, _, K7.z, s1 _ _ hx, .inl (K7.k2.at m2), ?_⟩
   refine ⟨C, _, _, K7.z, s1 _ _ hx, .inl (K7.k2.at m2), ?_⟩
   refine ⟨x, C, fI, d, .int (i : Nat), rfl, W, S, K7.z, s1 _ _ hx, s1 _ _ hd, strI_lg i2, wireS_len i2, ?_⟩
   exact q _ s1
 ·exact h.elim
end
section
variable {P : Program} {w : World} {K : PySem.W.Frag} {mg : Str → Option Value} {base : Heap}
abbrev sAsked : Stmt := top 50
def spAsked : Sp := fun vs H Q _ => match vs with
 | [cv, .ref wn, x] => ∃ (k n : Nat) (rows : Om.Rows) (b a : Nat), DV H cv (codeD k n rows) ∧ Om.CodeOk k n rows ∧ H wn = some (.tup [.int (b : Nat), .int (a : Nat)]) ∧ b ≤ 100 ∧ a ≤ 100 ∧ WrOk H n x ∧
   (¬ Om.Win rows b a → ∀ H', Same H H' → Q (.str ("window" : Str)) H') ∧ (Om.Win rows b a → ∀ i, WBad n x i → ∀ H', Same H H' → Q (.str (wireS i)) H') ∧ (Om.Win rows b a → WAll n x → ∀ H', Same H H' → Q (.str ("told" : Str)) H')
 | _ => False
theorem scAsked : FnScope ["code", "window", "thing", "word", "e"] ["code", "window", "thing"] (defScope sAsked) := ⟨rfl, rfl, rfl, by decide +kernel, rfl, by decide +kernel, by decide +kernel⟩
local macro_rules | `(tactic| walk_at "T.n") => `(tactic| with_reducible first | exact vn "code" 0 | exact vn "window" 1 | exact vn "thing" 2 | exact vn "word" 3 | exact vn "e" 4)
local macro_rules | `(tactic| walk_at "T.gn") => `(tactic| with_reducible first | exact gn "word" 3 (by with_unfolding_all assumption) | exact gn "e" 4 (by with_unfolding_all assumption))
local macro_rules | `(tactic| walk_at "T.b") => `(tactic| ((with_reducible refine' fn_canH "_law_class" ?a0 ?a9 ?a1 ?a2); (case a0 => with_reducible assumption); (case a9 => exact ⟨rfl, rfl, rfl, rfl, rfl⟩); (case a1 => exact Room.mono (by assumption) (by decide)); (case a2 => walk_at "T.a")))
local macro_rules | `(tactic| walk_at "T.pb") => `(tactic| ((with_reducible refine' pb_callY "read_by" ?c0 ?c9 ?c1 ?c2); (case c0 => with_reducible assumption); (case c9 => exact ⟨rfl, rfl, rfl, rfl, rfl⟩); (case c1 => exact Room.mono (by assumption) (by first | decide | exact Nat.le_refl _)); (case c2 => walk_at "T.a")))
local macro_rules | `(tactic| walk_at "T.st") => `(tactic| ((with_reducible refine' s_try2 "BeatError" "e" 4 ?b0 ?b9 ?b1 ?b2 (fun a => ?b3)); (case b0 => with_reducible assumption); (case b9 => rfl); (case b1 => with_unfolding_all assumption); (case b2 => walk_at "T.pb"); (case b3 => walk_at "T.s")))
theorem ok_asked (D : FnX K mg "_law_asked" sAsked ["code", "window", "thing"]) {C0 C B : Addr} (hB : mg "BeatError" = some (.ref B)) (hx0 : PySem.W.exmOne K (.ref C0) (.ref B) = some true) (hx : PySem.W.exmOne K (.ref C) (.ref B) = some true)
  (c1 : CanY P w K mg base "read_by" 5 ["code", "back", "ahead", "wire"] (spReadBy C0 C)) (c2 : CanH P w K mg base "_law_class" 1 ["e"] (spClass C0 C)) : Can P w K mg base "_law_asked" 6 ["code", "window", "thing"] spAsked := by
 refine can_fn (k := 5) D scAsked (fun vs H Q E h => ?_) (fun f cdv A outer s H vs Q E hr h => ?_)
 all_goals
  unfold spAsked at h
  split at h
 ·rfl
 ·exact h.elim
 ·rename_i cv wn x
  obtain ⟨k, n, rows, b, a, hc, ok, hwn, b1, a1, hw, qn, qe, q⟩ := h
  have nd := scAsked.nd
  refine ⟨_, (by walk_at "T.top"), ?_⟩
  refine ⟨_, gt hwn (by decide) rfl, _, gt hwn (by decide) rfl, ?_⟩
  refine ⟨k, n, rows, b, a, hc, ok, rfl, rfl, b1, a1, hw, fun nw H1 s1 => ⟨hx0, fun y ny => ?_⟩, fun wi i d H1 bad s1 hd => ⟨hx, fun y ny => ?_⟩, fun wi al v H1 s1 => ?_⟩
  ·refine .inl ⟨upd_same, fun H2 s2 => ?_⟩
   exact qn nw H2 ((s1.trans (Same.upd ny)).trans s2)
  ·have dy : d ≠ y := fun z => by rw [← z, upd_same] at ny; cases ny
   have i2 : i < 2048 := by
    rcases hw with ⟨xs, rfl, _, p3⟩ | ⟨T, ht, hne⟩
    ·have := (wbad_mk.mp bad).1
     omega
    ·have := (wbad_odd ht hne).mp bad
     omega
   refine .inr ⟨d, i, i2, upd_same, by rw [upd_ne dy, upd_same], fun H2 s2 => ?_⟩
   exact qe wi i bad H2 ((s1.trans ((Same.upd hd).trans (Same.upd ny))).trans s2)
  ·exact q wi al H1 s1
 ·exact h.elim
end
end K35
end
section
namespace K35
open PySem L2
section
variable {P : Program} {w : World} {K : PySem.W.Frag} {mg : Str → Option Value} {base : Heap}
abbrev sSpoilt : Stmt := top 51
def spSpoilt : Sp := fun vs H Q _ => match vs with
 | [.ref a, .str z] => ∃ xs : List Nat, z = mkS xs ∧ xs.length ≤ 1900 ∧ Sto H a ∧ ∀ (ys : List Nat) H', ys.length ≤ xs.length + 1 → Sto H' a → Off (At a) H H' → Q (.str (mkS ys)) H'
 | _ => False
theorem scSpoilt : FnScope ["store", "wire", "kind", "at"] ["store", "wire"] (defScope sSpoilt) := ⟨rfl, rfl, rfl, by decide +kernel, rfl, by decide +kernel, by decide +kernel⟩
local macro_rules | `(tactic| walk_at "T.n") => `(tactic| with_reducible first | exact vn "store" 0 | exact vn "wire" 1 | exact vn "kind" 2 | exact vn "at" 3)
local macro_rules | `(tactic| walk_at "T.gn") => `(tactic| with_reducible first | exact gn "wire" 1 (by with_unfolding_all assumption) | exact gn "kind" 2 (by with_unfolding_all assumption) | exact gn "at" 3 (by with_unfolding_all assumption))
theorem ok_spoilt (D : FnX K mg "_law_spoilt" sSpoilt ["store", "wire"]) (g2 : mg "len" = none) (c1 : Can P w K mg base "_law_take" 1 ["store", "many"] spTake) : Can P w K mg base "_law_spoilt" 2 ["store", "wire"] spSpoilt := by
 refine can_fn (k := 1) D scSpoilt (fun vs H Q E h => ?_) (fun f cdv A outer s H vs Q E hr h => ?_)
 all_goals
  unfold spSpoilt at h
  split at h
 ·rfl
 ·exact h.elim
 ·rename_i a z
  obtain ⟨xs, rfl, l19, st, q⟩ := h
  have nd := scSpoilt.nd
  refine ⟨_, (by walk_at "T.top"), ?_⟩
  have M0 := Gh.start st
  refine ⟨st, by decide, by decide, fun r H1 r0 r1 d1 o1 => ?_⟩
  have M1 := M0.take d1 o1
  dsimp only [gName]
  refine seq_by (fun σ H2 => ∃ ys : List Nat, σ = [some (.ref a), some (.str (mkS ys)), some (.int r), none] ∧ Gh (fun _ => none) H H2 a ∧ ys.length ≤ xs.length) ?_ (fun fin => ?_)
  ·rintro σ H2 ⟨ys, rfl, M2, yl⟩
   have lx := mkS_len ys
   refine ite2 (fun h3 => ?_) (fun h3 => ?_)
   ·refine ⟨_, lenStr (by rw [lx]; exact le_lineB (by omega)), ?_⟩
    rw [lx]
    refine ⟨M2.st, by omega, by omega, fun p H3 p0 p1 d3 o3 => ?_⟩
    have M3 := M2.take d3 o3
    dsimp only [gName]
    refine ⟨by rw [lx]; exact le_lineB (by omega), ?_⟩
    rw [slice_to ys p p0 (by omega)]
    refine ⟨M3.st, by decide, by decide, fun i H4 i0 i1 d4 o4 => ?_⟩
    have M4 := M3.take d4 o4
    have hc : ∃ c, getV H4 (.str ("2 -aO~.>x" : Str)) i = some (.str (mkS [c])) := by
     have : i = 0 ∨ i = 1 ∨ i = 2 ∨ i = 3 ∨ i = 4 ∨ i = 5 ∨ i = 6 ∨ i = 7 ∨ i = 8 := by omega
     have hz : (("2 -aO~.>x" : Str)).length ≤ sizeLine := by decide +kernel
     have hl : (("2 -aO~.>x" : Str)).cps.toList = [50, 32, 45, 97, 79, 126, 46, 62, 120] := by decide +kernel
     show ∃ c, (if (("2 -aO~.>x" : Str)).length ≤ sizeLine then (atI (("2 -aO~.>x" : Str)).cps.toList i).map (fun c => V.str ⟨#[c]⟩) else none) = some (.str (mkS [c]))
     rw [if_pos hz, hl]
     rcases this with rfl | rfl | rfl | rfl | rfl | rfl | rfl | rfl | rfl <;> exact ⟨_, rfl⟩
    obtain ⟨c, hc⟩ := hc
    refine ⟨_, hc, ?_⟩
    have l1 : (ys.take p.toNat).length ≤ ys.length := by rw [List.length_take]; omega
    refine ⟨by rw [mkS_len, mkS_len]; exact le_lineB (by simp only [List.length_singleton]; omega), ?_⟩
    rw [mkS_app]
    refine ⟨M4.st, by decide, by decide, fun t H5 t0 t1 d5 o5 => ?_⟩
    have M5 := M4.take d5 o5
    refine ⟨by rw [lx]; exact le_lineB (by omega), ?_⟩
    rw [slice_from ys (p + t) (by omega)]
    have l2 : (ys.take p.toNat ++ [c] ++ ys.drop (p + t).toNat).length ≤ ys.length + 1 := by
     rw [List.length_append, List.length_append, List.length_take, List.length_drop, List.length_singleton]
     have : p.toNat ≤ (p + t).toNat := by omega
     omega
    refine ⟨by rw [mkS_len, mkS_len]; rw [List.length_append] at l2; exact le_lineB (by omega), ?_⟩
    rw [mkS_app]
    exact q _ _ (by omega) M5.st M5.o
   ·exact q _ _ (by omega) M2.st M2.o
  ·refine ite2 (fun h3 => ?_) (fun h3 => ?_)
   ·have lx := mkS_len xs
    refine ⟨_, lenStr (by rw [lx]; exact le_lineB (by omega)), ?_⟩
    rw [lx]
    refine ⟨M1.st, by omega, by omega, fun p H3 p0 p1 d3 o3 => ?_⟩
    have M3 := M1.take d3 o3
    refine ⟨by rw [lx]; exact le_lineB (by omega), ?_⟩
    obtain ⟨m, em⟩ := slice_to_any xs ((xs.length : Int) - p) (by omega)
    rw [em]
    exact fin _ _ ⟨_, rfl, M3, by rw [List.length_take]; omega⟩
   ·exact fin _ _ ⟨xs, rfl, M1, Nat.le_refl _⟩
 ·exact h.elim
end
end K35
end
section
namespace L2
open PySem PySem.Spec PyProof.Rows
section
variable {X : Cx}
theorem op_notInTu (hu : X.A.units + 64 < cLine) : OpR X (compareOp .NotIn) (rInT true) := by
 intro pins s σ H x y v u Q I rx ry h
 obtain ⟨a, p, k, xs, rfl, rfl, ha, hp, hx, q⟩ := h
 cases ry
 cases rx
 obtain ⟨its, r, pl, hz⟩ := I.list (SqL.of hp)
 have hu1 : X.A.in1.units < cLine := tupleKind_room_in1 (A := X.A) (knd := mixKind X.prog X.w) (by omega)
 refine SeqAt.notIn_listAt (eqT H k) pl.isList (fun w hw => mem_eqT hu1 I.hok ha r hx w (by simpa using hw)) ⟨.bl _, H, I, rfl, ?_⟩
 have e : its.toArray.any (eqT H k) = its.any (eqT H k) := by simp
 rw [e]
 exact q _ (any_eqT r hx)
end
end L2
end
section
namespace K35
open PySem L2
section
variable {P : Program} {w : World} {K : PySem.W.Frag} {mg : Str → Option Value} {base : Heap}
theorem eqv_nilR (ds : List PyData) : PyData.eqv (.list ds) (.list []) = decide (ds = []) := by
 rw [PyData.eqv]
 cases ds <;> simp [PyData.eqvAll]
theorem wins_mem {rows : Om.Rows} {b a : Nat} (h : b + a ≤ 6) : (b, a) ∈ Om.wins rows ↔ Om.Win rows b a := by
 unfold Om.wins
 rw [List.mem_filter]
 exact ⟨fun z => Om.wf_iff.mp z.2, fun z => ⟨Om.allW_mem b (by omega) a (by omega), Om.wf_iff.mpr z⟩⟩
theorem wins_le {rows : Om.Rows} {p : Nat × Nat} (h : p ∈ Om.wins rows) : p.1 + p.2 ≤ 6 := by
 have h1 := (List.mem_filter.mp h).1
 have : ∀ p ∈ Om.allW, p.1 + p.2 ≤ 6 := by decide
 exact this p h1
theorem wire0 : wireS 0 = ("wire 0" : Str) := by decide +kernel
theorem asked_by {cv x : V} {wn : Addr} {H : Hp} {Q : VK} {E : XK} {k n : Nat} {rows : Om.Rows} {b a : Nat} {due : Str} (hc : DV H cv (codeD k n rows)) (ok : Om.CodeOk k n rows) (hw : H wn = some (.tup [.int (b : Nat), .int (a : Nat)])) (b1 : b ≤ 100) (a1 : a ≤ 100) (hx : WrOk H n x)
  (hd : (¬ Om.Win rows b a ∧ due = ("window" : Str)) ∨ (Om.Win rows b a ∧ ((∃ i, WBad n x i ∧ due = wireS i) ∨ (WAll n x ∧ due = ("told" : Str))))) (un : ∀ i j, WBad n x i → WBad n x j → i = j) (na : ∀ i, WBad n x i → ¬ WAll n x)
  (q : ∀ H', Same H H' → Q (.str due) H') : spAsked [cv, .ref wn, x] H Q E := by
 refine ⟨k, n, rows, b, a, hc, ok, hw, b1, a1, hx, fun nw H' s => ?_, fun wi i bad H' s => ?_, fun wi al H' s => ?_⟩
 ·rcases hd with ⟨_, rfl⟩ | ⟨wi, _⟩
  ·exact q H' s
  ·exact absurd wi nw
 ·rcases hd with ⟨nw, _⟩ | ⟨_, ⟨j, bj, rfl⟩ | ⟨al, rfl⟩⟩
  ·exact absurd wi nw
  ·rw [un i j bad bj]
   exact q H' s
  ·exact absurd al (na i bad)
 ·rcases hd with ⟨nw, _⟩ | ⟨_, ⟨j, bj, rfl⟩ | ⟨_, rfl⟩⟩
  ·exact absurd wi nw
  ·exact absurd al (na j bj)
  ·exact q H' s
abbrev sLaw : Stmt := top 52
def spLaw (K : PySem.W.Frag) : Sp := fun vs H Q _ => match vs with
 | [.ref a] => ∃ ns : List Int, SqL K H a (ns.map V.int) ∧ ns.length ≤ 63 ∧ ∀ H', Q (.bl true) H'
 | _ => False
theorem scLaw : FnScope ["script", "at", "store", "code", "place", "text", "wire", "windows", "back", "window", "fault", "due", "things", "odd"] ["script"] (defScope sLaw) := ⟨rfl, rfl, rfl, by decide +kernel, rfl, by decide +kernel, by decide +kernel⟩
local macro_rules | `(tactic| walk_at "T.n") => `(tactic| with_reducible first | exact vn "script" 0 | exact vn "at" 1 | exact vn "store" 2 | exact vn "code" 3 | exact vn "place" 4 | exact vn "text" 5 | exact vn "wire" 6 | exact vn "windows" 7 | exact vn "back" 8 | exact vn "window" 9 | exact vn "fault" 10 | exact vn "due" 11 | exact vn "things" 12 | exact vn "odd" 13)
local macro_rules | `(tactic| walk_at "T.gn") => `(tactic| with_reducible first | exact gn "at" 1 (by with_unfolding_all assumption) | exact gn "store" 2 (by with_unfolding_all assumption) | exact gn "code" 3 (by with_unfolding_all assumption) | exact gn "place" 4 (by with_unfolding_all assumption) | exact gn "text" 5 (by with_unfolding_all assumption) | exact gn "wire" 6 (by with_unfolding_all assumption) | exact gn "windows" 7 (by with_unfolding_all assumption) | exact gn "back" 8 (by with_unfolding_all assumption) | exact gn "window" 9 (by with_unfolding_all assumption) | exact gn "fault" 10 (by with_unfolding_all assumption) | exact gn "due" 11 (by with_unfolding_all assumption) | exact gn "things" 12 (by with_unfolding_all assumption) | exact gn "odd" 13 (by with_unfolding_all assumption))
local macro_rules | `(tactic| walk_at "T.b") => `(tactic| first | ((with_reducible refine' fn_lenW ?a0 ?a9 ?a1); (case a0 => with_reducible assumption); (case a9 => rfl); (case a1 => walk_at "T.a")) | ((with_reducible refine' fn_str ?a0 ?a9 ?a1); (case a0 => with_reducible assumption); (case a9 => rfl); (case a1 => walk_at "T.a")) | fail "no")
local macro_rules | `(tactic| walk_at "T.c") => `(tactic| (with_reducible exact e_dict))
local macro_rules | `(tactic| walk_at "T.cmp") => `(tactic| ((with_reducible refine' op_notInTu ?a0); (case a0 => exact Room.units (by assumption))))
theorem ok_law {f : Addr} {fd : FuncData} (D : Fun K "law" "law" sLaw f fd) (g1 : mg "range" = none) (g2 : mg "len" = none) (g3 : mg "min" = none) (g4 : mg "max" = none) (g5 : mg "str" = none)
  (c1 : Can P w K mg base "_law_cell" 1 ["script", "k"] (spCell K)) (c2 : Can P w K mg base "_law_store" 1 ["cell"] spStore) (c3 : Can P w K mg base "_law_take" 1 ["store", "many"] spTake) (c4 : Can P w K mg base "_law_code" 3 ["store", "most"] spCodeS)
  (c5 : Can P w K mg base "_law_rows" 2 ["store", "code", "most"] spRowsL) (c6 : Can P w K mg base "_law_sent" 1 ["code", "place", "text"] spSentL) (c7 : Can P w K mg base "_law_spoilt" 2 ["store", "wire"] spSpoilt) (c8 : Can P w K mg base "_law_windows" 2 ["code"] spWindows) (c9 : Can P w K mg base "_law_fault" 1 ["wire", "n"] spFault)
  (c10 : Can P w K mg base "_law_asked" 6 ["code", "window", "thing"] spAsked) : FnOk P w K mg base CX0 7 f fd ["script"] (spLaw K) := by
 refine D.ok (k := 6) scLaw (fun vs H Q E h => ?_) (fun cdv A outer s H vs Q E hr h => ?_)
 all_goals
  unfold spLaw at h
  split at h
 ·rfl
 ·exact h.elim
 ·rename_i sc
  obtain ⟨ns, hS, hl, q⟩ := h
  have nd := scLaw.nd
  refine ⟨_, (by walk_at "T.top"), ?_⟩
  refine .inl ⟨_, _, rfl, hS, ?_⟩
  have b8 : ∀ m : Int, (if (12 : Int) < m then (12 : Int) else m) ≤ 12 := fun m => by split <;> omega
  refine ⟨by split <;> split <;> omega, by split <;> split <;> omega, for_by (it_range 0 _) (fun i σ H2 => ∃ (v1 v2 v3 v4 v5 v6 v7 v8 v9 v10 v11 v12 v13 : Option V), σ = [some (.ref sc), v1, v2, v3, v4, v5, v6, v7, v8, v9, v10, v11, v12, v13] ∧ SqL K H2 sc (ns.map V.int))
   ⟨none, none, none, none, none, none, none, none, none, none, none, none, none, rfl, hS⟩ (fun _ _ _ _ _ => trivial) ?_ ?_⟩
  ·rintro i z σ H0 hi hz ⟨v1, v2, v3, v4, v5, v6, v7, v8, v9, v10, v11, v12, v13, rfl, hS0⟩
   rw [List.length_map, List.length_range] at hi
   have ez : z = .int (i : Nat) := by
    rw [List.getElem?_map, List.getElem?_range hi] at hz
    have := (Option.some.inj hz).symm
    rw [this]; simp
   subst ez
   have hi8 : i < 12 := by
    have := b8 (if (3 : Int) > (((ns.map V.int).length : Nat) : Int) then 3 else (((ns.map V.int).length : Nat) : Int))
    omega
   refine ⟨ns, hS0, by omega, by omega, fun c => ?_⟩
   intro a g b ha
   refine ⟨⟨_, _, _, upd_same⟩, by decide, by decide, fun cv k n rows G H1 ok rl dv M1 => ?_⟩
   have S0 : Same H0 H1 := fun b u e => M1.o b u (Same.upd ha _ _ e) (ne_of_none e ha)
   have s8 := ok.s8
   have n1 := ok.n1
   have n6 := ok.n6
   have A1 : Gh G H1 H1 a := ⟨M1.s, M1.ga, M1.st, Off.refl⟩
   obtain ⟨ca, cb, ss, rfl, hca, hcb, hss⟩ := code_inv dv
   refine ⟨k, n, rows, G, dv, ok, A1, by decide, by decide, fun p t pl ls H2 M2 hpl l50 hls hp ht ta => ?_⟩
   refine ⟨_, .inl hp, rfl, rfl, ?_⟩
   dsimp only [gName]
   refine seq_by (fun σ H3 => ∃ (t' : Addr) (ls' : List Nat), σ = [some (.ref sc), some (.int (i : Nat)), some (.ref a), some (.ref ca), some (.int (pl : Nat)), some (.ref t'), v6, v7, v8, v9, v10, v11, v12, v13] ∧ Gh G H1 H3 a ∧ ls'.length ≤ 300 ∧ (∀ l ∈ ls', l < 2 ^ k) ∧ t' ≠ a ∧ H3 t' = some (.lst ((ni ls').map V.int))) ?_ (fun fin => ?_)
   rotate_left
   ·have noth : ∀ H', Gh G H1 H' a → H' t = some (.lst ((ni ls).map V.int)) → _ := fun H' M' ht' => fin [some (.ref sc), some (.int (i : Nat)), some (.ref a), some (.ref ca), some (.int (pl : Nat)), some (.ref t), v6, v7, v8, v9, v10, v11, v12, v13] H' ⟨t, ls, rfl, M', by omega, hls, ta, ht'⟩
    have nl : ((ni ls).map V.int).length = ls.length := by unfold ni; simp
    refine ⟨_, gt (M2.s _ _ hca) (by decide) rfl, ?_⟩
    refine ite2 (fun _ => ?_) (fun _ => iteF (noth _ M2 ht))
    refine ⟨Nat.zero_le _, fun y2 hy2 => ?_⟩
    have M3 := M2.new (o := .lst []) hy2
    have ht3 := Same.upd (o := .lst []) hy2 _ _ ht
    refine ⟨_, _, ints_DV ht3, ints_DV (ns := []) upd_same, ints_shaped _, ints_shaped _, ?_⟩
    rw [eqv_ints]
    generalize upd H2 y2 (.lst []) = H3 at *
    refine ite2 (fun h2 => ?_) (fun h2 => iteF ?_)
    ·have lpos : 0 < ls.length := by
      cases ls with
      | nil => exact absurd h2 (by simp [ni])
      | cons _ _ => simp
     refine ⟨M3.st, by decide, by decide, fun r H4 r0 r1 d4 o4 => ?_⟩
     have M4 := M3.take d4 o4
     have ht4 := o4 _ _ ht3 ta
     refine ite2 (fun h3 => ?_) (fun h3 => ?_)
     ·refine .inr ⟨_, lenL ht4, ?_⟩
      rw [nl]
      refine ⟨⟨by omega, by omega⟩, ?_⟩
      have e3 : (300 : Int) / ((ls.length : Nat) : Int) = ((300 / ls.length : Nat) : Int) := (Int.natCast_ediv 300 ls.length).symm
      have le3 : ls.length * (300 / ls.length) ≤ 300 := Nat.mul_div_le _ _
      have le4 : 300 / ls.length ≤ 300 := Nat.div_le_self _ _
      dsimp only [tC]
      rw [e3]
      generalize 300 / ls.length = dd at *
      refine ⟨_, ht4, by omega, by omega, by rw [nl, Int.toNat_natCast]; exact le_line (by omega), fun y3 hy3 => ?_⟩
      have M5 := M4.new (o := .lst (List.replicate ((dd : Nat) : Int).toNat ((ni ls).map V.int)).flatten) hy3
      refine fin _ _ ⟨y3, (List.replicate dd ls).flatten, rfl, M5, ?_, fun l hl => ?_, M4.ne hy3, ?_⟩
      ·rw [List.length_flatten, List.map_replicate, List.sum_replicate_nat]
       rw [Nat.mul_comm]; omega
      ·obtain ⟨x, hx, hl'⟩ := List.mem_flatten.mp hl
       rw [(List.mem_replicate.mp hx).2] at hl'
       exact hls l hl'
      ·rw [upd_same, Int.toNat_natCast]
       unfold ni
       simp [List.map_flatten, List.map_replicate]
     ·exact noth _ M4 ht4
    ·exact noth _ M3 ht3
   rintro σ H3 ⟨t', ls', rfl, M3, l3, hls', ta', ht'⟩
   refine ⟨k, n, rows, pl, ls', dv.mono M3.s, ok, rfl, hpl, ht', by omega, hls', fun p2 H4 s4 hp2 => ?_⟩
   refine ⟨_, gt hp2 (by decide) rfl, ?_⟩
   have M4 := M3.same s4
   have w0 : (Om.send rows pl ls').1 = (Om.words rows pl ls').flatten := by rw [Om.words_flat]
   have wl : (Om.words rows pl ls').length = ls'.length := Om.words_len ..
   have wn := Om.words_n ok hpl hls'
   have fl := Om.flatB_len wn
   have big : (Om.words rows pl ls').length * n ≤ 300 * n := Nat.mul_le_mul_right _ (by omega)
   have big2 : 300 * n ≤ 1800 := by omega
   have wlen : ((Om.send rows pl ls').1.map sg).length ≤ 300 * n := by rw [List.length_map, w0, fl]; exact big
   refine ⟨(Om.send rows pl ls').1.map sg, rfl, by omega, M4.st, fun xs H5 xl d5 o5 => ?_⟩
   have M5 := M4.take d5 o5
   have x301 : xs.length ≤ 300 * n + 1 := by omega
   have p320 : pcs n xs ≤ 320 := by
    have : n = 1 ∨ n = 2 ∨ n = 3 ∨ n = 4 ∨ n = 5 ∨ n = 6 := by omega
    unfold pcs
    rcases this with rfl | rfl | rfl | rfl | rfl | rfl <;> omega
   clear hp2 s4 M3 ht' hp ht w0 wl wn fl big wlen xl M4
   refine ⟨k, n, rows, dv.mono M5.s, ok, fun wl wx H6 s6 hwl dw => ?_⟩
   have M6 := M5.same s6
   have wa : wl ≠ a := fun z => by
    obtain ⟨x0, x1, x2, e⟩ := M6.st
    rw [z, e] at hwl
    injection hwl with hwl
    injection hwl with hwl
    rw [← hwl] at dw
    have := dw.length
    cases hq : Om.wins rows with
    | nil => rw [hq] at this; simp at this
    | cons p ps =>
     rw [hq] at dw
     cases dw with
     | cons h _ => cases h
   have wlen : wx.length = (Om.wins rows).length := by rw [dw.length, List.length_map]
   have w28 : (Om.wins rows).length ≤ 28 := Nat.le_trans (List.length_filter_le _ _) (by decide)
   refine ⟨M6.st, by decide, by decide, fun bk H7 bk0 bk1 d7 o7 => ?_⟩
   have M7 := M6.take d7 o7
   have hwl7 := o7 _ _ hwl wa
   have dw7 := pairs_off dw M6.st o7
   refine ⟨M7.st, by omega, by omega, fun ak H8 ak0 ak1 d8 o8 => ?_⟩
   have M8 := M7.take d8 o8
   have hwl8 := o8 _ _ hwl7 wa
   have dw8 := pairs_off dw7 M7.st o8
   clear hwl hwl7 dw dw7 M6 M7 d7 o7 d8 o8
   refine ⟨le_line (Nat.le_of_ble_eq_true rfl), fun q1 hq1 => ?_⟩
   have z9 := Same.upd (o := .tup [.int bk, .int ak]) hq1
   have M9 := M8.new (o := .tup [.int bk, .int ak]) hq1
   have hq9 : upd H8 q1 (.tup [.int bk, .int ak]) q1 = some (.tup [.int bk, .int ak]) := upd_same
   have hwl9 := z9 _ _ hwl8
   have dw9 := dw8.mono z9
   have qa : q1 ≠ a := M8.ne hq1
   generalize upd H8 q1 (.tup [.int bk, .int ak]) = H9 at *
   clear z9 hwl8 dw8 M8 hq1
   obtain ⟨b1, rfl⟩ : ∃ b1 : Nat, bk = (b1 : Int) := ⟨bk.toNat, by omega⟩
   obtain ⟨a1, rfl⟩ : ∃ a1 : Nat, ak = (a1 : Int) := ⟨ak.toNat, by omega⟩
   dsimp only [gName]
   refine seq_by (fun σ H10 => ∃ (wn : Addr) (b2 a2 : Nat), σ = [some (.ref sc), some (.int (i : Nat)), some (.ref a), some (.ref ca), some (.int (pl : Nat)), some (.ref t'), some (.str (mkS xs)), some (.ref wl), some (.int (b1 : Nat)), some (.ref wn), v10, v11, v12, v13] ∧ Gh G H1 H10 a ∧ b2 + a2 ≤ 6 ∧ H10 wn = some (.tup [.int (b2 : Nat), .int (a2 : Nat)]) ∧ H10 wl = some (.lst wx) ∧ DVs H10 wx ((Om.wins rows).map pairD)) ?_ (fun fin2 => ?_)
   rotate_left
   ·refine ⟨Nat.zero_le _, fun y2 hy2 => ?_⟩
    have z10 := Same.upd (o := .lst []) hy2
    have M10 := M9.new (o := .lst []) hy2
    have hn10 : upd H9 y2 (.lst []) y2 = some (.lst []) := upd_same
    have hq10 := z10 _ _ hq9
    have hwl10 := z10 _ _ hwl9
    have dw10 := dw9.mono z10
    generalize upd H9 y2 (.lst []) = H10 at *
    refine ⟨_, .list [], .lst hwl10 dw10, .lst hn10 .nil, pairs_shaped _, pairs_shaped [], ?_⟩
    rw [eqv_nilR]
    refine ite2 (fun h2 => ?_) (fun h2 => iteF ?_)
    ·have lpos : 0 < (Om.wins rows).length := by
      cases hq : Om.wins rows with
      | nil => rw [hq] at h2; exact absurd h2 (by simp)
      | cons _ _ => simp
     refine ⟨M10.st, by decide, by decide, fun r H11 r0 r1 d11 o11 => ?_⟩
     have M11 := M10.take d11 o11
     have hq11 := o11 _ _ hq10 qa
     have hwl11 := o11 _ _ hwl10 wa
     have dw11 := pairs_off dw10 M10.st o11
     refine ite2 (fun h3 => ?_) (fun h3 => ?_)
     ·refine .inr ⟨_, lenL hwl11, ?_⟩
      rw [wlen]
      refine ⟨M11.st, by omega, by omega, fun j H12 j0 j1 d12 o12 => ?_⟩
      have M12 := M11.take d12 o12
      have hwl12 := o12 _ _ hwl11 wa
      have dw12 := pairs_off dw11 M11.st o12
      have hj : j.toNat < (Om.wins rows).length := by omega
      obtain ⟨v, hv, dvp⟩ := dw12.get (i := j.toNat) (d := pairD (Om.wins rows)[j.toNat]) (by rw [List.getElem?_map, List.getElem?_eq_getElem hj]; rfl)
      have le6 := wins_le (List.getElem_mem hj)
      obtain ⟨wn, rfl, hwn⟩ := pair_inv dvp
      refine ⟨_, gl hwl12 j0 hv, ?_⟩
      exact fin2 _ _ ⟨wn, _, _, rfl, M12, le6, hwn, hwl12, dw12⟩
     ·exact fin2 _ _ ⟨q1, b1, a1, rfl, M11, by omega, hq11, hwl11, dw11⟩
    ·exact fin2 _ _ ⟨q1, b1, a1, rfl, M10, by omega, hq10, hwl10, dw10⟩
   rintro σ H10 ⟨wn, b2, a2, rfl, M10, le6, hwn, hwl10, dw10⟩
   clear hq9 hwl9 dw9 M9 qa
   refine seq_by (fun σ H11 => ∃ vf : V, σ = [some (.ref sc), some (.int (i : Nat)), some (.ref a), some (.ref ca), some (.int (pl : Nat)), some (.ref t'), some (.str (mkS xs)), some (.ref wl), some (.int (b1 : Nat)), some (.ref wn), some vf, v11, v12, v13] ∧ H11 = H10 ∧ ((AllP n xs ∧ vf = .non) ∨ ∃ m, FBad n xs m ∧ vf = .int ((m : Nat) : Int))) ?_ (fun fin3 => ?_)
   rotate_left
   ·refine ⟨_, gt (M10.s _ _ hca) (by decide) rfl, ?_⟩
    refine ⟨xs, n, rfl, rfl, n1, n6, by omega, fun m fb => ?_, fun al => ?_⟩
    ·exact fin3 _ _ ⟨_, rfl, rfl, .inr ⟨m, fb, rfl⟩⟩
    ·exact fin3 _ _ ⟨_, rfl, rfl, .inl ⟨al, rfl⟩⟩
   rintro σ H11 ⟨vf, rfl, rfl, hf⟩
   refine seq_by (fun σ H12 => σ = [some (.ref sc), some (.int (i : Nat)), some (.ref a), some (.ref ca), some (.int (pl : Nat)), some (.ref t'), some (.str (mkS xs)), some (.ref wl), some (.int (b1 : Nat)), some (.ref wn), some vf, some (.str ("told" : Str)), v12, v13] ∧ H12 = H11) ?_ (fun fin3 => ?_)
   rotate_left
   ·exact fin3 _ _ ⟨rfl, rfl⟩
   rintro σ H12 ⟨rfl, rfl⟩
   refine seq_by (fun σ H11 => ∃ due : Str, σ = [some (.ref sc), some (.int (i : Nat)), some (.ref a), some (.ref ca), some (.int (pl : Nat)), some (.ref t'), some (.str (mkS xs)), some (.ref wl), some (.int (b1 : Nat)), some (.ref wn), some vf, some (.str due), v12, v13] ∧ H11 = H12 ∧ ((AllP n xs ∧ due = ("told" : Str)) ∨ ∃ m, FBad n xs m ∧ due = wireS m)) ?_ (fun fin3 => ?_)
   rotate_left
   ·dsimp only [tSeq, tIfS, tAnd, tOr, tBU, tOp, tV, tC, rIsU, rIsNotU, tNext, tAsg, gName]
    rcases hf with ⟨al, rfl⟩ | ⟨m, fb, rfl⟩
    ·refine if_negP (c := (!decide (V.non = V.non)) = true) (by simp) ?_
     exact fin3 _ _ ⟨_, rfl, rfl, .inl ⟨al, rfl⟩⟩
    ·refine iteP (c := (!decide (V.int ((m : Nat) : Int) = V.non)) = true) (by simp) ?_
     have m2 : m < 2048 := by have := fb.1; omega
     refine ⟨strI_lg m2, wireS_len m2, ?_⟩
     exact fin3 _ _ ⟨wireS m, rfl, rfl, .inr ⟨m, fb, rfl⟩⟩
   rintro σ H11 ⟨due, rfl, rfl, hd⟩
   refine ⟨le_line (Nat.le_of_ble_eq_true rfl), fun q1 hq1 => ?_⟩
   have N1 := M10.new (o := .lst [.str ("01" : Str)]) hq1
   have w1 := Same.upd (o := .lst [.str ("01" : Str)]) hq1
   have h1 : upd H11 q1 (.lst [.str ("01" : Str)]) q1 = some (.lst [.str ("01" : Str)]) := upd_same
   have aa1 : q1 ≠ a := M10.ne hq1
   generalize upd H11 q1 (.lst [.str ("01" : Str)]) = I1 at *
   refine ⟨le_line (Nat.le_of_ble_eq_true rfl), fun q2 hq2 => ?_⟩
   have N2 := N1.new (o := .tup [.str ("0" : Str), .str ("1" : Str)]) hq2
   have w2 := Same.upd (o := .tup [.str ("0" : Str), .str ("1" : Str)]) hq2
   have h12 := w2 _ _ h1
   have h2 : upd I1 q2 (.tup [.str ("0" : Str), .str ("1" : Str)]) q2 = some (.tup [.str ("0" : Str), .str ("1" : Str)]) := upd_same
   have aa2 : q2 ≠ a := N1.ne hq2
   generalize upd I1 q2 (.tup [.str ("0" : Str), .str ("1" : Str)]) = I2 at *
   intro q3 hq3
   have N3 := N2.new (o := .dK []) hq3
   have w3 := Same.upd (o := .dK []) hq3
   have h13 := w3 _ _ h12
   have h23 := w3 _ _ h2
   have h3 : upd I2 q3 (.dK []) q3 = some (.dK []) := upd_same
   have aa3 : q3 ≠ a := N2.ne hq3
   generalize upd I2 q3 (.dK []) = I3 at *
   refine ⟨⟨by decide, by decide, by decide⟩, ?_⟩
   refine ⟨le_line (Nat.le_of_ble_eq_true rfl), fun q4 hq4 => ?_⟩
   have N4 := N3.new (o := .lst [.non, .int 0, .int 1, .bl true, .ref q1, .ref q2, .ref q3, .int (10 ^ (30 : Int).toNat)]) hq4
   have w4 := Same.upd (o := .lst [.non, .int 0, .int 1, .bl true, .ref q1, .ref q2, .ref q3, .int (10 ^ (30 : Int).toNat)]) hq4
   have h14 := w4 _ _ h13
   have h24 := w4 _ _ h23
   have h34 := w4 _ _ h3
   have h4 : upd I3 q4 (.lst [.non, .int 0, .int 1, .bl true, .ref q1, .ref q2, .ref q3, .int (10 ^ (30 : Int).toNat)]) q4 = some (.lst [.non, .int 0, .int 1, .bl true, .ref q1, .ref q2, .ref q3, .int (10 ^ (30 : Int).toNat)]) := upd_same
   have aa4 : q4 ≠ a := N3.ne hq4
   have sw := ((w1.trans w2).trans w3).trans w4
   generalize hI4 : upd I3 q4 (.lst [.non, .int 0, .int 1, .bl true, .ref q1, .ref q2, .ref q3, .int (10 ^ (30 : Int).toNat)]) = I4 at *
   have hwn4 := sw _ _ hwn
   have hwl4 := sw _ _ hwl10
   have dw4 := dw10.mono sw
   clear hI4 w1 w2 w3 w4 sw h1 h2 h3 h12 h13 h23 N1 N2 N3 hq1 hq2 hq3 hq4 M10 hwn hwl10 dw10
   dsimp only [gName]
   refine seq_by (fun σ I5 => σ = [some (.ref sc), some (.int (i : Nat)), some (.ref a), some (.ref ca), some (.int (pl : Nat)), some (.ref t'), some (.str (mkS xs)), some (.ref wl), some (.int (b1 : Nat)), some (.ref wn), some vf, some (.str due), some (.ref q4), some (.str ("wire 0" : Str))] ∧ I5 = I4) ?_ (fun fin3 => ?_)
   rotate_left
   ·exact fin3 _ _ ⟨rfl, rfl⟩
   rintro σ I5 ⟨rfl, rfl⟩
   refine seq_by (fun σ I6 => ∃ due' odd : Str, σ = [some (.ref sc), some (.int (i : Nat)), some (.ref a), some (.ref ca), some (.int (pl : Nat)), some (.ref t'), some (.str (mkS xs)), some (.ref wl), some (.int (b1 : Nat)), some (.ref wn), some vf, some (.str due'), some (.ref q4), some (.str odd)] ∧ I6 = I5 ∧ ((¬ Om.Win rows b2 a2 ∧ due' = ("window" : Str) ∧ odd = ("window" : Str)) ∨ (Om.Win rows b2 a2 ∧ due' = due ∧ odd = wireS 0))) ?_ (fun fin4 => ?_)
   rotate_left
   ·refine ⟨wn, wl, [Sum.inl (b2 : Int), Sum.inl (a2 : Int)], wx, rfl, rfl, hwn4, hwl4, fun v hv => ?_, fun r hr => ?_⟩
    ·obtain ⟨j, hj⟩ := List.mem_iff_getElem?.mp hv
     have jl : j < (Om.wins rows).length := by rw [← wlen]; exact (List.getElem?_eq_some_iff.mp hj).1
     obtain ⟨v', hv', dvp⟩ := dw4.get (i := j) (d := pairD (Om.wins rows)[j]) (by rw [List.getElem?_map, List.getElem?_eq_getElem jl]; rfl)
     rw [hj] at hv'
     cases hv'
     obtain ⟨c, rfl, hc⟩ := pair_inv dvp
     exact ⟨c, [Sum.inl _, Sum.inl _], rfl, hc⟩
    have rw_ : r = true ↔ Om.Win rows b2 a2 := by
     rw [hr, ← wins_mem le6]
     constructor
     ·rintro ⟨c, hc, e⟩
      obtain ⟨j, hj⟩ := List.mem_iff_getElem?.mp hc
      have jl : j < (Om.wins rows).length := by rw [← wlen]; exact (List.getElem?_eq_some_iff.mp hj).1
      obtain ⟨v', hv', dvp⟩ := dw4.get (i := j) (d := pairD (Om.wins rows)[j]) (by rw [List.getElem?_map, List.getElem?_eq_getElem jl]; rfl)
      rw [hj] at hv'
      cases hv'
      obtain ⟨c', ec, hc'⟩ := pair_inv dvp
      cases ec
      rw [e] at hc'
      injection hc' with hc'
      injection hc' with hc'
      injection hc' with x1 x2
      injection x2 with x2 _
      injection x1 with x1
      injection x2 with x2
      have y1 : b2 = ((Om.wins rows)[j]).1 := Int.ofNat.inj x1
      have y2 : a2 = ((Om.wins rows)[j]).2 := Int.ofNat.inj x2
      rw [y1, y2]
      exact List.getElem_mem jl
     ·intro hm
      obtain ⟨j, hj⟩ := List.mem_iff_getElem?.mp hm
      obtain ⟨v', hv', dvp⟩ := dw4.get (i := j) (d := pairD (b2, a2)) (by rw [List.getElem?_map, hj]; rfl)
      obtain ⟨c', rfl, hc'⟩ := pair_inv dvp
      exact ⟨c', List.mem_of_getElem? hv', hc'⟩
    cases r with
    | false =>
     refine iteP rfl ?_
     exact fin4 _ _ ⟨_, _, rfl, rfl, .inl ⟨fun z => absurd (rw_.mpr z) (by decide), rfl, rfl⟩⟩
    | true =>
     refine iteF ?_
     exact fin4 _ _ ⟨_, _, rfl, rfl, .inr ⟨rw_.mp rfl, rfl, wire0.symm⟩⟩
   rintro σ I6 ⟨due', odd, rfl, rfl, hw⟩
   have wro : ∀ H : Hp, WrOk H n (.str (mkS xs)) := fun H => .inl ⟨xs, rfl, by omega, p320⟩
   dsimp only [tIfS, tOr, tBU, tOp, tCan, tCons, tNil, tV]
   refine asked_by (due := due') (dv.mono N4.s) ok hwn4 (by omega) (by omega) (wro _) ?_ (fun i j h h' => (wbad_mk.mp h).same (wbad_mk.mp h')) (fun i h al => (wbad_mk.mp h).not (wall_mk.mp al)) fun I6 s6 => ?_
   ·rcases hw with ⟨nw, rfl, _⟩ | ⟨wi, rfl, _⟩
    ·exact .inl ⟨nw, rfl⟩
    ·refine .inr ⟨wi, ?_⟩
     rcases hd with ⟨al, rfl⟩ | ⟨m, fb, rfl⟩
     ·exact .inr ⟨wall_mk.mpr al, rfl⟩
     ·exact .inl ⟨m, wbad_mk.mpr fb, rfl⟩
   dsimp only [tV, rNeU, rEqU]
   refine if_negP (by simp) ?_
   have N6 := N4.same s6
   refine ⟨N6.st, by decide, by decide, fun r I7 r0 r1 d7 o7 => ?_⟩
   have N7 := N6.take d7 o7
   have h17 := o7 _ _ (s6 _ _ h14) aa1
   have h27 := o7 _ _ (s6 _ _ h24) aa2
   have h37 := o7 _ _ (s6 _ _ h34) aa3
   have h47 := o7 _ _ (s6 _ _ h4) aa4
   have wna : wn ≠ a := fun z => by
    obtain ⟨x0, x1, x2, e⟩ := N6.st
    have e2 := s6 _ _ hwn4
    rw [z, e] at e2
    cases e2
   have hwn7 := o7 _ _ (s6 _ _ hwn4) wna
   have hx : ∃ v, getV I7 (.ref q4) r = some v ∧ ∃ Tx, tyN I7 v = some Tx ∧ Tx ≠ "str" := by
    have : r = 0 ∨ r = 1 ∨ r = 2 ∨ r = 3 ∨ r = 4 ∨ r = 5 ∨ r = 6 ∨ r = 7 := by omega
    rcases this with rfl | rfl | rfl | rfl | rfl | rfl | rfl | rfl
    ·exact ⟨_, gl h47 (by decide) rfl, _, rfl, by decide⟩
    ·exact ⟨_, gl h47 (by decide) rfl, _, rfl, by decide⟩
    ·exact ⟨_, gl h47 (by decide) rfl, _, rfl, by decide⟩
    ·exact ⟨_, gl h47 (by decide) rfl, _, rfl, by decide⟩
    ·exact ⟨.ref q1, gl h47 (by decide) rfl, "list", by simp [tyN, h17], by decide⟩
    ·exact ⟨.ref q2, gl h47 (by decide) rfl, "tuple", by simp [tyN, h27], by decide⟩
    ·exact ⟨.ref q3, gl h47 (by decide) rfl, "dict", by simp [tyN, h37], by decide⟩
    ·exact ⟨_, gl h47 (by decide) rfl, _, rfl, by decide⟩
   obtain ⟨v, hv, Tx, ht, hne⟩ := hx
   refine ⟨v, hv, ?_⟩
   dsimp only [tNil]
   refine asked_by (due := odd) (dv.mono N7.s) ok hwn7 (by omega) (by omega) (.inr ⟨Tx, ht, hne⟩) ?_ (fun i j h h' => ((wbad_odd ht hne).mp h).trans ((wbad_odd ht hne).mp h').symm) (fun i _ al => wall_odd ht hne al) fun I8 s8 => ?_
   ·rcases hw with ⟨nw, _, rfl⟩ | ⟨wi, _, rfl⟩
    ·exact .inl ⟨nw, rfl⟩
    ·exact .inr ⟨wi, .inl ⟨0, (wbad_odd ht hne).mpr rfl, rfl⟩⟩
   refine if_negP (by simp) ?_
   have N8 := N7.same s8
   have S8 : Same H0 I8 := fun x u e => N8.o x u (S0 _ _ e) (ne_of_none e ha)
   exact ⟨_, _, _, _, _, _, _, _, _, _, _, _, _, rfl, S8.seq hS0⟩
  ·rintro σ H2 ⟨v1, v2, v3, v4, v5, v6, v7, v8, v9, v10, v11, v12, v13, rfl, _⟩
   exact q _
 ·exact h.elim
end
end K35
end
section
namespace K35
open PySem L2
section
def keysStr (es : Array DictEntry) : Bool := es.all fun e => match e.key with | .str _ _ => true | _ => false
theorem keysStr_of {es : Array DictEntry} (h : keysStr es = true) : StrKeys es := fun e he => by
 have := (Array.all_eq_true_iff_forall_mem.mp h) e he
 split at this
 ·rename_i n t z; exact ⟨n, t, z⟩
 ·cases this
theorem find_ns {K : PySem.W.Frag} {N : Addr} {c1 : Value} {d1 : Option Addr} {es : Array DictEntry} {ep : Nat} {sl1 : Array (Option Value)} {x : Str} {v : Value} (hN : K.lookup N = some ⟨c1, d1, .dict es ep, sl1⟩) (e : PySem.W.nsIn K N x = some (some v)) : nsFind es x = some v := by
 unfold PySem.W.nsIn at e
 rw [hN] at e
 dsimp only at e
 split at e
 ·rename_i en he
  cases e
  unfold nsFind findBy
  rw [← Array.find?_toList, he]
  rfl
 ·split at e <;> cases e
open PySem.W in
theorem exn_mk {K : PySem.W.Frag} {C : Addr} {nm q : Str} {N B : Addr} {bs : List Value} {hdct : Bool} {sn : List Str} {sub : List Value} {ab : Bool} {col : Option Bool} {dd : Option Addr} {k0 k1 k2 k3 k5 : Option Value}
  {c1 : Value} {d1 : Option Addr} {es : Array DictEntry} {ep : Nat} {sl1 : Array (Option Value)} {cB : Value} {ddB : Option Addr} {slB : Array (Option Value)} {nmB qB : Str} {bsB mroB subB : List Value} {NB : Addr} {hdB abB delB : Bool} {snB : List Str} {colB : Option Bool}
  {c2 : Value} {d2 : Option Addr} {esB : Array DictEntry} {epB : Nat} {sl2 : Array (Option Value)}
  (hC : K.lookup C = some (excClassObj nm q C N bs (.ref B :: PySem.W.veM) hdct sn sub ab col dd k0 k1 k2 k3 k5 "ValueError.__new__")) (hN : K.lookup N = some ⟨c1, d1, .dict es ep, sl1⟩) (sN : keysStr es = true) (nN : (nsFind es "__init__").isNone = true)
  (hB : K.lookup B = some ⟨cB, ddB, .cls ⟨nmB, bsB, mroB, NB, qB, hdB, snB, subB, abB, colB, delB⟩, slB⟩) (hNB : K.lookup NB = some ⟨c2, d2, .dict esB epB, sl2⟩) (sB : keysStr esB = true) (nB : (nsFind esB "__init__").isNone = true) : ExnOk K C := by
 refine ⟨nm, q, N, bs, .ref B :: PySem.W.veM, hdct, sn, sub, ab, col, dd, k0, k1, k2, k3, k5, nsFind es, Option.isNone_iff_eq_none.mp nN, fun h X => ⟨X _ _ hC, ⟨_, es, ep, X _ _ hN, rfl, keysStr_of sN, fun _ => rfl⟩, ?_⟩⟩
 exact .own (X _ _ hB) ⟨_, esB, epB, X _ _ hNB, rfl, keysStr_of sB, fun _ => rfl⟩ (Option.isNone_iff_eq_none.mp nB) .base
def NW0 (K : PySem.W.Frag) (C : Addr) : Prop := ∃ (fI : Addr) (fd : FuncData), ExnI K C fI ∧ Fun K "__init__" "NoWire.__init__" sInit fI fd ∧ Binds K fd ["self", "at"] []
open PySem.W in
theorem nw_mk {K : PySem.W.Frag} {C fI : Addr} {nm q : Str} {N B : Addr} {bs : List Value} {sn : List Str} {sub : List Value} {ab : Bool} {col : Option Bool} {dd : Option Addr} {k0 k1 k2 k3 k5 : Option Value}
  {c1 : Value} {d1 : Option Addr} {es : Array DictEntry} {ep : Nat} {sl1 : Array (Option Value)} {cB : Value} {ddB : Option Addr} {slB : Array (Option Value)} {nmB qB : Str} {bsB mroB subB : List Value} {NB : Addr} {hdB abB delB : Bool} {snB : List Str} {colB : Option Bool}
  {c2 : Value} {d2 : Option Addr} {esB : Array DictEntry} {epB : Nat} {sl2 : Array (Option Value)} {oc : Value} {od an : Option Addr} {osl : Array (Option Value)} {kV dc pm cd ct : Value}
  (hC : K.lookup C = some (excClassObj nm q C N bs (.ref B :: PySem.W.veM) true sn sub ab col dd k0 k1 k2 k3 k5 "ValueError.__new__")) (hN : K.lookup N = some ⟨c1, d1, .dict es ep, sl1⟩) (sN : keysStr es = true) (nN : nsIn K N "__init__" = some (some (.ref fI)))
  (hB : K.lookup B = some ⟨cB, ddB, .cls ⟨nmB, bsB, mroB, NB, qB, hdB, snB, subB, abB, colB, delB⟩, slB⟩) (hNB : K.lookup NB = some ⟨c2, d2, .dict esB epB, sl2⟩) (sB : keysStr esB = true) (nB : (nsFind esB "__init__").isNone = true)
  (hI : K.lookup fI = some ⟨oc, od, .func (fnOf "__init__" "NoWire.__init__" (defArgs sInit) (defBody sInit) (defScope sInit) .none kV dc pm an cd ct), osl⟩) (cI : oc = .type "function") (hc : codeIn K cd "NoWire.__init__" = true) (hk : keepIn K (.ref fI) = true) : NW0 K C := by
 have F : Fun K "__init__" "NoWire.__init__" sInit fI _ := ⟨⟨oc, od, kV, dc, pm, an, cd, ct, osl, rfl, hI, hc⟩, hk⟩
 refine ⟨fI, _, ⟨nm, q, N, B, bs, sn, sub, ab, col, dd, k0, k1, k2, k3, k5, nsFind es, _, find_ns hN nN, cI, fun h X => ⟨X _ _ hC, ⟨_, es, ep, X _ _ hN, rfl, keysStr_of sN, fun _ => rfl⟩, ?_, X _ _ hI⟩⟩, F, Binds.all fun us hl => ?_⟩
 ·exact .own (X _ _ hB) ⟨_, esB, epB, X _ _ hNB, rfl, keysStr_of sB, fun _ => rfl⟩ (Option.isNone_iff_eq_none.mp nB) .base
 ·match us, hl with
  | [a0, a1], _ => rfl
theorem nw_of {P : Program} {w : World} {K : PySem.W.Frag} {mg : Str → Option Value} {base : Heap} {C B : Addr} (Z : NW0 K C) (W : ExnB K B) (S : ExnS K C) (hB : mg "BeatError" = some (.ref B)) (hC : mg "NoWire" = some (.ref C)) (hk : PySem.W.keepIn K (.ref C) = true) : NW P w K mg base C := by
 obtain ⟨fI, fd, Z1, F, b⟩ := Z
 exact ⟨fI, fd, Z1, ok_init F Z1 W S hB, b, hC, hk⟩
theorem exnB_mk {K : PySem.W.Frag} {B : Addr} (a1 : PySem.W.specialIn K (.ref B) "__getattribute__" = some (some (.builtin "type.__getattribute__"))) (a2 : PySem.W.readsIn K B (.type "type") = true) (a3 : PySem.W.findCls K (.ref B) (.type "type") "__init__" = some (.val (.builtin "ValueError.__init__"))) : ExnB K B := ⟨a1, a2, a3⟩
theorem exnS_mk {K : PySem.W.Frag} {C : Addr} (a1 : PySem.W.findIn K (.ref C) "__setattr__" = some (some (.builtin "object.__setattr__"))) (a2 : PySem.W.findIn K (.ref C) "at" = some none) : ExnS K C := ⟨a1, a2⟩
def Cl0 (K : PySem.W.Frag) (C : Addr) (x : Str) (b : Bool) : Prop := ∃ D, PySem.W.nsIn K mainGlobals x = some (some (.ref D)) ∧ PySem.W.kitOne K (.ref C) (.ref D) = some b
theorem cl0_mk {K : PySem.W.Frag} {C D : Addr} {x : Str} {b : Bool} (h : PySem.W.nsIn K mainGlobals x = some (some (.ref D))) (e : PySem.W.kitOne K (.ref C) (.ref D) = some b) : Cl0 K C x b := ⟨D, h, e⟩
theorem cl0_of {K : PySem.W.Frag} {h : Heap} {mg : Str → Option Value} {C : Addr} {x : Str} {b : Bool} (X : K.In h) (G : h.Ns mainGlobals mg) (z : Cl0 K C x b) : Cl K mg C x b := let ⟨D, h1, e⟩ := z; ⟨D, PySem.W.mg_of X G h1, e⟩
theorem xcls_mk {K : PySem.W.Frag} {C : Addr} (a1 : PySem.W.findIn K (.ref C) "__getattribute__" = some (some (.builtin "BaseException.__getattribute__"))) (a2 : PySem.W.findIn K (.ref C) "__getattr__" = some none) (a3 : PySem.W.mroIn K C (.type "BaseException") = some true)
  (b : (PySem.W.clsIn K C).isSome = true) (c : PySem.W.findIn K (.ref C) "__class__" = some (some (.builtin "object.__class__")))
  (d : PySem.W.specialIn K (.builtin "object.__class__") "__get__" = some (some (.builtin "getset_descriptor.__get__"))) (e : PySem.W.takesIn K (.builtin "object.__class__") = some true) (f : PySem.W.mroIn K C (.type "object") = some true) : PySem.W.ExCls K C := ⟨a1, a2, a3, b, c, d, e, f⟩
end
end K35
end
section
namespace K35
open PySem L2
theorem fnX_1 {K : PySem.W.Frag} {h : Heap} {mg : Str → Option Value} {x : Str} {st : Stmt} {p0 : Str} (D : DefIn K x st) (X : K.In h) (G : h.Ns mainGlobals mg)
  (hb : ∀ (kV doc pm : Value) (an : Option Addr) (cdv ct : Value) (a0 : Value), bindArgs (PySem.W.fnOf x x (defArgs st) (defBody st) (defScope st) .none kV doc pm an cdv ct) ⟨[a0], []⟩ = pure ([p0].zip [a0])) : FnX K mg x st [p0] :=
 D.fnX X G fun kV doc pm an cdv ct us hl => match us, hl with
  | [a0], _ => hb kV doc pm an cdv ct a0
theorem fnX_2 {K : PySem.W.Frag} {h : Heap} {mg : Str → Option Value} {x : Str} {st : Stmt} {p0 p1 : Str} (D : DefIn K x st) (X : K.In h) (G : h.Ns mainGlobals mg)
  (hb : ∀ (kV doc pm : Value) (an : Option Addr) (cdv ct : Value) (a0 a1 : Value), bindArgs (PySem.W.fnOf x x (defArgs st) (defBody st) (defScope st) .none kV doc pm an cdv ct) ⟨[a0, a1], []⟩ = pure ([p0, p1].zip [a0, a1])) : FnX K mg x st [p0, p1] :=
 D.fnX X G fun kV doc pm an cdv ct us hl => match us, hl with
  | [a0, a1], _ => hb kV doc pm an cdv ct a0 a1
theorem fnX_3 {K : PySem.W.Frag} {h : Heap} {mg : Str → Option Value} {x : Str} {st : Stmt} {p0 p1 p2 : Str} (D : DefIn K x st) (X : K.In h) (G : h.Ns mainGlobals mg)
  (hb : ∀ (kV doc pm : Value) (an : Option Addr) (cdv ct : Value) (a0 a1 a2 : Value), bindArgs (PySem.W.fnOf x x (defArgs st) (defBody st) (defScope st) .none kV doc pm an cdv ct) ⟨[a0, a1, a2], []⟩ = pure ([p0, p1, p2].zip [a0, a1, a2])) : FnX K mg x st [p0, p1, p2] :=
 D.fnX X G fun kV doc pm an cdv ct us hl => match us, hl with
  | [a0, a1, a2], _ => hb kV doc pm an cdv ct a0 a1 a2
theorem fnX_4 {K : PySem.W.Frag} {h : Heap} {mg : Str → Option Value} {x : Str} {st : Stmt} {p0 p1 p2 p3 : Str} (D : DefIn K x st) (X : K.In h) (G : h.Ns mainGlobals mg)
  (hb : ∀ (kV doc pm : Value) (an : Option Addr) (cdv ct : Value) (a0 a1 a2 a3 : Value), bindArgs (PySem.W.fnOf x x (defArgs st) (defBody st) (defScope st) .none kV doc pm an cdv ct) ⟨[a0, a1, a2, a3], []⟩ = pure ([p0, p1, p2, p3].zip [a0, a1, a2, a3])) : FnX K mg x st [p0, p1, p2, p3] :=
 D.fnX X G fun kV doc pm an cdv ct us hl => match us, hl with
  | [a0, a1, a2, a3], _ => hb kV doc pm an cdv ct a0 a1 a2 a3
theorem fnX_6 {K : PySem.W.Frag} {h : Heap} {mg : Str → Option Value} {x : Str} {st : Stmt} {p0 p1 p2 p3 p4 p5 : Str} (D : DefIn K x st) (X : K.In h) (G : h.Ns mainGlobals mg)
  (hb : ∀ (kV doc pm : Value) (an : Option Addr) (cdv ct : Value) (a0 a1 a2 a3 a4 a5 : Value), bindArgs (PySem.W.fnOf x x (defArgs st) (defBody st) (defScope st) .none kV doc pm an cdv ct) ⟨[a0, a1, a2, a3, a4, a5], []⟩ = pure ([p0, p1, p2, p3, p4, p5].zip [a0, a1, a2, a3, a4, a5])) : FnX K mg x st [p0, p1, p2, p3, p4, p5] :=
 D.fnX X G fun kV doc pm an cdv ct us hl => match us, hl with
  | [a0, a1, a2, a3, a4, a5], _ => hb kV doc pm an cdv ct a0 a1 a2 a3 a4 a5
theorem all_mk {l : PySem.W.OpenLaw} {w : World} {K : PySem.W.Frag} {h : Heap} {mg : Str → Option Value} {fa : Addr} (X : K.In h) (G : h.Ns mainGlobals mg) (hfa : mg "law" = some (.ref fa))
  (d1 : DefIn K "every_state" sEvery) (d2 : DefIn K "pair_steps" sPSteps) (d3 : DefIn K "pair_graph" sGraph) (d4 : DefIn K "layer_behind" sLayer) (d5 : DefIn K "unlike_steps" sUnlike) (d6 : DefIn K "is_whole" sWhole) (d7 : DefIn K "is_window" sWin) (d8 : DefIn K "pairs_behind" sBehind) (d9 : DefIn K "graph_tells" sGTells) (d10 : DefIn K "tells" sTells) (d11 : DefIn K "words_of" sWordsOf) (d12 : DefIn K "is_word" sWord) (d13 : DefIn K "given_words" sGiven) (d14 : DefIn K "whole_words" sWholeW) (d15 : DefIn K "states_behind_word" sBehW) (d16 : DefIn K "states_behind" sBeh) (d17 : DefIn K "states_by_letter" sByL) (d18 : DefIn K "letter_by" sLetBy) (d19 : DefIn K "read_by" sReadBy) (d20 : DefIn K "_law_cell" sCell) (d21 : DefIn K "_law_store" sStore) (d22 : DefIn K "_law_take" sTake) (d23 : DefIn K "_law_word" sWordN) (d24 : DefIn K "_law_branch" sBranch) (d25 : DefIn K "_law_code" sCodeS) (d26 : DefIn K "_law_rows" sRowsL) (d27 : DefIn K "_law_sent" sSentL) (d28 : DefIn K "_law_pairs" sPairs) (d29 : DefIn K "_law_steps" sSteps) (d30 : DefIn K "_law_parts" sParts) (d31 : DefIn K "_law_windows" sWindows) (d32 : DefIn K "_law_fault" sFault) (d33 : DefIn K "_law_class" sClass) (d34 : DefIn K "_law_asked" sAsked) (d35 : DefIn K "_law_spoilt" sSpoilt) (dl : DefIn K "law" sLaw)
  (z1 : PySem.W.nsIn K mainGlobals "len" = some none) (z2 : PySem.W.nsIn K mainGlobals "range" = some none) (z3 : PySem.W.nsIn K mainGlobals "isinstance" = some none) (z4 : PySem.W.nsIn K mainGlobals "int" = some none) (z5 : PySem.W.nsIn K mainGlobals "bool" = some none) (z6 : PySem.W.nsIn K mainGlobals "list" = some none) (z7 : PySem.W.nsIn K mainGlobals "dict" = some none) (z8 : PySem.W.nsIn K mainGlobals "str" = some none) (z9 : PySem.W.nsIn K mainGlobals "sorted" = some none) (z10 : PySem.W.nsIn K mainGlobals "max" = some none) (z11 : PySem.W.nsIn K mainGlobals "min" = some none) (z12 : PySem.W.nsIn K mainGlobals "enumerate" = some none) (z13 : PySem.W.nsIn K mainGlobals "ValueError" = some none) {xB : Addr} (hB : PySem.W.nsIn K mainGlobals "BeatError" = some (some (.ref xB))) (xW : ExnB K xB) {xNoWindow : Addr} (h_NoWindow : PySem.W.nsIn K mainGlobals "NoWindow" = some (some (.ref xNoWindow))) (xz_NoWindow : PySem.W.ExCls K xNoWindow) (xm_NoWindow : PySem.W.exmOne K (.ref xNoWindow) (.ref xB) = some true) (xo_NoWindow : ExnOk K xNoWindow) (q_NoWindow_NoLetter : Cl0 K xNoWindow "NoLetter" (decide (0 = 2))) (q_NoWindow_NoCode : Cl0 K xNoWindow "NoCode" (decide (1 = 2))) (q_NoWindow_NoWindow : Cl0 K xNoWindow "NoWindow" (decide (2 = 2))) (q_NoWindow_NoMark : Cl0 K xNoWindow "NoMark" (decide (3 = 2))) (q_NoWindow_NoText : Cl0 K xNoWindow "NoText" (decide (4 = 2))) (q_NoWindow_NoName : Cl0 K xNoWindow "NoName" (decide (5 = 2))) (q_NoWindow_NoRow : Cl0 K xNoWindow "NoRow" (decide (6 = 2))) (q_NoWindow_NoWire : Cl0 K xNoWindow "NoWire" (decide (7 = 2))) (kv_NoWindow : PySem.W.kitOne K (.ref xNoWindow) (.type "ValueError") = some true) {xNoWire : Addr} (h_NoWire : PySem.W.nsIn K mainGlobals "NoWire" = some (some (.ref xNoWire))) (xz_NoWire : PySem.W.ExCls K xNoWire) (xm_NoWire : PySem.W.exmOne K (.ref xNoWire) (.ref xB) = some true) (xn_NoWire : NW0 K xNoWire) (xS_NoWire : ExnS K xNoWire) (xk_NoWire : PySem.W.keepIn K (.ref xNoWire) = true) (q_NoWire_NoLetter : Cl0 K xNoWire "NoLetter" (decide (0 = 7))) (q_NoWire_NoCode : Cl0 K xNoWire "NoCode" (decide (1 = 7))) (q_NoWire_NoWindow : Cl0 K xNoWire "NoWindow" (decide (2 = 7))) (q_NoWire_NoMark : Cl0 K xNoWire "NoMark" (decide (3 = 7))) (q_NoWire_NoText : Cl0 K xNoWire "NoText" (decide (4 = 7))) (q_NoWire_NoName : Cl0 K xNoWire "NoName" (decide (5 = 7))) (q_NoWire_NoRow : Cl0 K xNoWire "NoRow" (decide (6 = 7))) (q_NoWire_NoWire : Cl0 K xNoWire "NoWire" (decide (7 = 7))) (kv_NoWire : PySem.W.kitOne K (.ref xNoWire) (.type "ValueError") = some true) :
  ∃ fd : FuncData, (∀ (s : Shared) (v : Value), BindsTo s fd ⟨[v], []⟩ [("script", v)]) ∧ ∀ base : Heap, K.In base → base.Ns mainGlobals mg → FnOk l.prog w K mg base CX0 7 fa fd ["script"] (spLaw K) := by
 obtain ⟨f, oc, od, an, osl, kV, dc, pm, cd, ct, h1, h2, h3, h4⟩ := dl
 have e := hfa.symm.trans (PySem.W.mg_of X G h1)
 cases e
 have F := fun_mk (st := sLaw) h2 h3 h4
 refine ⟨PySem.W.fnOf "law" "law" (defArgs sLaw) (defBody sLaw) (defScope sLaw) .none kV dc pm an cd ct, fun s v => .of_eq rfl, fun base _ _ => ?_⟩
 have z_len := PySem.W.mg_none_of X G z1
 have z_range := PySem.W.mg_none_of X G z2
 have z_isinstance := PySem.W.mg_none_of X G z3
 have z_int := PySem.W.mg_none_of X G z4
 have z_bool := PySem.W.mg_none_of X G z5
 have z_list := PySem.W.mg_none_of X G z6
 have z_dict := PySem.W.mg_none_of X G z7
 have z_str := PySem.W.mg_none_of X G z8
 have z_sorted := PySem.W.mg_none_of X G z9
 have z_max := PySem.W.mg_none_of X G z10
 have z_min := PySem.W.mg_none_of X G z11
 have z_enumerate := PySem.W.mg_none_of X G z12
 have z_ValueError := PySem.W.mg_none_of X G z13
 have m_BeatError := PySem.W.mg_of X G hB
 have m_NoWindow := PySem.W.mg_of X G h_NoWindow
 have kk_NoWindow : KindsOf K mg xNoWindow 2 := ⟨xz_NoWindow, cl0_of X G q_NoWindow_NoLetter, cl0_of X G q_NoWindow_NoCode, cl0_of X G q_NoWindow_NoWindow, cl0_of X G q_NoWindow_NoMark, cl0_of X G q_NoWindow_NoText, cl0_of X G q_NoWindow_NoName, cl0_of X G q_NoWindow_NoRow, cl0_of X G q_NoWindow_NoWire, kv_NoWindow⟩
 have m_NoWire := PySem.W.mg_of X G h_NoWire
 have kk_NoWire : KindsOf K mg xNoWire 7 := ⟨xz_NoWire, cl0_of X G q_NoWire_NoLetter, cl0_of X G q_NoWire_NoCode, cl0_of X G q_NoWire_NoWindow, cl0_of X G q_NoWire_NoMark, cl0_of X G q_NoWire_NoText, cl0_of X G q_NoWire_NoName, cl0_of X G q_NoWire_NoRow, cl0_of X G q_NoWire_NoWire, kv_NoWire⟩
 have nw_NoWire := nw_of (P := l.prog) (w := w) (base := base) xn_NoWire xW xS_NoWire m_BeatError m_NoWire xk_NoWire
 obtain ⟨fI_NoWire, fdI_NoWire, xI_NoWire, _, _⟩ := xn_NoWire
 have c_every := ok_every (P := l.prog) (w := w) (base := base) (fnX_1 d1 X G (fun _ _ _ _ _ _ _ => rfl)) z_list z_range z_len
 have c_psteps := ok_psteps (P := l.prog) (w := w) (base := base) (fnX_3 d2 X G (fun _ _ _ _ _ _ _ _ _ => rfl)) z_enumerate
 have c_graph := ok_graph (P := l.prog) (w := w) (base := base) (fnX_2 d3 X G (fun _ _ _ _ _ _ _ _ => rfl)) c_psteps
 have c_layer := ok_layer (P := l.prog) (w := w) (base := base) (fnX_2 d4 X G (fun _ _ _ _ _ _ _ _ => rfl))
 have c_unlike := ok_unlike (P := l.prog) (w := w) (base := base) (fnX_1 d5 X G (fun _ _ _ _ _ _ _ => rfl))
 have c_whole := ok_whole (P := l.prog) (w := w) (base := base) (fnX_1 d6 X G (fun _ _ _ _ _ _ _ => rfl)) z_isinstance z_int z_bool
 have c_win := ok_win (P := l.prog) (w := w) (base := base) (fnX_2 d7 X G (fun _ _ _ _ _ _ _ _ => rfl)) c_whole
 have c_behind := ok_behind (P := l.prog) (w := w) (base := base) (fnX_3 d8 X G (fun _ _ _ _ _ _ _ _ _ => rfl)) z_range c_layer
 have c_gtells := ok_gtells (P := l.prog) (w := w) (base := base) (fnX_3 d9 X G (fun _ _ _ _ _ _ _ _ _ => rfl)) c_behind c_layer c_unlike
 have c_tells := ok_tells (P := l.prog) (w := w) (base := base) (fnX_3 d10 X G (fun _ _ _ _ _ _ _ _ _ => rfl)) c_win c_gtells c_graph c_every
 have c_wordsOf := ok_wordsOf (P := l.prog) (w := w) (base := base) (fnX_2 d11 X G (fun _ _ _ _ _ _ _ _ => rfl)) z_range z_len
 have c_word := ok_word (P := l.prog) (w := w) (base := base) (fnX_2 d12 X G (fun _ _ _ _ _ _ _ _ => rfl)) z_isinstance z_str z_len
 have c_given := ok_given (P := l.prog) (w := w) (base := base) (fnX_2 d13 X G (fun _ _ _ _ _ _ _ _ => rfl)) z_isinstance z_str c_wordsOf nw_NoWire
 have c_wholeW := ok_wholeW (P := l.prog) (w := w) (base := base) (fnX_2 d14 X G (fun _ _ _ _ _ _ _ _ => rfl)) z_enumerate c_given c_word nw_NoWire
 have c_behW := ok_behW (P := l.prog) (w := w) (base := base) (fnX_3 d15 X G (fun _ _ _ _ _ _ _ _ _ => rfl)) z_sorted
 have c_beh := ok_beh (P := l.prog) (w := w) (base := base) (fnX_3 d16 X G (fun _ _ _ _ _ _ _ _ _ => rfl)) c_behW
 have c_byL := ok_byL (P := l.prog) (w := w) (base := base) (fnX_3 d17 X G (fun _ _ _ _ _ _ _ _ _ => rfl)) z_range z_enumerate
 have c_letBy := ok_letBy (P := l.prog) (w := w) (base := base) (fnX_3 d18 X G (fun _ _ _ _ _ _ _ _ _ => rfl)) z_enumerate c_beh c_every c_byL
 have c_readBy := ok_readBy (P := l.prog) (w := w) (base := base) (fnX_4 d19 X G (fun _ _ _ _ _ _ _ _ _ _ => rfl)) z_range z_len c_tells c_wholeW c_letBy xo_NoWindow m_NoWindow
 have c_cell := ok_cell (P := l.prog) (w := w) (base := base) (fnX_2 d20 X G (fun _ _ _ _ _ _ _ _ => rfl)) z_len
 have c_store := ok_store (P := l.prog) (w := w) (base := base) (fnX_1 d21 X G (fun _ _ _ _ _ _ _ => rfl))
 have c_take := ok_take (P := l.prog) (w := w) (base := base) (fnX_2 d22 X G (fun _ _ _ _ _ _ _ _ => rfl))
 have c_wordN := ok_wordN (P := l.prog) (w := w) (base := base) (fnX_2 d23 X G (fun _ _ _ _ _ _ _ _ => rfl)) z_range
 have c_branch := ok_branch (P := l.prog) (w := w) (base := base) (fnX_6 d24 X G (fun _ _ _ _ _ _ _ _ _ _ _ _ => rfl)) z_len c_take c_wordN
 have c_codeS := ok_codeS (P := l.prog) (w := w) (base := base) (fnX_2 d25 X G (fun _ _ _ _ _ _ _ _ => rfl)) z_range c_take c_wordN c_branch
 have c_rowsL := ok_rowsL (P := l.prog) (w := w) (base := base) (fnX_3 d26 X G (fun _ _ _ _ _ _ _ _ _ => rfl)) z_range z_len c_take
 have c_sentL := ok_sentL (P := l.prog) (w := w) (base := base) (fnX_3 d27 X G (fun _ _ _ _ _ _ _ _ _ => rfl))
 have c_pairs := ok_pairs (P := l.prog) (w := w) (base := base) (fnX_1 d28 X G (fun _ _ _ _ _ _ _ => rfl)) z_range z_len
 have c_steps := ok_steps (P := l.prog) (w := w) (base := base) (fnX_2 d29 X G (fun _ _ _ _ _ _ _ _ => rfl)) z_enumerate
 have c_parts := ok_parts (P := l.prog) (w := w) (base := base) (fnX_2 d30 X G (fun _ _ _ _ _ _ _ _ => rfl))
 have c_windows := ok_windows (P := l.prog) (w := w) (base := base) (fnX_1 d31 X G (fun _ _ _ _ _ _ _ => rfl)) z_range z_list z_dict c_pairs c_steps c_parts
 have c_fault := ok_fault (P := l.prog) (w := w) (base := base) (fnX_2 d32 X G (fun _ _ _ _ _ _ _ _ => rfl)) z_range z_len
 have c_class := ok_class (P := l.prog) (w := w) (base := base) (fnX_1 d33 X G (fun _ _ _ _ _ _ _ => rfl)) z_isinstance z_ValueError z_str kk_NoWindow kk_NoWire xI_NoWire xS_NoWire
 have c_asked := ok_asked (P := l.prog) (w := w) (base := base) (fnX_3 d34 X G (fun _ _ _ _ _ _ _ _ _ => rfl)) m_BeatError xm_NoWindow xm_NoWire c_readBy c_class
 have c_spoilt := ok_spoilt (P := l.prog) (w := w) (base := base) (fnX_2 d35 X G (fun _ _ _ _ _ _ _ _ => rfl)) z_len c_take
 exact ok_law F z_range z_len z_min z_max z_str c_cell c_store c_take c_codeS c_rowsL c_sentL c_spoilt c_windows c_fault c_asked
theorem walk {l : PySem.W.OpenLaw} {q : Program} {loose : List Str} {XP : (Str → Option Value) → Heap → Prop} {YP : World → Heap → Prop} {d : DefRec} {K : Params → PySem.W.Frag} (hn : l.most = some 63) (hdf : d.params.defaults = [])
  (hY : ∀ (w : World) (h : Heap), YP w h → (K w.params).In h)
  (F : ∀ (w : World) (mg : Str → Option Value) (fa : Addr) (h : Heap), (K w.params).In h → h.Ns mainGlobals mg → mg d.name = some (.ref fa) →
   ∃ fd : FuncData, (∀ (s : Shared) (u : Value), BindsTo s fd ⟨[u], []⟩ [("script", u)]) ∧ ∀ base : Heap, (K w.params).In base → base.Ns mainGlobals mg → FnOk l.prog w (K w.params) mg base CX0 7 fa fd ["script"] (spLaw (K w.params))) :
  PySem.W.WalkO q loose XP YP l.row.toRowW d [] (fun f vs => PySem.call f vs) :=
 L2.walk_of (n := 63) (k := 7) (x := "script") (CX := fun _ => CX0) (sp := fun w => spLaw (K w.params)) hn (by decide) hdf ⟨rfl, by decide, by decide⟩ hY F (fun _ _ a ns hl _ hS => ⟨ns, hS, hl, fun _ => rfl⟩) fun _ _ _ _ _ z => z
end K35
open PySem PySem.W PyProof.Rows
local macro_rules | `(tactic| walk_at "k_def") => `(tactic| ((refine' L2.DefIn.mk ?a ?l ?c ?k); (case a => k_is); (case l => k_is); (case c => k_is); (case k => k_is)))
set_option maxRecDepth 100000 in
set_option maxHeartbeats 0 in
theorem PySem.Challenge.cw_ownbeat_k35_no_window_and_no_wire_holds : PySem.Challenge.rw_ownbeat_k35_no_window_and_no_wire.Holds := by
 w_on; o_law
 refine PySem.W.holds_open (q := KH.V) (loose := []) (Xt := (fun s => xlAt KH.V [] s && recOk (RowW.records (OpenRow.toRowW KH.Rw.row)) s)) (N := 6392) (XP := PySem.W.XL KH.V []) (Yf := PySem.W.Hook.obs KH.hk) (Ya := PySem.W.Hook.val KH.hk) (YP := PySem.W.Hook.says KH.hk) ?hl (PySem.W.Hook.of KH.hk) (PySem.W.Hook.keeps KH.hk) (fun s e => PySem.W.xl_of s (Bool.and_eq_true_iff.mp e).1) PySem.W.XL.keeps (by rfl) (by rfl) (by rfl) (fun s e => PySem.W.recFacts_of (Bool.and_eq_true_iff.mp e).2) (by rfl) (by first | assumption | decide +kernel) (by decide +kernel) ⟨rfl, rfl, rfl, rfl, rfl, by decide +kernel⟩ ?hw ?hc
 (case hl => exact KH.HL)
 (case hw => w_witness2)
 delta KH.hk
 k_fill
 refine K35.walk (l := PySem.Challenge.rw_ownbeat_k35_no_window_and_no_wire) rfl rfl (fun w h Y => PySem.W.kIn_of Y) ?F
 case F =>
  intro w mg fa h KX G hmg
  refine' K35.all_mk KX G hmg ?d1 ?d2 ?d3 ?d4 ?d5 ?d6 ?d7 ?d8 ?d9 ?d10 ?d11 ?d12 ?d13 ?d14 ?d15 ?d16 ?d17 ?d18 ?d19 ?d20 ?d21 ?d22 ?d23 ?d24 ?d25 ?d26 ?d27 ?d28 ?d29 ?d30 ?d31 ?d32 ?d33 ?d34 ?d35 ?dl ?z1 ?z2 ?z3 ?z4 ?z5 ?z6 ?z7 ?z8 ?z9 ?z10 ?z11 ?z12 ?z13 ?hB ?xW ?h_NoWindow ?xz_NoWindow ?xm_NoWindow ?xo_NoWindow ?q_NoWindow_NoLetter ?q_NoWindow_NoCode ?q_NoWindow_NoWindow ?q_NoWindow_NoMark ?q_NoWindow_NoText ?q_NoWindow_NoName ?q_NoWindow_NoRow ?q_NoWindow_NoWire ?kv_NoWindow ?h_NoWire ?xz_NoWire ?xm_NoWire ?xn_NoWire ?xS_NoWire ?xk_NoWire ?q_NoWire_NoLetter ?q_NoWire_NoCode ?q_NoWire_NoWindow ?q_NoWire_NoMark ?q_NoWire_NoText ?q_NoWire_NoName ?q_NoWire_NoRow ?q_NoWire_NoWire ?kv_NoWire
  (case d1 => walk_at "k_def")
  (case d2 => walk_at "k_def")
  (case d3 => walk_at "k_def")
  (case d4 => walk_at "k_def")
  (case d5 => walk_at "k_def")
  (case d6 => walk_at "k_def")
  (case d7 => walk_at "k_def")
  (case d8 => walk_at "k_def")
  (case d9 => walk_at "k_def")
  (case d10 => walk_at "k_def")
  (case d11 => walk_at "k_def")
  (case d12 => walk_at "k_def")
  (case d13 => walk_at "k_def")
  (case d14 => walk_at "k_def")
  (case d15 => walk_at "k_def")
  (case d16 => walk_at "k_def")
  (case d17 => walk_at "k_def")
  (case d18 => walk_at "k_def")
  (case d19 => walk_at "k_def")
  (case d20 => walk_at "k_def")
  (case d21 => walk_at "k_def")
  (case d22 => walk_at "k_def")
  (case d23 => walk_at "k_def")
  (case d24 => walk_at "k_def")
  (case d25 => walk_at "k_def")
  (case d26 => walk_at "k_def")
  (case d27 => walk_at "k_def")
  (case d28 => walk_at "k_def")
  (case d29 => walk_at "k_def")
  (case d30 => walk_at "k_def")
  (case d31 => walk_at "k_def")
  (case d32 => walk_at "k_def")
  (case d33 => walk_at "k_def")
  (case d34 => walk_at "k_def")
  (case d35 => walk_at "k_def")
  (case dl => walk_at "k_def")
  (case z1 => k_is)
  (case z2 => k_is)
  (case z3 => k_is)
  (case z4 => k_is)
  (case z5 => k_is)
  (case z6 => k_is)
  (case z7 => k_is)
  (case z8 => k_is)
  (case z9 => k_is)
  (case z10 => k_is)
  (case z11 => k_is)
  (case z12 => k_is)
  (case z13 => k_is)
  (case hB => k_is)
  (case xW => ((refine' K35.exnB_mk ?a1 ?a2 ?a3); (case a1 => k_is); (case a2 => k_is); (case a3 => k_is)))
  (case h_NoWindow => k_is)
  (case xz_NoWindow => ((refine' K35.xcls_mk ?a1 ?a2 ?a3 ?a4 ?a5 ?a6 ?a7 ?a8); (case a1 => k_is); (case a2 => k_is); (case a3 => k_is); (case a4 => kernel_rfl); (case a5 => k_is); (case a6 => k_is); (case a7 => k_is); (case a8 => k_is)))
  (case xm_NoWindow => kernel_rfl)
  (case xo_NoWindow => ((refine' K35.exn_mk ?a1 ?a2 ?a3 ?a4 ?a5 ?a6 ?a7 ?a8); (case a1 => k_is); (case a2 => k_is); (case a3 => kernel_rfl); (case a4 => kernel_rfl); (case a5 => k_is); (case a6 => k_is); (case a7 => kernel_rfl); (case a8 => kernel_rfl)))
  (case q_NoWindow_NoLetter => ((refine' K35.cl0_mk ?a1 ?a2); (case a1 => k_is); (case a2 => kernel_rfl)))
  (case q_NoWindow_NoCode => ((refine' K35.cl0_mk ?a1 ?a2); (case a1 => k_is); (case a2 => kernel_rfl)))
  (case q_NoWindow_NoWindow => ((refine' K35.cl0_mk ?a1 ?a2); (case a1 => k_is); (case a2 => kernel_rfl)))
  (case q_NoWindow_NoMark => ((refine' K35.cl0_mk ?a1 ?a2); (case a1 => k_is); (case a2 => kernel_rfl)))
  (case q_NoWindow_NoText => ((refine' K35.cl0_mk ?a1 ?a2); (case a1 => k_is); (case a2 => kernel_rfl)))
  (case q_NoWindow_NoName => ((refine' K35.cl0_mk ?a1 ?a2); (case a1 => k_is); (case a2 => kernel_rfl)))
  (case q_NoWindow_NoRow => ((refine' K35.cl0_mk ?a1 ?a2); (case a1 => k_is); (case a2 => kernel_rfl)))
  (case q_NoWindow_NoWire => ((refine' K35.cl0_mk ?a1 ?a2); (case a1 => k_is); (case a2 => kernel_rfl)))
  (case kv_NoWindow => kernel_rfl)
  (case h_NoWire => k_is)
  (case xz_NoWire => ((refine' K35.xcls_mk ?a1 ?a2 ?a3 ?a4 ?a5 ?a6 ?a7 ?a8); (case a1 => k_is); (case a2 => k_is); (case a3 => k_is); (case a4 => kernel_rfl); (case a5 => k_is); (case a6 => k_is); (case a7 => k_is); (case a8 => k_is)))
  (case xm_NoWire => kernel_rfl)
  (case xn_NoWire => ((refine' K35.nw_mk ?a1 ?a2 ?a3 ?a4 ?a5 ?a6 ?a7 ?a8 ?b1 ?b2 ?b3 ?b4); (case a1 => k_is); (case a2 => k_is); (case a3 => kernel_rfl); (case a4 => k_is); (case a5 => k_is); (case a6 => k_is); (case a7 => kernel_rfl); (case a8 => kernel_rfl); (case b1 => k_is); (case b2 => rfl); (case b3 => k_is); (case b4 => k_is)))
  (case xS_NoWire => ((refine' K35.exnS_mk ?a1 ?a2); (case a1 => k_is); (case a2 => k_is)))
  (case xk_NoWire => k_is)
  (case q_NoWire_NoLetter => ((refine' K35.cl0_mk ?a1 ?a2); (case a1 => k_is); (case a2 => kernel_rfl)))
  (case q_NoWire_NoCode => ((refine' K35.cl0_mk ?a1 ?a2); (case a1 => k_is); (case a2 => kernel_rfl)))
  (case q_NoWire_NoWindow => ((refine' K35.cl0_mk ?a1 ?a2); (case a1 => k_is); (case a2 => kernel_rfl)))
  (case q_NoWire_NoMark => ((refine' K35.cl0_mk ?a1 ?a2); (case a1 => k_is); (case a2 => kernel_rfl)))
  (case q_NoWire_NoText => ((refine' K35.cl0_mk ?a1 ?a2); (case a1 => k_is); (case a2 => kernel_rfl)))
  (case q_NoWire_NoName => ((refine' K35.cl0_mk ?a1 ?a2); (case a1 => k_is); (case a2 => kernel_rfl)))
  (case q_NoWire_NoRow => ((refine' K35.cl0_mk ?a1 ?a2); (case a1 => k_is); (case a2 => kernel_rfl)))
  (case q_NoWire_NoWire => ((refine' K35.cl0_mk ?a1 ?a2); (case a1 => k_is); (case a2 => kernel_rfl)))
  (case kv_NoWire => kernel_rfl)
end
end
